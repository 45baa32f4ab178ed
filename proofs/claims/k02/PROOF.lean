import PyProof.Rows.All
import Wide.All
import OpenK.AllK
import Wide.FinOn
import PyProof.EqAt
import PyProof.EqKinds
import PyProof.TupleCall
import PyProof.ReprRoads
import HandS.ForMost
import HandS.IsInst
import HandS.Wide
import PyProof.InstNe
import HandS.Property
import HandS.SetBool
import HandS.Strs
import HandS.RaiseMore
import HandS.Dict
import HandS.TryMany
import HandS.ExcInit
import HandS.ExcField
import HandS.ExcOwn
import HandS.WordsExc
import PyProof.Rows.StrIntSpec
import HandS.FStr
import HandS.Text
import HandS.Steps
import HandS.Iter
import PySem.Challenge.RW_everyzone_k02_names_days_and_times
set_option Elab.async false
set_option linter.all false
set_option maxRecDepth 100000
set_option maxHeartbeats 4000000
/-! Data layer: pure expressions by the data they come to. M: addresses that may change; what is known stands outside of M. -/
namespace Dl
open PySem PySem.Spec PyProof.Rows L2

/-! ### what is known -/
def hid (M : List Addr) (H : Hp) : Hp := fun a => if a ∈ M then none else H a
def Live (M : List Addr) (H : Hp) : Prop := ∀ a ∈ M, H a ≠ none
section
variable {M : List Addr} {H H' : Hp} {a p : Addr} {o : HO}
theorem hid_of (n : a ∉ M) : hid M H a = H a := if_neg n
theorem hid_le : Same (hid M H) H := fun b o e => by
  unfold hid at e
  split at e
  · cases e
  · exact e
theorem hid_mono (s : Same H H') : Same (hid M H) (hid M H') := fun b o e => by
  unfold hid at e ⊢
  split at e
  · cases e
  · rename_i n; rw [if_neg n]; exact s b o e
theorem hid_nil : hid [] H = H := by funext b; unfold hid; rw [if_neg (by simp)]
theorem hid_upd_mem (h : p ∈ M) : hid M (upd H p o) = hid M H := by
  funext b; unfold hid
  split
  · rfl
  · rename_i n; rw [upd_ne (fun z => n (by rw [z]; exact h))]
theorem Live.mono (L : Live M H) (s : Same H H') : Live M H' := fun b hb z => by
  cases e : H b with
  | none => exact L b hb e
  | some o => rw [s b o e] at z; cases z
theorem Live.fresh (L : Live M H) (hp : H p = none) : p ∉ M := fun h => L p h hp
theorem Live.nil : Live [] H := fun _ h => by simp at h
theorem hid_new (L : Live M H) (hp : H p = none) : hid M (upd H p o) = upd (hid M H) p o := by
  funext b; unfold hid upd
  by_cases hb : b = p
  · subst hb; rw [if_neg (L.fresh hp), if_pos rfl, if_pos rfl]
  · rw [if_neg hb, if_neg hb]
theorem hid_free (hp : H p = none) : hid M H p = none := by unfold hid; split <;> first | rfl | exact hp
theorem hid_cons (hp : H p = none) : hid (p :: M) (upd H p o) = hid M H := by
  funext b; unfold hid
  by_cases hb : b = p
  · subst hb
    rw [if_pos (List.mem_cons_self ..)]
    split <;> first | rfl | exact hp.symm
  · by_cases hm : b ∈ M
    · rw [if_pos (List.mem_cons_of_mem _ hm), if_pos hm]
    · rw [if_neg (by simp [hb, hm]), if_neg hm, upd_ne hb]
theorem Live.cons (L : Live M H) (hp : H p = none) : Live (p :: M) (upd H p o) := fun b hb => by
  rcases List.mem_cons.mp hb with e | hb
  · subst e; rw [upd_same]; simp
  · rw [upd_ne (fun z => L b hb (by rw [z]; exact hp))]; exact L b hb
theorem Live.upd (L : Live M H) : Live M (upd H p o) := fun b hb => by
  by_cases e : b = p
  · subst e; rw [upd_same]; simp
  · rw [upd_ne e]; exact L b hb
theorem same_new (hp : H p = none) : Same H (upd H p o) := fun b u e => by rw [upd_ne (ne_of_none e hp)]; exact e
theorem Live.to (L : Live M H) (s : Same (hid [] H) H') : Live M H' := L.mono (by rw [hid_nil] at s; exact s)
theorem hid_hid : hid M (hid M H) = hid M H := by
  funext b; unfold hid; split <;> rfl
end
theorem same_seqT {K : PySem.W.Frag} {H H' : Hp} {a : Addr} {xs : List V} (e : Same H H') (h : SqT K H a xs) : SqT K H' a xs := by
  rcases h with (h | ⟨o, h⟩) | h
  · exact .inl (.inl (e _ _ h))
  · exact .inl (.inr ⟨o, e _ _ h⟩)
  · exact .inr h
mutual
/-- a value is the data (every list is one that is tracked) -/
inductive Dq (K : PySem.W.Frag) (H : Hp) : V → PyData → Prop
  | non : Dq K H .non .none
  | bl (b : Bool) : Dq K H (.bl b) (.bool b)
  | int (i : Int) : Dq K H (.int i) (.int i)
  | str (x : Str) : Dq K H (.str x) (.str x)
  | lst {a : Addr} {xs : List V} {ds : List PyData} : H a = some (.lst xs) → DqAll K H xs ds → Dq K H (.ref a) (.list ds)
  | tup {a : Addr} {xs : List V} {ds : List PyData} : SqT K H a xs → DqAll K H xs ds → Dq K H (.ref a) (.tuple ds)
inductive DqAll (K : PySem.W.Frag) (H : Hp) : List V → List PyData → Prop
  | nil : DqAll K H [] []
  | cons {v : V} {vs : List V} {d : PyData} {ds : List PyData} : Dq K H v d → DqAll K H vs ds → DqAll K H (v :: vs) (d :: ds)
end
mutual
theorem Dq.dp {K : PySem.W.Frag} {H : Hp} : ∀ (d : PyData) (v : V), Dq K H v d → Dp K H v d
  | .none, _, h => by cases h; exact .non
  | .bool b, _, h => by cases h; exact .bl b
  | .int i, _, h => by cases h; exact .int i
  | .str x, _, h => by cases h; exact .str x
  | .list ds, _, h => by
    cases h with
    | lst hs ha => exact .lst (SqL.of hs) (DqAll.dp ds _ ha)
  | .tuple ds, _, h => by
    cases h with
    | tup hs ha => exact .tup hs (DqAll.dp ds _ ha)
  | .dict _, _, h => by cases h
theorem DqAll.dp {K : PySem.W.Frag} {H : Hp} : ∀ (ds : List PyData) (vs : List V), DqAll K H vs ds → DpAll K H vs ds
  | [], _, h => by cases h; exact .nil
  | d :: ds, _, h => by
    cases h with
    | cons h1 h2 => exact .cons (Dq.dp d _ h1) (DqAll.dp ds _ h2)
end
mutual
theorem dp_mono {K : PySem.W.Frag} {H H' : Hp} (e : Same H H') : ∀ (d : PyData) (v : V), Dq K H v d → Dq K H' v d
  | .none, _, h => by cases h; exact .non
  | .bool b, _, h => by cases h; exact .bl b
  | .int i, _, h => by cases h; exact .int i
  | .str x, _, h => by cases h; exact .str x
  | .list ds, _, h => by
    cases h with
    | lst hs ha => exact .lst (e _ _ hs) (dpa_mono e ds _ ha)
  | .tuple ds, _, h => by
    cases h with
    | tup hs ha => exact .tup (same_seqT e hs) (dpa_mono e ds _ ha)
  | .dict _, _, h => by cases h
theorem dpa_mono {K : PySem.W.Frag} {H H' : Hp} (e : Same H H') : ∀ (ds : List PyData) (vs : List V), DqAll K H vs ds → DqAll K H' vs ds
  | [], _, h => by cases h; exact .nil
  | d :: ds, _, h => by
    cases h with
    | cons h1 h2 => exact .cons (dp_mono e d _ h1) (dpa_mono e ds _ h2)
end
section
variable {K : PySem.W.Frag} {H H' : Hp} {v : V} {vs : List V} {ds es : List PyData} {d : PyData}
theorem Dq.up (h : Dq K H v d) (e : Same H H') : Dq K H' v d := dp_mono e d v h
theorem DqAll.up (h : DqAll K H vs ds) (e : Same H H') : DqAll K H' vs ds := dpa_mono e ds vs h
theorem dpa_len : ∀ {vs : List V} {ds : List PyData}, DqAll K H vs ds → vs.length = ds.length
  | _, _, .nil => rfl
  | _, _, .cons _ h => by rw [List.length_cons, List.length_cons, dpa_len h]
theorem dpa_app : ∀ {vs ws : List V} {ds es : List PyData}, DqAll K H vs ds → DqAll K H ws es → DqAll K H (vs ++ ws) (ds ++ es)
  | _, _, _, _, .nil, h => h
  | _, _, _, _, .cons a b, h => .cons a (dpa_app b h)
theorem dpa_get : ∀ {vs : List V} {ds : List PyData} {i : Nat} {d : PyData}, DqAll K H vs ds → ds[i]? = some d → ∃ v, vs[i]? = some v ∧ Dq K H v d
  | _, _, _, _, .nil, e => by simp at e
  | _, _, 0, _, .cons a _, e => by simp at e; subst e; exact ⟨_, rfl, a⟩
  | _, _, i + 1, d, .cons _ b, e => by
    obtain ⟨v, h1, h2⟩ := dpa_get (i := i) (d := d) b (by simpa using e)
    exact ⟨v, by simpa using h1, h2⟩
theorem dpa_get' : ∀ {vs : List V} {ds : List PyData} {i : Nat} {v : V}, DqAll K H vs ds → vs[i]? = some v → ∃ d, ds[i]? = some d ∧ Dq K H v d
  | _, _, _, _, .nil, e => by simp at e
  | _, _, 0, _, .cons a _, e => by simp at e; subst e; exact ⟨_, rfl, a⟩
  | _, _, i + 1, v, .cons _ b, e => by
    obtain ⟨d, h1, h2⟩ := dpa_get' (i := i) (v := v) b (by simpa using e)
    exact ⟨d, by simpa using h1, h2⟩
theorem dpa_drop : ∀ (n : Nat) {vs : List V} {ds : List PyData}, DqAll K H vs ds → DqAll K H (vs.drop n) (ds.drop n)
  | 0, _, _, h => h
  | _ + 1, _, _, .nil => .nil
  | n + 1, _, _, .cons _ b => dpa_drop n b
theorem dpa_take : ∀ (n : Nat) {vs : List V} {ds : List PyData}, DqAll K H vs ds → DqAll K H (vs.take n) (ds.take n)
  | 0, _, _, _ => .nil
  | _ + 1, _, _, .nil => .nil
  | n + 1, _, _, .cons a b => .cons a (dpa_take n b)
theorem dp_int {i : Int} (h : Dq K H v (.int i)) : v = .int i := by cases h; rfl
theorem dp_bl {b : Bool} (h : Dq K H v (.bool b)) : v = .bl b := by cases h; rfl
theorem dp_str {x : Str} (h : Dq K H v (.str x)) : v = .str x := by cases h; rfl
theorem dp_non (h : Dq K H v .none) : v = .non := by cases h; rfl
theorem dp_lst (h : Dq K H v (.list ds)) : ∃ a xs, v = .ref a ∧ H a = some (.lst xs) ∧ DqAll K H xs ds := by
  cases h with
  | lst h1 h2 => exact ⟨_, _, rfl, h1, h2⟩
theorem dp_tup (h : Dq K H v (.tuple ds)) : ∃ a xs, v = .ref a ∧ SqT K H a xs ∧ DqAll K H xs ds := by
  cases h with
  | tup h1 h2 => exact ⟨_, _, rfl, h1, h2⟩
end
/-! ### readings by themselves -/
def RE (X : Cx) (e : Expr) : TE := fun σ H Q => ∃ t, PE X e t ∧ t σ H Q
def RT (X : Cx) (e : Expr) : TT := fun σ H Q => ∃ t, PT X e t ∧ t σ H Q
def RW (X : Cx) (e : Expr) : TT := fun σ H Q => ∃ t, PW X e t ∧ t σ H Q
def RA (X : Cx) (es : List Expr) : TA := fun σ H Q => ∃ t, PA X es t ∧ t σ H Q
def RS (X : Cx) (st : Stmt) : TS := fun D σ H => ∃ t, PS X st t ∧ t D σ H
def RB (X : Cx) (st : List Stmt) : TS := fun D σ H => ∃ t, PSs X st t ∧ t D σ H
def RI (X : Cx) (tg e : Expr) : TI := fun σ H R => ∃ t, PI X tg e t ∧ t σ H R
section
variable {X : Cx} {e tg : Expr} {es : List Expr} {st : Stmt} {sts : List Stmt}
theorem re_ : PE X e (RE X e) := ⟨fun pins s σ H Q I ⟨_, h, q⟩ => h.run pins s σ H Q I q⟩
theorem rt_ : PT X e (RT X e) := ⟨fun pins s σ H Q I ⟨_, h, q⟩ => h.run pins s σ H Q I q⟩
theorem rw_ : PW X e (RW X e) := ⟨fun wh pins s σ H Q I ⟨_, h, q⟩ => h.run wh pins s σ H Q I q⟩
theorem ra_ : PA X es (RA X es) := ⟨fun pos pins s σ H Q I ⟨_, h, q⟩ => h.run pos pins s σ H Q I q⟩
theorem rs_ : PS X st (RS X st) := ⟨fun pins s σ H D I ⟨_, h, q⟩ => h.run pins s σ H D I q⟩
theorem rb_ : PSs X sts (RB X sts) := ⟨fun pins s σ H D I ⟨_, h, q⟩ => h.run pins s σ H D I q⟩
theorem ri_ : PI X tg e (RI X tg e) := ⟨fun pins s σ H R I ⟨_, h, q⟩ => h.run pins s σ H R I q⟩
end
/-! ### what an expression comes to -/
/-- the data d; an exact value v; a new list of the data ds; arguments; a test -/
def XD (X : Cx) (M : List Addr) (σ : L2.St) (H : Hp) (e : Expr) (d : PyData) : Prop := ∀ H1, Same H H1 → ∀ Q : VK, (∀ v H2, Same H1 H2 → Dq X.K (hid M H2) v d → Q v H2) → RE X e σ H1 Q
def XV (X : Cx) (σ : L2.St) (H : Hp) (e : Expr) (v : V) : Prop := ∀ H1, Same H H1 → ∀ Q : VK, (∀ H2, Same H1 H2 → Q v H2) → RE X e σ H1 Q
def XL (X : Cx) (M : List Addr) (σ : L2.St) (H : Hp) (e : Expr) (ds : List PyData) : Prop :=
  ∀ H1, Same H H1 → ∀ Q : VK, (∀ p xs H2, Same H1 H2 → H1 p = none → H2 p = some (.lst xs) → DqAll X.K (hid M H2) xs ds → Q (.ref p) H2) → RE X e σ H1 Q
def XA (X : Cx) (M : List Addr) (σ : L2.St) (H : Hp) (es : List Expr) (ds : List PyData) : Prop := ∀ H1, Same H H1 → ∀ Q : List V → Hp → Prop, (∀ vs H2, Same H1 H2 → DqAll X.K (hid M H2) vs ds → Q vs H2) → RA X es σ H1 Q
def XT (X : Cx) (σ : L2.St) (H : Hp) (e : Expr) (b : Bool) : Prop := ∀ H1, Same H H1 → ∀ Q : Bool → Hp → Prop, (∀ H2, Same H1 H2 → Q b H2) → RT X e σ H1 Q
def XW (X : Cx) (σ : L2.St) (H : Hp) (e : Expr) (b : Bool) : Prop := ∀ H1, Same H H1 → ∀ Q : Bool → Hp → Prop, (∀ H2, Same H1 H2 → Q b H2) → RW X e σ H1 Q
section
variable {X : Cx} {M : List Addr} {σ : L2.St} {H H' : Hp} {e a b c : Expr} {es : List Expr} {d d1 d2 : PyData} {ds es' : List PyData} {i : Nat} {x : Str} {v : V} {pos : Pos}
theorem XD.up (h : XD X M σ H e d) (s : Same H H') : XD X M σ H' e d := fun H1 q => h H1 (s.trans q)
theorem XV.up (h : XV X σ H e v) (s : Same H H') : XV X σ H' e v := fun H1 q => h H1 (s.trans q)
theorem XL.up (h : XL X M σ H e ds) (s : Same H H') : XL X M σ H' e ds := fun H1 q => h H1 (s.trans q)
theorem XA.up (h : XA X M σ H es ds) (s : Same H H') : XA X M σ H' es ds := fun H1 q => h H1 (s.trans q)
theorem XT.up {b : Bool} (h : XT X σ H e b) (s : Same H H') : XT X σ H' e b := fun H1 q => h H1 (s.trans q)
theorem XD.to {d' : PyData} (h : XD X M σ H e d) (q : d = d') : XD X M σ H e d' := q ▸ h
theorem XL.to {ds' : List PyData} (h : XL X M σ H e ds) (q : ds = ds') : XL X M σ H e ds' := q ▸ h
theorem XT.to {k k' : Bool} (h : XT X σ H e k) (q : k = k') : XT X σ H e k' := q ▸ h
theorem XV.dd (h : XV X σ H e v) (hd : Dq X.K (hid M H) v d) : XD X M σ H e d := fun H1 s Q q => h H1 s Q fun H2 s2 => q v H2 s2 (dp_mono (hid_mono (s.trans s2)) d v hd)
theorem XV.int {n : Int} (h : XV X σ H e (.int n)) : XD X M σ H e (.int n) := h.dd (.int n)
theorem XD.vint {n : Int} (h : XD X M σ H e (.int n)) : XV X σ H e (.int n) := fun H1 s Q q => h H1 s Q fun v H2 s2 hv => by rw [dp_int hv]; exact q H2 s2
theorem XD.vbl {k : Bool} (h : XD X M σ H e (.bool k)) : XV X σ H e (.bl k) := fun H1 s Q q => h H1 s Q fun v H2 s2 hv => by rw [dp_bl hv]; exact q H2 s2
theorem XD.vstr {z : Str} (h : XD X M σ H e (.str z)) : XV X σ H e (.str z) := fun H1 s Q q => h H1 s Q fun v H2 s2 hv => by rw [dp_str hv]; exact q H2 s2
theorem XL.dd (h : XL X M σ H e ds) (L : Live M H) : XD X M σ H e (.list ds) := fun H1 s Q q => h H1 s Q fun p xs H2 s2 hp h2 hd =>
  q _ H2 s2 (.lst (by rw [hid_of (fun z => (L.mono s) p z hp)]; exact h2) hd)
/-! names, constants -/
theorem xv_name (i : Nat) {x : Str} {v : V} {pos : Pos} (hv : σ[i]? = some (some v)) (hN : X.N[i]? = some x := by rfl) (hs : Vis X.env.scope x := by first | exact Or.inl rfl | exact Or.inr (Or.inl rfl) | exact Or.inr (Or.inr rfl))
    (hb : (x == ("__debug__" : Str)) = false := by decide) (hc : (x == ("__classdict__" : Str)) = false := by decide) : XV X σ H (.Name x pos) v := fun H1 _ Q q => ⟨_, pe_var hN hs hb hc, v, hv, q H1 (Same.refl _)⟩
theorem xd_name (i : Nat) {x : Str} {v : V} {pos : Pos} (hv : σ[i]? = some (some v)) (hd : Dq X.K (hid M H) v d) (hN : X.N[i]? = some x := by rfl) (hs : Vis X.env.scope x := by first | exact Or.inl rfl | exact Or.inr (Or.inl rfl) | exact Or.inr (Or.inr rfl))
    (hb : (x == ("__debug__" : Str)) = false := by decide) (hc : (x == ("__classdict__" : Str)) = false := by decide) : XD X M σ H (.Name x pos) d := (xv_name i hv hN hs hb hc).dd hd
theorem xv_int {n : Int} {j} : XV X σ H (.Constant (.int n) j pos) (.int n) := fun H1 _ Q q => ⟨_, pe_int, q H1 (Same.refl _)⟩
theorem xd_int {n : Int} {j} : XD X M σ H (.Constant (.int n) j pos) (.int n) := xv_int.int
theorem xv_str {z : Str} {j} : XV X σ H (.Constant (.str z) j pos) (.str z) := fun H1 _ Q q => ⟨_, pe_str, q H1 (Same.refl _)⟩
theorem xd_str {z : Str} {j} : XD X M σ H (.Constant (.str z) j pos) (.str z) := xv_str.dd (.str z)
theorem xd_bl {k : Bool} {j} : XD X M σ H (.Constant (.bool k) j pos) (.bool k) := fun H1 _ Q q => ⟨_, pe_bl, q _ H1 (Same.refl _) (.bl k)⟩
theorem xd_non {j} : XD X M σ H (.Constant .none j pos) .none := fun H1 _ Q q => ⟨_, pe_non, q _ H1 (Same.refl _) .non⟩
theorem xv_glob {u : Value} (hm : X.mg x = some u) (r : RelV v u) (hg : Gl X x := by rfl) (hd : (x == ("__debug__" : Str)) = false := by decide) : XV X σ H (.Name x pos) v := fun H1 _ Q q => ⟨_, pe_glob hg hm r hd, q H1 (Same.refl _)⟩
theorem xv_bltn {u : Value} (hm : X.mg x = none) (hv : bootBuiltins x = some u) (r : RelV v u) (hg : Gl X x := by rfl) (hn : x ≠ "__name__" := by decide) (hd : (x == ("__debug__" : Str)) = false := by decide) : XV X σ H (.Name x pos) v :=
  fun H1 _ Q q => ⟨_, pe_bltn hg hm hv r hn hd, q H1 (Same.refl _)⟩
/-! displays -/
theorem xa_nil : XA X M σ H [] [] := fun H1 _ Q q => ⟨_, pa_nil, q [] H1 (Same.refl _) .nil⟩
theorem xa_cons (ha : XD X M σ H e d) (hr : XA X M σ H es ds) (hs : starEach (e :: es) X.env = (false, eval e X.env) :: starEach es X.env := by rfl) : XA X M σ H (e :: es) (d :: ds) := fun H1 s Q q =>
  ⟨_, pa_cons re_ ra_ hs, ha H1 s _ fun v H2 s2 hv => hr H2 (s.trans s2) _ fun vs H3 s3 hvs => q _ H3 (s2.trans s3) (.cons (hv.up (hid_mono s3)) hvs)⟩
theorem small_sz {n : Nat} (h : n ≤ 100000) : n ≤ sizeLine := Nat.le_trans h (by decide)
theorem xd_tup {x1} (L : Live M H) (h : XA X M σ H es ds) (hl : ds.length ≤ 100000 := by simp) : XD X M σ H (.Tuple es x1 pos) (.tuple ds) := fun H1 s Q q =>
  ⟨_, pe_tup ra_, h H1 s _ fun vs H2 s2 hvs => ⟨by rw [dpa_len hvs]; exact small_sz hl, fun p hp => q _ _ (s2.trans (same_new hp)) (by
    rw [hid_new (L.mono (s.trans s2)) hp]
    exact .tup (SqT.of upd_same) (hvs.up (same_new (hid_free hp))))⟩⟩
theorem xl_lst (L : Live M H) (h : XA X M σ H es ds) (hl : ds.length ≤ 100000 := by simp) : XL X M σ H (.List es pos) ds := fun H1 s Q q =>
  ⟨_, pe_lst ra_, h H1 s _ fun vs H2 s2 hvs => ⟨by rw [dpa_len hvs]; exact small_sz hl, fun p hp => q p vs _ (s2.trans (same_new hp)) (s2.free hp) upd_same (by
    rw [hid_new (L.mono (s.trans s2)) hp]
    exact hvs.up (same_new (hid_free hp)))⟩⟩
theorem xd_lst (L : Live M H) (h : XA X M σ H es ds) (hl : ds.length ≤ 100000 := by simp) : XD X M σ H (.List es pos) (.list ds) := (xl_lst L h hl).dd L
/-! operators -/
theorem xd_bin {op : Operator} {r : R2} (ho : OpR X (binaryOp op) r) (ha : XD X M σ H a d1) (hb : XD X M σ H b d2)
    (hr : ∀ H1 v w, Same H H1 → Dq X.K (hid M H1) v d1 → Dq X.K (hid M H1) w d2 → ∀ Q : VK, (∀ u H2, Same H1 H2 → Dq X.K (hid M H2) u d → Q u H2) → r v w H1 Q) : XD X M σ H (.BinOp a op b pos) d := fun H1 s Q q =>
  ⟨_, pe_op ho re_ re_, ha H1 s _ fun v H2 s2 hv => hb H2 (s.trans s2) _ fun w H3 s3 hw => hr H3 v w ((s.trans s2).trans s3) (hv.up (hid_mono s3)) hw Q fun u H4 s4 hu => q u H4 ((s2.trans s3).trans s4) hu⟩
theorem xd_binI {op : Operator} {C : Int → Int → Prop} {g : Int → Int → Int} {m n : Int} (ho : OpR X (binaryOp op) (rI C fun i j => .int (g i j))) (ha : XD X M σ H a (.int m)) (hb : XD X M σ H b (.int n)) (hc : C m n) : XD X M σ H (.BinOp a op b pos) (.int (g m n)) :=
  xd_bin ho ha hb fun H1 v w s hv hw Q q => ⟨m, n, dp_int hv, dp_int hw, hc, q _ H1 (Same.refl _) (.int _)⟩
theorem xd_binI0 {op : Operator} {g : Int → Int → Int} {m n : Int} (ho : OpR X (binaryOp op) (rI0 fun i j => .int (g i j))) (ha : XD X M σ H a (.int m)) (hb : XD X M σ H b (.int n)) : XD X M σ H (.BinOp a op b pos) (.int (g m n)) :=
  xd_bin ho ha hb fun H1 v w s hv hw Q q => ⟨m, n, dp_int hv, dp_int hw, q _ H1 (Same.refl _) (.int _)⟩
theorem xd_add {m n : Int} (ha : XD X M σ H a (.int m)) (hb : XD X M σ H b (.int n)) : XD X M σ H (.BinOp a .Add b pos) (.int (m + n)) := xd_binI0 op_add ha hb
theorem xd_sub {m n : Int} (ha : XD X M σ H a (.int m)) (hb : XD X M σ H b (.int n)) : XD X M σ H (.BinOp a .Sub b pos) (.int (m - n)) := xd_binI0 op_sub ha hb
theorem xd_mul {m n : Int} (ha : XD X M σ H a (.int m)) (hb : XD X M σ H b (.int n)) (hc : (-(2 ^ 64) < m ∧ m < 2 ^ 64) ∨ (-(2 ^ 64) < n ∧ n < 2 ^ 64)) : XD X M σ H (.BinOp a .Mult b pos) (.int (m * n)) := xd_binI op_mul ha hb hc
theorem xd_neg {m : Int} (ha : XD X M σ H a (.int m)) : XD X M σ H (.UnaryOp .USub a pos) (.int (-m)) := fun H1 s Q q =>
  ⟨_, pe_un un_neg re_, ha H1 s _ fun v H2 s2 hv => ⟨m, dp_int hv, q _ H2 s2 (.int _)⟩⟩
/-! comparisons -/
theorem xd_cmp {op : CmpOp} {r : R2} (ho : OpR X (compareOp op) r) (ha : XD X M σ H a d1) (hb : XD X M σ H b d2)
    (hr : ∀ H1 v w, Same H H1 → Dq X.K (hid M H1) v d1 → Dq X.K (hid M H1) w d2 → ∀ Q : VK, (∀ u H2, Same H1 H2 → Dq X.K (hid M H2) u d → Q u H2) → r v w H1 Q)
    (hm : behindInMarks op b = false := by first | exact nomark _ | rfl) : XD X M σ H (.Compare a [op] [b] pos) d := fun H1 s Q q =>
  ⟨_, pe_cmpR ho re_ re_ hm, ha H1 s _ fun v H2 s2 hv => hb H2 (s.trans s2) _ fun w H3 s3 hw => hr H3 v w ((s.trans s2).trans s3) (hv.up (hid_mono s3)) hw Q fun u H4 s4 hu => q u H4 ((s2.trans s3).trans s4) hu⟩
theorem xt_cmp {k : Bool} {op : CmpOp} {r : R2} (ho : OpR X (compareOp op) r) (ha : XD X M σ H a d1) (hb : XD X M σ H b d2)
    (hr : ∀ H1 v w, Same H H1 → Dq X.K (hid M H1) v d1 → Dq X.K (hid M H1) w d2 → ∀ Q : VK, (∀ H2, Same H1 H2 → Q (.bl k) H2) → r v w H1 Q)
    (hm : behindInMarks op b = false := by first | exact nomark _ | rfl) : XT X σ H (.Compare a [op] [b] pos) k := fun H1 s Q q =>
  ⟨_, pt_cmpR ho re_ re_ hm, ha H1 s _ fun v H2 s2 hv => hb H2 (s.trans s2) _ fun w H3 s3 hw => hr H3 v w ((s.trans s2).trans s3) (hv.up (hid_mono s3)) hw _ fun H4 s4 => ⟨k, rfl, q H4 ((s2.trans s3).trans s4)⟩⟩
theorem xt_cmpI {op : CmpOp} {g : Int → Int → Bool} {m n : Int} (ho : OpR X (compareOp op) (rI0 fun i j => .bl (g i j))) (ha : XD X M σ H a (.int m)) (hb : XD X M σ H b (.int n)) (hm : behindInMarks op b = false := by exact nomark _) : XT X σ H (.Compare a [op] [b] pos) (g m n) :=
  xt_cmp ho ha hb (fun H1 v w s hv hw Q q => ⟨m, n, dp_int hv, dp_int hw, q H1 (Same.refl _)⟩) hm
theorem xd_cmpI {op : CmpOp} {g : Int → Int → Bool} {m n : Int} (ho : OpR X (compareOp op) (rI0 fun i j => .bl (g i j))) (ha : XD X M σ H a (.int m)) (hb : XD X M σ H b (.int n)) (hm : behindInMarks op b = false := by exact nomark _) : XD X M σ H (.Compare a [op] [b] pos) (.bool (g m n)) :=
  xd_cmp ho ha hb (fun H1 v w s hv hw Q q => ⟨m, n, dp_int hv, dp_int hw, q _ H1 (Same.refl _) (.bl _)⟩) hm
theorem dec_int {m n : Int} : decide (V.int m = V.int n) = decide (m = n) := by
  by_cases h : m = n
  · subst h; simp
  · rw [decide_eq_false h, decide_eq_false fun z => h (V.int.inj z)]
theorem xd_eqI {m n : Int} (ha : XD X M σ H a (.int m)) (hb : XD X M σ H b (.int n)) : XD X M σ H (.Compare a [.Eq] [b] pos) (.bool (decide (m = n))) :=
  xd_cmp op_eq ha hb fun H1 v w s hv hw Q q => by
    rw [dp_int hv, dp_int hw]
    exact ⟨rfl, by rw [dec_int]; exact q _ H1 (Same.refl _) (.bl _)⟩
theorem xd_neI {m n : Int} (ha : XD X M σ H a (.int m)) (hb : XD X M σ H b (.int n)) : XD X M σ H (.Compare a [.NotEq] [b] pos) (.bool (!decide (m = n))) :=
  xd_cmp op_ne ha hb fun H1 v w s hv hw Q q => by
    rw [dp_int hv, dp_int hw]
    exact ⟨rfl, by rw [dec_int]; exact q _ H1 (Same.refl _) (.bl _)⟩
theorem xt_eqI {m n : Int} (ha : XD X M σ H a (.int m)) (hb : XD X M σ H b (.int n)) : XT X σ H (.Compare a [.Eq] [b] pos) (decide (m = n)) :=
  xt_cmp op_eq ha hb fun H1 v w s hv hw Q q => by
    rw [dp_int hv, dp_int hw]
    exact ⟨rfl, by rw [dec_int]; exact q H1 (Same.refl _)⟩
theorem xt_neI {m n : Int} (ha : XD X M σ H a (.int m)) (hb : XD X M σ H b (.int n)) : XT X σ H (.Compare a [.NotEq] [b] pos) (!decide (m = n)) :=
  xt_cmp op_ne ha hb fun H1 v w s hv hw Q q => by
    rw [dp_int hv, dp_int hw]
    exact ⟨rfl, by rw [dec_int]; exact q H1 (Same.refl _)⟩
theorem xd_eqD (hu : X.A.units + 64 < cLine) (ha : XD X M σ H a d1) (hb : XD X M σ H b d2) (s1 : SeqAt.shaped d1 = true) (s2 : SeqAt.shaped d2 = true) : XD X M σ H (.Compare a [.Eq] [b] pos) (.bool (PyData.eqv d1 d2)) :=
  xd_cmp (op_eqD hu) ha hb fun H1 v w s hv hw Q q => ⟨d1, d2, (hv.up hid_le).dp, (hw.up hid_le).dp, s1, s2, q _ H1 (Same.refl _) (.bl _)⟩
theorem xd_neD (hu : X.A.units + 64 < cLine) (ha : XD X M σ H a d1) (hb : XD X M σ H b d2) (s1 : SeqAt.shaped d1 = true) (s2 : SeqAt.shaped d2 = true) : XD X M σ H (.Compare a [.NotEq] [b] pos) (.bool (!PyData.eqv d1 d2)) :=
  xd_cmp (op_neD hu) ha hb fun H1 v w s hv hw Q q => ⟨d1, d2, (hv.up hid_le).dp, (hw.up hid_le).dp, s1, s2, q _ H1 (Same.refl _) (.bl _)⟩
theorem xt_eqD (hu : X.A.units + 64 < cLine) (ha : XD X M σ H a d1) (hb : XD X M σ H b d2) (s1 : SeqAt.shaped d1 = true) (s2 : SeqAt.shaped d2 = true) : XT X σ H (.Compare a [.Eq] [b] pos) (PyData.eqv d1 d2) :=
  xt_cmp (op_eqD hu) ha hb fun H1 v w s hv hw Q q => ⟨d1, d2, (hv.up hid_le).dp, (hw.up hid_le).dp, s1, s2, q H1 (Same.refl _)⟩
theorem xt_neD (hu : X.A.units + 64 < cLine) (ha : XD X M σ H a d1) (hb : XD X M σ H b d2) (s1 : SeqAt.shaped d1 = true) (s2 : SeqAt.shaped d2 = true) : XT X σ H (.Compare a [.NotEq] [b] pos) (!PyData.eqv d1 d2) :=
  xt_cmp (op_neD hu) ha hb fun H1 v w s hv hw Q q => ⟨d1, d2, (hv.up hid_le).dp, (hw.up hid_le).dp, s1, s2, q H1 (Same.refl _)⟩
/-! not, and, or -/
theorem xd_not {k : Bool} (ha : XD X M σ H a (.bool k)) : XD X M σ H (.UnaryOp .Not a pos) (.bool (!k)) := fun H1 s Q q =>
  ⟨_, pe_not re_, ha H1 s _ fun v H2 s2 hv => ⟨k, dp_bl hv, q _ H2 s2 (.bl _)⟩⟩
theorem xd_one {op} (ha : XD X M σ H a d) : XD X M σ H (.BoolOp op [a] pos) d := fun H1 s Q q => ⟨_, pe_one re_, ha H1 s Q q⟩
theorem xd_andT {rest : List Expr} (ha : XD X M σ H a (.bool true)) (hb : XD X M σ H (.BoolOp .And (b :: rest) pos) d) : XD X M σ H (.BoolOp .And (a :: b :: rest) pos) d := fun H1 s Q q =>
  ⟨_, pe_and re_ re_, ha H1 s _ fun v H2 s2 hv => ⟨true, dp_bl hv, iteT (hb H2 (s.trans s2) Q fun u H3 s3 hu => q u H3 (s2.trans s3) hu)⟩⟩
theorem xd_andF {rest : List Expr} (ha : XD X M σ H a (.bool false)) : XD X M σ H (.BoolOp .And (a :: b :: rest) pos) (.bool false) := fun H1 s Q q =>
  ⟨_, pe_and re_ re_, ha H1 s _ fun v H2 s2 hv => ⟨false, dp_bl hv, iteF (q _ H2 s2 (.bl _))⟩⟩
theorem xd_and2 {k1 k2 : Bool} (ha : XD X M σ H a (.bool k1)) (hb : k1 = true → XD X M σ H b (.bool k2)) : XD X M σ H (.BoolOp .And [a, b] pos) (.bool (k1 && k2)) := by
  cases k1 with
  | true => exact xd_andT ha (xd_one (hb rfl))
  | false => exact xd_andF ha
theorem xd_orF {rest : List Expr} (ha : XD X M σ H a (.bool false)) (hb : XD X M σ H (.BoolOp .Or (b :: rest) pos) d) : XD X M σ H (.BoolOp .Or (a :: b :: rest) pos) d := fun H1 s Q q =>
  ⟨_, pe_or re_ re_, ha H1 s _ fun v H2 s2 hv => ⟨false, dp_bl hv, iteF (hb H2 (s.trans s2) Q fun u H3 s3 hu => q u H3 (s2.trans s3) hu)⟩⟩
theorem xd_orT {rest : List Expr} (ha : XD X M σ H a (.bool true)) : XD X M σ H (.BoolOp .Or (a :: b :: rest) pos) (.bool true) := fun H1 s Q q =>
  ⟨_, pe_or re_ re_, ha H1 s _ fun v H2 s2 hv => ⟨true, dp_bl hv, iteT (q _ H2 s2 (.bl _))⟩⟩
theorem xt_val {k : Bool} (h : XD X M σ H e (.bool k)) (he : ∀ whole, isTrue e X.env whole = (do let v ← whole; standAt e.pos; holding [v] (truthy v)) := by intro _; rfl) : XT X σ H e k := fun H1 s Q q =>
  ⟨_, pt_val re_ he, h H1 s _ fun v H2 s2 hv => ⟨k, dp_bl hv, q H2 s2⟩⟩
theorem xt_not {k : Bool} (ha : XT X σ H a k) : XT X σ H (.UnaryOp .Not a pos) (!k) := fun H1 s Q q => ⟨_, pt_not rt_, ha H1 s _ q⟩
theorem xw_and1 {k : Bool} (ha : XT X σ H a k) : XW X σ H (.BoolOp .And [a] pos) k := fun H1 s Q q => ⟨_, pw_and1 rt_, ha H1 s _ q⟩
theorem xw_or1 {k : Bool} (ha : XT X σ H a k) : XW X σ H (.BoolOp .Or [a] pos) k := fun H1 s Q q => ⟨_, pw_or1 rt_, ha H1 s _ q⟩
theorem xw_andT {k : Bool} {rest : List Expr} (ha : XT X σ H a true) (hb : XW X σ H (.BoolOp .And (b :: rest) pos) k) : XW X σ H (.BoolOp .And (a :: b :: rest) pos) k := fun H1 s Q q =>
  ⟨_, pw_and rt_ rw_, ha H1 s _ fun H2 s2 => iteT (hb H2 (s.trans s2) Q fun H3 s3 => q H3 (s2.trans s3))⟩
theorem xw_andF {rest : List Expr} (ha : XT X σ H a false) : XW X σ H (.BoolOp .And (a :: b :: rest) pos) false := fun H1 s Q q =>
  ⟨_, pw_and rt_ rw_, ha H1 s _ fun H2 s2 => iteF (q H2 s2)⟩
theorem xw_orF {k : Bool} {rest : List Expr} (ha : XT X σ H a false) (hb : XW X σ H (.BoolOp .Or (b :: rest) pos) k) : XW X σ H (.BoolOp .Or (a :: b :: rest) pos) k := fun H1 s Q q =>
  ⟨_, pw_or rt_ rw_, ha H1 s _ fun H2 s2 => iteF (hb H2 (s.trans s2) Q fun H3 s3 => q H3 (s2.trans s3))⟩
theorem xw_orT {rest : List Expr} (ha : XT X σ H a true) : XW X σ H (.BoolOp .Or (a :: b :: rest) pos) true := fun H1 s Q q =>
  ⟨_, pw_or rt_ rw_, ha H1 s _ fun H2 s2 => iteT (q H2 s2)⟩
theorem XW.t {k : Bool} (h : XW X σ H e k) : XT X σ H e k := fun H1 s Q q => ⟨_, PW.pt rw_, h H1 s Q q⟩
theorem xt_and2 {k1 k2 : Bool} (ha : XT X σ H a k1) (hb : k1 = true → XT X σ H b k2) : XT X σ H (.BoolOp .And [a, b] pos) (k1 && k2) := by
  cases k1 with
  | true => exact (xw_andT ha (xw_and1 (hb rfl))).t
  | false => exact (xw_andF ha).t
theorem xt_or2 {k1 k2 : Bool} (ha : XT X σ H a k1) (hb : k1 = false → XT X σ H b k2) : XT X σ H (.BoolOp .Or [a, b] pos) (k1 || k2) := by
  cases k1 with
  | false => exact (xw_orF ha (xw_or1 (hb rfl))).t
  | true => exact (xw_orT ha).t
theorem xd_ifT {k : Expr} (hc : XT X σ H k true) (ha : XD X M σ H a d) : XD X M σ H (.IfExp k a b pos) d := fun H1 s Q q =>
  ⟨_, pe_ifExp rt_ re_ re_, hc H1 s _ fun H2 s2 => iteT (ha H2 (s.trans s2) Q fun u H3 s3 hu => q u H3 (s2.trans s3) hu)⟩
theorem xd_ifF {k : Expr} (hc : XT X σ H k false) (hb : XD X M σ H b d) : XD X M σ H (.IfExp k a b pos) d := fun H1 s Q q =>
  ⟨_, pe_ifExp rt_ re_ re_, hc H1 s _ fun H2 s2 => iteF (hb H2 (s.trans s2) Q fun u H3 s3 hu => q u H3 (s2.trans s3) hu)⟩
end
end Dl

set_option Elab.async false
set_option linter.all false
set_option maxRecDepth 100000
set_option maxHeartbeats 4000000
/-! Data layer, part 2: statements, subscripts, built-ins, lists, comprehensions, loops. -/
namespace Dl
open PySem PySem.Spec PyProof.Rows L2
section
variable {X : Cx} {M : List Addr} {σ : L2.St} {H H' : Hp} {e a b c o : Expr} {es : List Expr} {d d1 d2 : PyData} {ds es' : List PyData} {i : Nat} {x : Str} {v : V} {pos p1 p2 p3 : Pos} {D : Ends} {rest sts : List Stmt} {st : Stmt}
theorem XD.go {Q : VK} (h : XD X M σ H e d) (k : ∀ v H2, Same H H2 → Dq X.K (hid M H2) v d → Q v H2) : RE X e σ H Q := h H (Same.refl H) Q k
theorem XL.go {Q : VK} (h : XL X M σ H e ds) (k : ∀ p xs H2, Same H H2 → H p = none → H2 p = some (.lst xs) → DqAll X.K (hid M H2) xs ds → Q (.ref p) H2) : RE X e σ H Q := h H (Same.refl H) Q k
theorem XV.go {Q : VK} (h : XV X σ H e v) (k : ∀ H2, Same H H2 → Q v H2) : RE X e σ H Q := h H (Same.refl H) Q k
theorem XA.go {Q : List V → Hp → Prop} (h : XA X M σ H es ds) (k : ∀ vs H2, Same H H2 → DqAll X.K (hid M H2) vs ds → Q vs H2) : RA X es σ H Q := h H (Same.refl H) Q k
/-! ### statements -/
theorem rb_nil (h : D.nx σ H) : RB X [] D σ H := ⟨_, pss_nil, h⟩
theorem rb_cons (h : RS X st { D with nx := RB X rest D } σ H) : RB X (st :: rest) D σ H := ⟨_, pss_cons rs_ rb_, h⟩
/-- x = e, by the raw reading -/
theorem rb_setR (i : Nat) {x : Str} {pos' : Pos} (h : RE X e σ H fun v H1 => RB X rest D (σ.set i (some v)) H1) (hN : X.N.Nodup) (hi : X.N[i]? = some x := by rfl) (hx : Loc X.env.scope x := by first | exact Or.inl rfl | exact Or.inr rfl)
    (hs : swapsWith e (some (.Name x pos')) pos.line X.env = pure false := by rfl) (hf : X.fn x = true ∨ X.env.scope.names.lookup x = some .local := by first | exact .inl rfl | exact .inr rfl) : RB X (.Assign [.Name x pos'] e pos :: rest) D σ H :=
  ⟨_, pss_cons (ps_set hN hi hx re_ hs hf) rb_, h⟩
theorem rb_set (i : Nat) {x : Str} {pos' : Pos} (h : XD X M σ H e d) (k : ∀ v H1, Same H H1 → Dq X.K (hid M H1) v d → RB X rest D (σ.set i (some v)) H1) (hN : X.N.Nodup) (hi : X.N[i]? = some x := by rfl) (hx : Loc X.env.scope x := by first | exact Or.inl rfl | exact Or.inr rfl)
    (hs : swapsWith e (some (.Name x pos')) pos.line X.env = pure false := by rfl) (hf : X.fn x = true ∨ X.env.scope.names.lookup x = some .local := by first | exact .inl rfl | exact .inr rfl) : RB X (.Assign [.Name x pos'] e pos :: rest) D σ H :=
  rb_setR i (h H (Same.refl H) _ fun v H1 s hv => k v H1 s hv) hN hi hx hs hf
theorem rb_setL (i : Nat) {x : Str} {pos' : Pos} (h : XL X M σ H e ds) (k : ∀ p xs H1, Same H H1 → H p = none → H1 p = some (.lst xs) → DqAll X.K (hid M H1) xs ds → RB X rest D (σ.set i (some (.ref p))) H1) (hN : X.N.Nodup) (hi : X.N[i]? = some x := by rfl) (hx : Loc X.env.scope x := by first | exact Or.inl rfl | exact Or.inr rfl)
    (hs : swapsWith e (some (.Name x pos')) pos.line X.env = pure false := by rfl) (hf : X.fn x = true ∨ X.env.scope.names.lookup x = some .local := by first | exact .inl rfl | exact .inr rfl) : RB X (.Assign [.Name x pos'] e pos :: rest) D σ H :=
  rb_setR i (h H (Same.refl H) _ fun p xs H1 s hp h1 hd => k p xs H1 s hp h1 hd) hN hi hx hs hf
theorem rb_setV (i : Nat) {x : Str} {pos' : Pos} (h : XV X σ H e v) (k : ∀ H1, Same H H1 → RB X rest D (σ.set i (some v)) H1) (hN : X.N.Nodup) (hi : X.N[i]? = some x := by rfl) (hx : Loc X.env.scope x := by first | exact Or.inl rfl | exact Or.inr rfl)
    (hs : swapsWith e (some (.Name x pos')) pos.line X.env = pure false := by rfl) (hf : X.fn x = true ∨ X.env.scope.names.lookup x = some .local := by first | exact .inl rfl | exact .inr rfl) : RB X (.Assign [.Name x pos'] e pos :: rest) D σ H :=
  rb_setR i (h H (Same.refl H) _ fun H1 s => k H1 s) hN hi hx hs hf
theorem rb_retR (h : RE X e σ H D.rt) : RB X (.Return (some e) pos :: rest) D σ H := ⟨_, pss_cons (ps_ret re_) rb_, h⟩
theorem rb_ret (h : XD X M σ H e d) (k : ∀ v H1, Same H H1 → Dq X.K (hid M H1) v d → D.rt v H1) : RB X (.Return (some e) pos :: rest) D σ H := rb_retR (h H (Same.refl H) _ fun v H1 s hv => k v H1 s hv)
theorem rb_exprR (h : RE X e σ H fun _ H1 => RB X rest D σ H1) (hs : swapsWith e none pos.line X.env = pure false := by rfl) : RB X (.Expr e pos :: rest) D σ H := ⟨_, pss_cons (ps_expr re_ hs) rb_, h⟩
theorem rb_expr (h : XD X M σ H e d) (k : ∀ H1, Same H H1 → RB X rest D σ H1) (hs : swapsWith e none pos.line X.env = pure false := by rfl) : RB X (.Expr e pos :: rest) D σ H := rb_exprR (h H (Same.refl H) _ fun _ H1 s _ => k H1 s) hs
theorem rb_ifR {t f : List Stmt} (h : RT X c σ H fun k H1 => if k = true then RB X t { D with nx := RB X rest D } σ H1 else RB X f { D with nx := RB X rest D } σ H1) : RB X (.If c t f pos :: rest) D σ H := ⟨_, pss_cons (ps_if rt_ rb_ rb_) rb_, h⟩
theorem rb_if {k : Bool} {t f : List Stmt} (h : XT X σ H c k) (hT : k = true → ∀ H1, Same H H1 → RB X t { D with nx := RB X rest D } σ H1) (hF : k = false → ∀ H1, Same H H1 → RB X f { D with nx := RB X rest D } σ H1) : RB X (.If c t f pos :: rest) D σ H :=
  rb_ifR (h H (Same.refl H) _ fun H1 s => by
    cases k with
    | true => exact iteT (hT rfl H1 s)
    | false => exact iteF (hF rfl H1 s))
/-- if c: .. (no else) with c false -/
theorem rb_ifF {t : List Stmt} (h : XT X σ H c false) (k : ∀ H1, Same H H1 → RB X rest D σ H1) : RB X (.If c t [] pos :: rest) D σ H := rb_if h (fun z => Bool.noConfusion z) fun _ H1 s => rb_nil (k H1 s)
theorem rb_ifT {t f : List Stmt} (h : XT X σ H c true) (k : ∀ H1, Same H H1 → RB X t { D with nx := RB X rest D } σ H1) : RB X (.If c t f pos :: rest) D σ H := rb_if h (fun _ => k) fun z => Bool.noConfusion z
theorem rb_par (i j : Nat) {x y : Str} {px py pt : Pos} {kt k2 pt2} (ha : XA X M σ H [a, b] [d1, d2]) (k : ∀ v w H1, Same H H1 → Dq X.K (hid M H1) v d1 → Dq X.K (hid M H1) w d2 → RB X rest D ((σ.set i (some v)).set j (some w)) H1) (hN : X.N.Nodup)
    (hw : swappedStores [.Tuple [.Name x px, .Name y py] kt pt] (.Tuple [a, b] k2 pt2) X.env = pure (some [x, y]) := by rfl) (hc : X.calm = true := by rfl) (hi : X.N[i]? = some x := by rfl) (hj : X.N[j]? = some y := by rfl) (hij : i ≠ j := by decide)
    (hx : X.env.scope.names.lookup x = some .local := by rfl) (hy : X.env.scope.names.lookup y = some .local := by rfl)
    (hs : swapsWithSole [.Tuple [.Name x px, .Name y py] kt pt] (.Tuple [a, b] k2 pt2) pos.line X.env = pure false := by rfl) : RB X (.Assign [.Tuple [.Name x px, .Name y py] kt pt] (.Tuple [a, b] k2 pt2) pos :: rest) D σ H :=
  ⟨_, pss_cons (ps_par hc hN hi hj hij hx hy ra_ hw hs) rb_, ha H (Same.refl H) _ fun vs H1 s hv => by
    cases hv with
    | cons h1 h2 => cases h2 with
      | cons h2 h3 => cases h3; exact ⟨_, _, rfl, k _ _ H1 s h1 h2⟩⟩
/-- targets: a name; names of a tuple -/
def RG (X : Cx) (tg : Expr) : TG := fun v σ H Q => ∃ g, PG X tg g ∧ g v σ H Q
theorem rg_ {tg : Expr} : PG X tg (RG X tg) := ⟨fun pins s σ H v u Q I r ⟨_, h, q⟩ => h.run pins s σ H v u Q I r q⟩
def RGs (X : Cx) (tg : List Expr) : TGs := fun v σ H Q => ∃ g, PGs X tg g ∧ g v σ H Q
theorem rgs_ {tg : List Expr} : PGs X tg (RGs X tg) := ⟨fun pins s σ H v u Q I r ⟨_, h, q⟩ => h.run pins s σ H v u Q I r q⟩
theorem rg_name (i : Nat) {x : Str} {Q : L2.St → Hp → Prop} (q : Q (σ.set i (some v)) H) (hN : X.N.Nodup) (hi : X.N[i]? = some x := by rfl) (hx : Loc X.env.scope x := by first | exact Or.inl rfl | exact Or.inr rfl) (hf : X.fn x = true ∨ X.env.scope.names.lookup x = some .local := by first | exact .inl rfl | exact .inr rfl) :
    RG X (.Name x pos) v σ H Q := ⟨_, pg_name hN hi hx hf, q⟩
theorem rgs_nil {Q : L2.St → Hp → Prop} (q : Q σ H) : RGs X [] [] σ H Q := ⟨_, pgs_nil, rfl, q⟩
theorem rgs_cons {tg : Expr} {tgs : List Expr} {vs : List V} {Q : L2.St → Hp → Prop} (h : RG X tg v σ H fun σ1 H1 => RGs X tgs vs σ1 H1 Q) (hs : (assignEach (tg :: tgs) X.env).map (·.2) = assign tg X.env :: (assignEach tgs X.env).map (·.2) := by rfl) : RGs X (tg :: tgs) (v :: vs) σ H Q :=
  ⟨_, pgs_cons rg_ rgs_ hs, v, vs, rfl, h⟩
theorem rg_tup {tgs : List Expr} {k : Nat} {xs : List V} {p : Addr} {Q : L2.St → Hp → Prop} (hT : SqT X.K H p xs) (h : RGs X tgs xs σ H Q) (hc : X.calm = true := by rfl)
    (hn : (assignEach tgs X.env).length = xs.length := by rfl) (hst : (assignEach tgs X.env).findIdx? (·.1) = none := by rfl) : RG X (.Tuple tgs k pos) (.ref p) σ H Q := ⟨_, pg_tup (n := xs.length) hc rgs_ hn hst, p, xs, rfl, hT, rfl, h⟩
theorem rb_asgR {tg : Expr} (h : RE X e σ H fun v H1 => RG X tg v σ H1 (RB X rest D)) (hs : swapsWithSole [tg] e pos.line X.env = pure false := by rfl) (hw : swappedStores [tg] e X.env = pure none := by rfl)
    (h1 : (assignEach [tg] X.env).map (·.2) = [assign tg X.env] := by rfl) : RB X (.Assign [tg] e pos :: rest) D σ H := ⟨_, pss_cons (ps_asg re_ rg_ hs hw h1) rb_, h⟩
/-! ### calls of built-ins -/
theorem re_B {id : String} {r : List V → Hp → VK → Prop} {Q : VK} (hc : CallR X (.builtin id) r) (h : RA X (e :: es) σ H fun vs H1 => r vs H1 Q) (hm : X.mg x = none) (hv : bootBuiltins x = some (.builtin id)) (hg : Gl X x := by rfl) (hn : x ≠ "__name__" := by decide) (hdb : (x == ("__debug__" : Str)) = false := by decide)
    (he : starEach (e :: es) X.env = (false, eval e X.env) :: starEach es X.env := by rfl) (hpl : (backTo pos (starEach es X.env)).any (·.1) = false := by rfl) : RE X (.Call (.Name x p1) (e :: es) [] pos) σ H Q := ⟨_, pe_callB hc hg hm hv ra_ hn hdb he hpl, h⟩
theorem re_Ty {T : String} {r : List V → Hp → VK → Prop} {Q : VK} (hc : CallR X (.type T) r) (h : RA X (e :: es) σ H fun vs H1 => r vs H1 Q) (hm : X.mg x = none) (hv : bootBuiltins x = some (.type T)) (hg : Gl X x := by rfl) (hn : x ≠ "__name__" := by decide) (hdb : (x == ("__debug__" : Str)) = false := by decide)
    (he : starEach (e :: es) X.env = (false, eval e X.env) :: starEach es X.env := by rfl) (hpl : (backTo pos (starEach es X.env)).any (·.1) = false := by rfl) : RE X (.Call (.Name x p1) (e :: es) [] pos) σ H Q := ⟨_, pe_callTy hc hg hm hv ra_ hn hdb he hpl, h⟩
theorem ra_nil {Q : List V → Hp → Prop} (q : Q [] H) : RA X [] σ H Q := ⟨_, pa_nil, q⟩
theorem ra_cons {Q : List V → Hp → Prop} (h : RE X e σ H fun v H1 => RA X es σ H1 fun vs H2 => Q (v :: vs) H2) (hs : starEach (e :: es) X.env = (false, eval e X.env) :: starEach es X.env := by rfl) : RA X (e :: es) σ H Q := ⟨_, pa_cons re_ ra_ hs, h⟩
end
end Dl

set_option Elab.async false
set_option linter.all false
set_option maxRecDepth 100000
set_option maxHeartbeats 4000000
/-! Data layer, part 3: built-ins, subscripts, lists, loops, comprehensions. -/
namespace Dl
open PySem PySem.Spec PyProof.Rows L2
section
variable {X : Cx} {M : List Addr} {σ : L2.St} {H H' : Hp} {e a b c o : Expr} {es : List Expr} {d d1 d2 : PyData} {ds ds2 es' : List PyData} {x : Str} {v : V} {pos p1 p2 p3 : Pos} {D : Ends} {rest sts : List Stmt} {st : Stmt}
theorem re_mono {Q Q' : VK} (h : RE X e σ H Q) (k : ∀ v H1, Q v H1 → Q' v H1) : RE X e σ H Q' := by
  obtain ⟨t, ht, q⟩ := h
  exact ⟨fun σ H Q' => ∃ Q, t σ H Q ∧ ∀ v H1, Q v H1 → Q' v H1, ⟨fun pins s σ H Q' I ⟨Q, q, k⟩ => thn (ht.run pins s σ H Q I q) fun u s' ⟨v, H1, I1, r1, q1⟩ => ⟨v, H1, I1, r1, k v H1 q1⟩⟩, Q, q, k⟩
theorem ra_mono {Q Q' : List V → Hp → Prop} (h : RA X es σ H Q) (k : ∀ v H1, Q v H1 → Q' v H1) : RA X es σ H Q' := by
  obtain ⟨t, ht, q⟩ := h
  exact ⟨fun σ H Q' => ∃ Q, t σ H Q ∧ ∀ v H1, Q v H1 → Q' v H1, ⟨fun pos pins s σ H Q' I ⟨Q, q, k⟩ => thn (ht.run pos pins s σ H Q I q) fun u s' ⟨v, H1, I1, r1, q1⟩ => ⟨v, H1, I1, r1, k v H1 q1⟩⟩, Q, q, k⟩
theorem rb_mono {D D' : Ends} (h : RB X sts D σ H) (h1 : ∀ σ H, D.nx σ H → D'.nx σ H) (h2 : ∀ v H, D.rt v H → D'.rt v H) (h3 : ∀ σ H, D.bk σ H → D'.bk σ H) (h4 : ∀ σ H, D.ct σ H → D'.ct σ H) : RB X sts D' σ H := by
  obtain ⟨t, ht, q⟩ := h
  refine ⟨fun D' σ H => ∃ D, t D σ H ∧ (∀ σ H, D.nx σ H → D'.nx σ H) ∧ (∀ v H, D.rt v H → D'.rt v H) ∧ (∀ σ H, D.bk σ H → D'.bk σ H) ∧ (∀ σ H, D.ct σ H → D'.ct σ H), ⟨fun pins s σ H D' I ⟨D, q, h1, h2, h3, h4⟩ => thn (ht.run pins s σ H D I q) fun f s' hs => ?_⟩, D, q, h1, h2, h3, h4⟩
  cases f with
  | next => obtain ⟨σ', H', I', q⟩ := hs; exact ⟨σ', H', I', h1 _ _ q⟩
  | brk => obtain ⟨σ', H', I', q⟩ := hs; exact ⟨σ', H', I', h3 _ _ q⟩
  | cont => obtain ⟨σ', H', I', q⟩ := hs; exact ⟨σ', H', I', h4 _ _ q⟩
  | ret u => obtain ⟨v, σ', H', I', r, q⟩ := hs; exact ⟨v, σ', H', I', r, h2 _ _ q⟩
theorem ra_1 {Q : List V → Hp → Prop} (h : RE X e σ H fun v H1 => Q [v] H1) (hs : starEach [e] X.env = (false, eval e X.env) :: starEach [] X.env := by rfl) : RA X [e] σ H Q := ra_cons (re_mono h fun v H1 q => ra_nil q) hs
/-- a call of a built-in whose reading asks nothing but data -/
theorem xd_B {id : String} {r : List V → Hp → VK → Prop} (hc : CallR X (.builtin id) r) (ha : XA X M σ H (e :: es) ds)
    (hr : ∀ H1 vs, Same H H1 → DqAll X.K (hid M H1) vs ds → ∀ Q : VK, (∀ u H2, Same H1 H2 → Dq X.K (hid M H2) u d → Q u H2) → r vs H1 Q) (hm : X.mg x = none) (hv : bootBuiltins x = some (.builtin id)) (hg : Gl X x := by rfl) (hn : x ≠ "__name__" := by decide) (hdb : (x == ("__debug__" : Str)) = false := by decide)
    (he : starEach (e :: es) X.env = (false, eval e X.env) :: starEach es X.env := by rfl) (hpl : (backTo pos (starEach es X.env)).any (·.1) = false := by rfl) : XD X M σ H (.Call (.Name x p1) (e :: es) [] pos) d := fun H1 s Q q =>
  re_B hc (ha H1 s _ fun vs H2 s2 hvs => hr H2 vs (s.trans s2) hvs Q fun u H3 s3 hu => q u H3 (s2.trans s3) hu) hm hv hg hn hdb he hpl
theorem xd_len (hm : X.mg "len" = none) (ha : XD X M σ H e (.list ds)) (hg : Gl X "len" := by rfl) (he : starEach [e] X.env = (false, eval e X.env) :: starEach [] X.env := by rfl) (hpl : (backTo pos (starEach [] X.env)).any (·.1) = false := by rfl) :
    XD X M σ H (.Call (.Name "len" p1) [e] [] pos) (.int ds.length) :=
  xd_B call_len_seq (xa_cons ha xa_nil he) (fun H1 vs s h Q q => by
    cases h with
    | cons h1 h2 =>
      cases h2
      obtain ⟨p, xs, rfl, hp, hx⟩ := dp_lst h1
      exact ⟨p, xs, rfl, .inl (SqL.of (hid_le _ _ hp)), by rw [dpa_len hx]; exact q _ _ (Same.refl _) (.int _)⟩) hm PySem.boot_len hg (by decide) (by decide) he hpl
theorem xd_lenT (hm : X.mg "len" = none) (ha : XD X M σ H e (.tuple ds)) (hg : Gl X "len" := by rfl) (he : starEach [e] X.env = (false, eval e X.env) :: starEach [] X.env := by rfl) (hpl : (backTo pos (starEach [] X.env)).any (·.1) = false := by rfl) :
    XD X M σ H (.Call (.Name "len" p1) [e] [] pos) (.int ds.length) :=
  xd_B call_len_seq (xa_cons ha xa_nil he) (fun H1 vs s h Q q => by
    cases h with
    | cons h1 h2 =>
      cases h2
      obtain ⟨p, xs, rfl, hp, hx⟩ := dp_tup h1
      exact ⟨p, xs, rfl, .inr (same_seqT hid_le hp), by rw [dpa_len hx]; exact q _ _ (Same.refl _) (.int _)⟩) hm PySem.boot_len hg (by decide) (by decide) he hpl
theorem xd_abs {n : Int} (hm : X.mg "abs" = none) (ha : XD X M σ H e (.int n)) (hg : Gl X "abs" := by rfl) (he : starEach [e] X.env = (false, eval e X.env) :: starEach [] X.env := by rfl) (hpl : (backTo pos (starEach [] X.env)).any (·.1) = false := by rfl) :
    XD X M σ H (.Call (.Name "abs" p1) [e] [] pos) (.int (if n < 0 then -n else n)) :=
  xd_B call_abs (xa_cons ha xa_nil he) (fun H1 vs s h Q q => by
    cases h with
    | cons h1 h2 => cases h2; exact ⟨n, by rw [dp_int h1], q _ _ (Same.refl _) (.int _)⟩) hm (by decide +kernel) hg (by decide) (by decide) he hpl
theorem xd_max {m n : Int} (hm : X.mg "max" = none) (ha : XA X M σ H [a, b] [.int m, .int n]) (hc : X.calm = true := by rfl) (hg : Gl X "max" := by rfl) (he : starEach [a, b] X.env = (false, eval a X.env) :: starEach [b] X.env := by rfl) (hpl : (backTo pos (starEach [b] X.env)).any (·.1) = false := by rfl) :
    XD X M σ H (.Call (.Name "max" p1) [a, b] [] pos) (.int (if n > m then n else m)) :=
  xd_B (call_max2 hc) ha (fun H1 vs s h Q q => by
    cases h with
    | cons h1 h2 => cases h2 with
      | cons h2 h3 => cases h3; exact ⟨m, n, by rw [dp_int h1, dp_int h2], q _ _ (Same.refl _) (.int _)⟩) hm (by decide +kernel) hg (by decide) (by decide) he hpl
theorem xd_min {m n : Int} (hm : X.mg "min" = none) (ha : XA X M σ H [a, b] [.int m, .int n]) (hc : X.calm = true := by rfl) (hg : Gl X "min" := by rfl) (he : starEach [a, b] X.env = (false, eval a X.env) :: starEach [b] X.env := by rfl) (hpl : (backTo pos (starEach [b] X.env)).any (·.1) = false := by rfl) :
    XD X M σ H (.Call (.Name "min" p1) [a, b] [] pos) (.int (if n < m then n else m)) :=
  xd_B (call_min2 hc) ha (fun H1 vs s h Q q => by
    cases h with
    | cons h1 h2 => cases h2 with
      | cons h2 h3 => cases h3; exact ⟨m, n, by rw [dp_int h1, dp_int h2], q _ _ (Same.refl _) (.int _)⟩) hm (by decide +kernel) hg (by decide) (by decide) he hpl
/-- list(x) of a list, of a tuple -/
theorem xl_listT (hm : X.mg "list" = none) (L : Live M H) (ha : XD X M σ H e (.tuple ds)) (hg : Gl X "list" := by rfl) (he : starEach [e] X.env = (false, eval e X.env) :: starEach [] X.env := by rfl) (hpl : (backTo pos (starEach [] X.env)).any (·.1) = false := by rfl) :
    XL X M σ H (.Call (.Name "list" p1) [e] [] pos) ds := fun H1 s Q q =>
  re_Ty call_list_of (ra_1 (ha H1 s _ fun v H2 s2 hv => by
    obtain ⟨p, xs, rfl, hp, hx⟩ := dp_tup hv
    refine ⟨p, xs, rfl, .inr (same_seqT hid_le hp), fun l hl => q l xs _ (s2.trans (same_new hl)) (s2.free hl) upd_same ?_⟩
    rw [hid_new (L.mono (s.trans s2)) hl]
    exact hx.up (same_new (hid_free hl))) he) hm (by decide +kernel) hg (by decide) (by decide) he hpl
theorem xl_listL (hm : X.mg "list" = none) (L : Live M H) (ha : XD X M σ H e (.list ds)) (hg : Gl X "list" := by rfl) (he : starEach [e] X.env = (false, eval e X.env) :: starEach [] X.env := by rfl) (hpl : (backTo pos (starEach [] X.env)).any (·.1) = false := by rfl) :
    XL X M σ H (.Call (.Name "list" p1) [e] [] pos) ds := fun H1 s Q q =>
  re_Ty call_list_of (ra_1 (ha H1 s _ fun v H2 s2 hv => by
    obtain ⟨p, xs, rfl, hp, hx⟩ := dp_lst hv
    refine ⟨p, xs, rfl, .inl (SqL.of (hid_le _ _ hp)), fun l hl => q l xs _ (s2.trans (same_new hl)) (s2.free hl) upd_same ?_⟩
    rw [hid_new (L.mono (s.trans s2)) hl]
    exact hx.up (same_new (hid_free hl))) he) hm (by decide +kernel) hg (by decide) (by decide) he hpl
/-- tuple(x) of a list -/
theorem xd_tupleL (hm : X.mg "tuple" = none) (L : Live M H) (ha : XD X M σ H e (.list ds)) (hg : Gl X "tuple" := by rfl) (he : starEach [e] X.env = (false, eval e X.env) :: starEach [] X.env := by rfl) (hpl : (backTo pos (starEach [] X.env)).any (·.1) = false := by rfl) :
    XD X M σ H (.Call (.Name "tuple" p1) [e] [] pos) (.tuple ds) := fun H1 s Q q =>
  re_Ty call_tuple_of (ra_1 (ha H1 s _ fun v H2 s2 hv => by
    obtain ⟨p, xs, rfl, hp, hx⟩ := dp_lst hv
    refine ⟨p, xs, rfl, .inl ⟨SqL.of (hid_le _ _ hp), fun l hl => q _ _ (s2.trans (same_new hl)) ?_⟩⟩
    rw [hid_new (L.mono (s.trans s2)) hl]
    exact .tup (SqT.of upd_same) (hx.up (same_new (hid_free hl)))) he) hm (by decide +kernel) hg (by decide) (by decide) he hpl
theorem xd_intB {k : Bool} (hm : X.mg "int" = none) (ha : XD X M σ H e (.bool k)) (hg : Gl X "int" := by rfl) (he : starEach [e] X.env = (false, eval e X.env) :: starEach [] X.env := by rfl) (hpl : (backTo pos (starEach [] X.env)).any (·.1) = false := by rfl) :
    XD X M σ H (.Call (.Name "int" p1) [e] [] pos) (.int (if k then 1 else 0)) := fun H1 s Q q =>
  re_Ty call_int1 (ra_1 (ha H1 s _ fun v H2 s2 hv => .inr ⟨k, by rw [dp_bl hv], q _ _ s2 (.int _)⟩) he) hm (by decide +kernel) hg (by decide) (by decide) he hpl
/-! ### subscripts -/
theorem atI_map {α β : Type} {xs : List α} {ys : List β} {P : α → β → Prop} (hl : xs.length = ys.length) (hg : ∀ (i : Nat) (y : β), ys[i]? = some y → ∃ x, xs[i]? = some x ∧ P x y) {n : Int} {y : β} (h : atI ys n = some y) : ∃ x, atI xs n = some x ∧ P x y := by
  unfold atI at h ⊢
  rw [hl]
  cases e : ixN ys.length n with
  | none => rw [e] at h; cases h
  | some j =>
    rw [e] at h
    exact hg j y h
theorem xd_ixL {n : Int} (hs : PlainIx b) (ha : XD X M σ H a (.list ds)) (hb : XD X M σ H b (.int n)) (h : atI ds n = some d) : XD X M σ H (.Subscript a b pos) d := fun H1 s Q q =>
  ⟨_, pe_ix ix_list re_ re_ hs, ha H1 s _ fun v H2 s2 hv => hb H2 (s.trans s2) _ fun w H3 s3 hw => by
    obtain ⟨p, xs, rfl, hp, hx⟩ := dp_lst (hv.up (hid_mono s3))
    obtain ⟨u, hu, hd⟩ := atI_map (dpa_len hx) (fun i y h => dpa_get hx h) h
    exact ⟨p, xs, n, u, rfl, dp_int hw, SqL.of (hid_le _ _ hp), hu, q u H3 (s2.trans s3) hd⟩⟩
theorem xd_ixT {n : Int} (hs : PlainIx b) (ha : XD X M σ H a (.tuple ds)) (hb : XD X M σ H b (.int n)) (h : atI ds n = some d) : XD X M σ H (.Subscript a b pos) d := fun H1 s Q q =>
  ⟨_, pe_ix ix_tup re_ re_ hs, ha H1 s _ fun v H2 s2 hv => hb H2 (s.trans s2) _ fun w H3 s3 hw => by
    obtain ⟨p, xs, rfl, hp, hx⟩ := dp_tup (hv.up (hid_mono s3))
    obtain ⟨u, hu, hd⟩ := atI_map (dpa_len hx) (fun i y h => dpa_get hx h) h
    exact ⟨p, xs, n, u, rfl, dp_int hw, same_seqT hid_le hp, hu, q u H3 (s2.trans s3) hd⟩⟩
/-- xs[lo:hi] of a list -/
def XO (X : Cx) (σ : L2.St) (H : Hp) (e : Option Expr) (n : Option Int) : Prop := ∀ H1, Same H H1 → ∀ Q : Option Int → Hp → Prop, (∀ H2, Same H1 H2 → Q n H2) → ∃ t, PO X e t ∧ t σ H1 Q
theorem xo_none : XO X σ H none none := fun H1 s Q q => ⟨_, po_none, q H1 (Same.refl _)⟩
theorem xo_some {n : Int} (h : XD X M σ H e (.int n)) : XO X σ H (some e) (some n) := fun H1 s Q q => ⟨_, po_some re_, h H1 s _ fun v H2 s2 hv => ⟨n, dp_int hv, q H2 s2⟩⟩
def cutD (xs : List PyData) (lo hi : Option Int) : List PyData := (xs.drop (HT.sIx xs.length 0 lo)).take (HT.sIx xs.length xs.length hi - HT.sIx xs.length 0 lo)
def RO (X : Cx) (e : Option Expr) : L2.St → Hp → (Option Int → Hp → Prop) → Prop := fun σ H Q => ∃ t, PO X e t ∧ t σ H Q
theorem ro_ {e : Option Expr} : PO X e (RO X e) := ⟨fun pins s σ H Q I ⟨_, h, q⟩ => h.run pins s σ H Q I q⟩
theorem xl_cut {lo hi : Option Expr} {m n : Option Int} (L : Live M H) (ha : XD X M σ H a (.list ds)) (hl : XO X σ H lo m) (hu : XO X σ H hi n) : XL X M σ H (.Subscript a (.Slice lo hi none p2) pos) (cutD ds m n) := fun H1 s Q q =>
  ⟨_, pe_slice sl_list re_ ro_ ro_, ha H1 s _ fun v H2 s2 hv => hl H2 (s.trans s2) _ fun H3 s3 => hu H3 ((s.trans s2).trans s3) _ fun H4 s4 => by
    obtain ⟨p, xs, rfl, hp, hx⟩ := dp_lst (hv.up (hid_mono (s3.trans s4)))
    refine ⟨p, xs, rfl, SqL.of (hid_le _ _ hp), fun l hl => q l _ _ ((s2.trans (s3.trans s4)).trans (same_new hl)) ((s2.trans (s3.trans s4)).free hl) upd_same ?_⟩
    rw [hid_new (L.mono (s.trans (s2.trans (s3.trans s4)))) hl]
    have hz := dpa_len hx
    unfold cutV cutD
    rw [hz]
    exact (dpa_take _ (dpa_drop _ hx)).up (same_new (hid_free hl))⟩
/-! ### lists -/
theorem xl_cat (L : Live M H) (ha : XD X M σ H a (.list ds)) (hb : XD X M σ H b (.list ds2)) (hz : ds.length + ds2.length ≤ 100000) : XL X M σ H (.BinOp a .Add b pos) (ds ++ ds2) := fun H1 s Q q =>
  ⟨_, pe_op op_cat re_ re_, ha H1 s _ fun v H2 s2 hv => hb H2 (s.trans s2) _ fun w H3 s3 hw => by
    obtain ⟨p, xs, rfl, hp, hx⟩ := dp_lst (hv.up (hid_mono s3))
    obtain ⟨p', ys, rfl, hp', hy⟩ := dp_lst hw
    refine ⟨p, p', xs, ys, rfl, rfl, hid_le _ _ hp, hid_le _ _ hp', by rw [dpa_len hx, dpa_len hy]; exact small_sz hz, fun l hl => q l _ _ ((s2.trans s3).trans (same_new hl)) ((s2.trans s3).free hl) upd_same ?_⟩
    rw [hid_new (L.mono ((s.trans s2).trans s3)) hl]
    exact (dpa_app hx hy).up (same_new (hid_free hl))⟩
/-- l.append(e), l one of M's lists -/
theorem rb_append {l : Addr} {xs : List V} (hl : l ∈ M) (ho : XV X σ H o (.ref l)) (h1 : H l = some (.lst xs)) (he : XD X M σ H e d) (hz : xs.length < 100000) (k : ∀ v H1, Same H H1 → Dq X.K (hid M H1) v d → RB X rest D σ (upd H1 l (.lst (xs ++ [v]))))
    (hbase : attributeBase o "append" X.env (eval o X.env) = eval o X.env := by rfl)
    (hfew : ((backTo p2 (starEach [e] X.env)).all (fun x => !x.1) && (backToKw p2 (keywordEach [] X.env)).all (fun x => x.1.isSome) && decide ([e].length + ([] : List Keyword).length + (if ([] : List Keyword).isEmpty then 0 else 1) < 30)) = true := by rfl)
    (hline : (p1.endLine == p2.line) = true := by rfl) (hs : starEach [e] X.env = (false, eval e X.env) :: starEach [] X.env := by rfl) (hplain : (backTo p2 (starEach [] X.env)).any (·.1) = false := by rfl)
    (hsw : swapsWith (.Call (.Attribute o "append" p1) [e] [] p2) none pos.line X.env = pure false := by rfl) : RB X (.Expr (.Call (.Attribute o "append" p1) [e] [] p2) pos :: rest) D σ H :=
  rb_exprR ⟨_, pe_bm PySem.F.plainAttrs_list PySem.F.slot_list_append PySem.F.type_list_append mt_append re_ ra_ hbase hfew hline hs hplain,
    ho H (Same.refl H) _ fun H1 s1 => ⟨.inl ⟨rfl, xs, SqL.of (s1 _ _ h1)⟩, ra_1 (he H1 s1 _ fun v H2 s2 hv => ⟨l, xs, v, rfl, rfl, (s1.trans s2) _ _ h1, Nat.lt_of_lt_of_le hz (by decide), k v H2 (s1.trans s2) hv⟩) hs⟩⟩ hsw
/-- l.extend(e) -/
theorem rb_extend {l : Addr} {xs : List V} (hl : l ∈ M) (ho : XV X σ H o (.ref l)) (h1 : H l = some (.lst xs)) (he : XD X M σ H e (.list ds)) (hz : xs.length + ds.length ≤ 100000) (k : ∀ vs H1, Same H H1 → DqAll X.K (hid M H1) vs ds → RB X rest D σ (upd H1 l (.lst (xs ++ vs))))
    (hbase : attributeBase o "extend" X.env (eval o X.env) = eval o X.env := by rfl)
    (hfew : ((backTo p2 (starEach [e] X.env)).all (fun x => !x.1) && (backToKw p2 (keywordEach [] X.env)).all (fun x => x.1.isSome) && decide ([e].length + ([] : List Keyword).length + (if ([] : List Keyword).isEmpty then 0 else 1) < 30)) = true := by rfl)
    (hline : (p1.endLine == p2.line) = true := by rfl) (hs : starEach [e] X.env = (false, eval e X.env) :: starEach [] X.env := by rfl) (hplain : (backTo p2 (starEach [] X.env)).any (·.1) = false := by rfl)
    (hsw : swapsWith (.Call (.Attribute o "extend" p1) [e] [] p2) none pos.line X.env = pure false := by rfl) : RB X (.Expr (.Call (.Attribute o "extend" p1) [e] [] p2) pos :: rest) D σ H :=
  rb_exprR ⟨_, pe_bm PySem.F.plainAttrs_list PySem.F.slot_list_extend PySem.F.type_list_extend mt_extend re_ ra_ hbase hfew hline hs hplain,
    ho H (Same.refl H) _ fun H1 s1 => ⟨.inl ⟨rfl, xs, SqL.of (s1 _ _ h1)⟩, ra_1 (he H1 s1 _ fun v H2 s2 hv => by
      obtain ⟨b, ys, rfl, hb, hy⟩ := dp_lst hv
      exact ⟨l, b, xs, ys, rfl, rfl, (s1.trans s2) _ _ h1, hid_le _ _ hb, by rw [dpa_len hy]; exact small_sz hz, k ys H2 (s1.trans s2) hy⟩) hs⟩⟩ hsw
/-! ### loops -/
/-- for tg in e: .., e a list; Pv: by the turn; the known part must stand -/
theorem rb_for {tg : Expr} {body : List Stmt} (hit : XD X M σ H e (.list ds))
    (h : ∀ H1, Same H H1 → ∃ Pv : Nat → L2.St → Hp → Prop, Pv 0 σ H1 ∧ (∀ k σ' H', Pv k σ' H' → Same (hid M H1) (hid M H')) ∧
      (∀ k d, ds[k]? = some d → ∀ σ' H' v, Pv k σ' H' → Dq X.K (hid M H') v d → RG X tg v σ' H' fun σ2 H2 => RB X body { D with nx := Pv (k + 1), ct := Pv (k + 1), bk := RB X rest D } σ2 H2) ∧ ∀ σ' H', Pv ds.length σ' H' → RB X rest D σ' H')
    (hp : PassesOwn (model X.prog X.w) X.A X.env X.xe := by exact PassesOwn.never) (hc : X.calm = true := by rfl) (hs : ∀ x, foldedSetIterable e X.env x = pure x := by intro _; rfl) : RB X (.For tg e body [] pos :: rest) D σ H :=
  ⟨_, pss_cons (ps_for hp hc (pi_list re_) rg_ rb_ hs) rb_, hit H (Same.refl H) _ fun v H1 s1 hv => by
    obtain ⟨a, xs, rfl, ha, hx⟩ := dp_lst hv
    obtain ⟨Pv, h0, hk, hst, hd⟩ := h H1 s1
    refine ⟨a, rfl, ⟨xs, SqL.of (hid_le _ _ ha)⟩, for_list (xs := xs) Pv h0 (fun i σ' H' _ p => SqL.of (hid_le _ _ (hk i σ' H' p _ _ ha))) (fun i x σ' H' hi p => ?_) (by rw [dpa_len hx]; exact hd)⟩
    obtain ⟨d, h1, h2⟩ := dpa_get' hx hi
    exact hst i d h1 σ' H' x p (h2.up (hk i σ' H' p))⟩
theorem rb_forT {tg : Expr} {body : List Stmt} (hit : XD X M σ H e (.tuple ds))
    (h : ∀ H1, Same H H1 → ∃ Pv : Nat → L2.St → Hp → Prop, Pv 0 σ H1 ∧ (∀ k σ' H', Pv k σ' H' → Same (hid M H1) (hid M H')) ∧
      (∀ k d, ds[k]? = some d → ∀ σ' H' v, Pv k σ' H' → Dq X.K (hid M H') v d → RG X tg v σ' H' fun σ2 H2 => RB X body { D with nx := Pv (k + 1), ct := Pv (k + 1), bk := RB X rest D } σ2 H2) ∧ ∀ σ' H', Pv ds.length σ' H' → RB X rest D σ' H')
    (hp : PassesOwn (model X.prog X.w) X.A X.env X.xe := by exact PassesOwn.never) (hc : X.calm = true := by rfl) (hs : ∀ x, foldedSetIterable e X.env x = pure x := by intro _; rfl) : RB X (.For tg e body [] pos :: rest) D σ H :=
  ⟨_, pss_cons (ps_for hp hc (pi_tup re_) rg_ rb_ hs) rb_, hit H (Same.refl H) _ fun v H1 s1 hv => by
    obtain ⟨a, xs, rfl, ha, hx⟩ := dp_tup hv
    obtain ⟨Pv, h0, hk, hst, hd⟩ := h H1 s1
    refine ⟨a, rfl, ⟨xs, same_seqT hid_le ha⟩, for_tup (xs := xs) Pv h0 (fun i σ' H' _ p => same_seqT hid_le (same_seqT (hk i σ' H' p) ha)) (fun i x σ' H' hi p => ?_) (by rw [dpa_len hx]; exact hd)⟩
    obtain ⟨d, h1, h2⟩ := dpa_get' hx hi
    exact hst i d h1 σ' H' x p (h2.up (hk i σ' H' p))⟩
/-- for tg in range(e): .. -/
theorem rb_range {tg : Expr} {body : List Stmt} (hm : X.mg "range" = none) (hit : RE X e σ H fun v H1 => ∃ n : Nat, v = .int (n : Int) ∧ n < 2 ^ 61 ∧ ∃ Pv : Nat → L2.St → Hp → Prop, Pv 0 σ H1 ∧
      (∀ k σ' H', k < n → Pv k σ' H' → RG X tg (.int (k : Int)) σ' H' fun σ2 H2 => RB X body { D with nx := Pv (k + 1), ct := Pv (k + 1), bk := RB X rest D } σ2 H2) ∧ ∀ σ' H', Pv n σ' H' → RB X rest D σ' H')
    (hg : Gl X "range" := by rfl) (he : starEach [e] X.env = [(false, eval e X.env)] := by rfl) (hp : PassesOwn (model X.prog X.w) X.A X.env X.xe := by exact PassesOwn.never) (hc : X.calm = true := by rfl)
    (hs : ∀ x, foldedSetIterable (.Call (.Name "range" p1) [e] [] p2) X.env x = pure x := by intro _; rfl) : RB X (.For tg (.Call (.Name "range" p1) [e] [] p2) body [] pos :: rest) D σ H :=
  ⟨_, pss_cons (ps_for hp hc (pi_range1 hg hm ra_ he) rg_ rb_ hs) rb_, ra_1 (re_mono hit fun v H1 ⟨n, ev, hn, Pv, h0, hst, hd⟩ => by
    refine ⟨(n : Int), by rw [ev], by omega, by omega, ?_⟩
    rw [Int.toNat_natCast]
    refine for_range Pv h0 (fun i σ' H' hi p => ?_) hd
    rw [Int.zero_add]
    exact hst i σ' H' hi p) he⟩
end
/-! ### comprehensions -/
/-- what is read within a comprehension -/
def BE (X : Cx) (scope : Scope) (e : Expr) : TE := fun σ H Q => ∀ (s : Shared) (H0 : Hp) (C : Addr) (cl : List (Str × Addr)) (fp : List Addr), RE (X.blk s H0 scope (compEnvC scope cl C X.env) fp) e σ H Q
def BG (X : Cx) (scope : Scope) (e : Expr) : TG := fun v σ H Q => ∀ (s : Shared) (H0 : Hp) (C : Addr) (cl : List (Str × Addr)) (fp : List Addr), RG (X.blk s H0 scope (compEnvC scope cl C X.env) fp) e v σ H Q
def BT (X : Cx) (scope : Scope) (es : List Expr) : TT := fun σ H Q => ∀ (s : Shared) (H0 : Hp) (C : Addr) (cl : List (Str × Addr)) (fp : List Addr), ∃ t, PTs (X.blk s H0 scope (compEnvC scope cl C X.env) fp) es t ∧ t σ H Q
section
variable {X : Cx} {M : List Addr} {σ : L2.St} {H H' : Hp} {e a b c o elt tg iter : Expr} {ifs : List Expr} {scope : Scope} {own : List (Str × Nat)} {es : List Expr} {d d1 d2 : PyData} {ds ds2 es' : List PyData} {x : Str} {v : V} {pos p1 p2 p3 : Pos}
theorem be_ {s : Shared} {H0 : Hp} {C : Addr} {cl : List (Str × Addr)} {fp : List Addr} : PE (X.blk s H0 scope (compEnvC scope cl C X.env) fp) e (BE X scope e) := ⟨fun pins s' σ H Q I h => by
  obtain ⟨_, ht, q⟩ := h s H0 C cl fp
  exact ht.run pins s' σ H Q I q⟩
theorem bg_ {s : Shared} {H0 : Hp} {C : Addr} {cl : List (Str × Addr)} {fp : List Addr} : PG (X.blk s H0 scope (compEnvC scope cl C X.env) fp) e (BG X scope e) := ⟨fun pins s' σ H v u Q I r h => by
  obtain ⟨_, ht, q⟩ := h s H0 C cl fp
  exact ht.run pins s' σ H v u Q I r q⟩
theorem bt_ {s : Shared} {H0 : Hp} {C : Addr} {cl : List (Str × Addr)} {fp : List Addr} : PTs (X.blk s H0 scope (compEnvC scope cl C X.env) fp) es (BT X scope es) := ⟨fun pins s' σ H Q I h => by
  obtain ⟨_, ht, q⟩ := h s H0 C cl fp
  exact ht.run pins s' σ H Q I q⟩
theorem bt_nil {Q : Bool → Hp → Prop} (q : Q true H) : BT X scope [] σ H Q := fun _ _ _ _ _ => ⟨_, pts_nil, q⟩
theorem bt_one {k : Bool} {Q : Bool → Hp → Prop} (h : ∀ (s : Shared) (H0 : Hp) (C : Addr) (cl : List (Str × Addr)) (fp : List Addr), XT (X.blk s H0 scope (compEnvC scope cl C X.env) fp) σ H c k) (q : ∀ H2, Same H H2 → Q k H2) : BT X scope [c] σ H Q := fun s H0 C cl fp =>
  ⟨_, pts_one rt_, h s H0 C cl fp H (Same.refl H) _ q⟩
theorem rg_mono {Q Q' : L2.St → Hp → Prop} (h : RG X tg v σ H Q) (k : ∀ σ1 H1, Q σ1 H1 → Q' σ1 H1) : RG X tg v σ H Q' := by
  obtain ⟨g, hg, q⟩ := h
  exact ⟨fun v σ H Q' => ∃ Q, g v σ H Q ∧ ∀ σ1 H1, Q σ1 H1 → Q' σ1 H1, ⟨fun pins s σ H v u Q' I r ⟨Q, q, k⟩ => thn (hg.run pins s σ H v u Q I r q) fun _ s' ⟨σ', H', I', q'⟩ => ⟨σ', H', I', k _ _ q'⟩⟩, Q, q, k⟩
theorem bg_mono {Q Q' : L2.St → Hp → Prop} (h : BG X scope tg v σ H Q) (k : ∀ σ1 H1, Q σ1 H1 → Q' σ1 H1) : BG X scope tg v σ H Q' := fun s H0 C cl fp => rg_mono (h s H0 C cl fp) k
theorem be_mono {Q Q' : VK} (h : BE X scope e σ H Q) (k : ∀ v H1, Q v H1 → Q' v H1) : BE X scope e σ H Q' := fun s H0 C cl fp => re_mono (h s H0 C cl fp) k
theorem bt_mono {Q Q' : Bool → Hp → Prop} (h : BT X scope es σ H Q) (k : ∀ v H1, Q v H1 → Q' v H1) : BT X scope es σ H Q' := fun s H0 C cl fp => by
  obtain ⟨t, ht, q⟩ := h s H0 C cl fp
  exact ⟨fun σ H Q' => ∃ Q, t σ H Q ∧ ∀ v H1, Q v H1 → Q' v H1, ⟨fun pins s σ H Q' I ⟨Q, q, k⟩ => thn (ht.run pins s σ H Q I q) fun u s' ⟨H1, I1, q1⟩ => ⟨H1, I1, k u H1 q1⟩⟩, Q, q, k⟩
theorem hid_step {p : Addr} {H1 : Hp} (hp : H p = none) (s : Same H H1) : Same (hid M H) (hid (p :: M) H1) := fun b o e => by
  have nM : b ∉ M := fun z => by unfold hid at e; rw [if_pos z] at e; cases e
  have e' := hid_le _ _ e
  have np : b ≠ p := ne_of_none e' hp
  rw [hid_of (by simp [np, nM])]
  exact s _ _ e'
theorem hid_upd_ne {p : Addr} {o : HO} {H1 : Hp} : hid (p :: M) (upd H1 p o) = hid (p :: M) H1 := hid_upd_mem (List.mem_cons_self ..)
/-- [elt for tg in iter if ..]: f gives what an item comes to, none where it is left out -/
theorem xl_comp (f : PyData → Option PyData) (L : Live M H) (hN : X.N.Nodup) (hit : XD X M σ H iter (.list ds)) (ok : BlkOk X.N X.env.scope scope own) (hz : ds.length ≤ 100000)
    (hst : ∀ p d v H1, d ∈ ds → H p = none → Same H H1 → Live (p :: M) H1 → Dq X.K (hid (p :: M) H1) v d → BG X scope tg v (wipe σ (own.map (·.2))) H1 fun σ2 H2 => wipe σ2 (own.map (·.2)) = wipe σ (own.map (·.2)) ∧ BT X scope ifs σ2 H2 fun k H3 =>
      Same H1 H3 ∧ ((k = true ∧ ∃ d', f d = some d' ∧ BE X scope elt σ2 H3 fun y H4 => Same H3 H4 ∧ Dq X.K (hid (p :: M) H4) y d') ∨ (k = false ∧ f d = none)))
    (hc : X.calm = true := by rfl) (hs : ∀ x, foldedSetIterable iter X.env x = pure x := by intro _; rfl) : XL X M σ H (.ListComp elt [⟨tg, iter, ifs, 0⟩] scope pos) (ds.filterMap f) := fun H1 s1 Q q =>
  ⟨_, pe_lc (own := own) hc hN (pi_list re_) ok (fun _ _ _ _ _ => bg_) (fun _ _ _ _ _ => bt_) (fun _ _ _ _ _ => be_) hs, hit H1 s1 _ fun v H2 s2 hv => by
    obtain ⟨a, xs, rfl, ha, hx⟩ := dp_lst hv
    have L2' : Live M H2 := L.mono (s1.trans s2)
    refine ⟨a, rfl, ⟨xs, SqL.of (hid_le _ _ ha)⟩, fun p hp => ?_⟩
    have hpM : p ∉ M := L2'.fresh hp
    have hp0 : H p = none := (s1.trans s2).free hp
    refine lc_list (xs := xs) (a := a) (fun i H' => Same H2 H' ∧ ∃ acc, H' p = some (.lst acc) ∧ DqAll X.K (hid (p :: M) H') acc ((ds.take i).filterMap f)) ⟨same_new hp, [], upd_same, by simpa using DqAll.nil⟩ (fun i H' _ w => SqL.of (w.1 _ _ (hid_le _ _ ha))) (fun i x H' hi w => ?_) (fun H' w => ?_)
    · obtain ⟨sH, acc, hacc, hda⟩ := w
      obtain ⟨d, hd1, hd2⟩ := dpa_get' hx hi
      have hdm : d ∈ ds := List.mem_of_getElem? hd1
      have etake : ds.take (i + 1) = ds.take i ++ [d] := by
        rw [List.take_add_one, hd1]; rfl
      have hlen : acc.length < sizeLine := by
        rw [dpa_len hda]
        have h1 : ((ds.take i).filterMap f).length ≤ (ds.take i).length := List.length_filterMap_le ..
        have h2 : (ds.take i).length ≤ i := by rw [List.length_take]; omega
        have h3 : i < ds.length := (List.getElem?_eq_some_iff.mp hd1).1
        have h4 : 100000 < sizeLine := by decide
        omega
      have Lp : Live (p :: M) H' := fun b hb => by
        rcases List.mem_cons.mp hb with z | hb
        · subst z; rw [hacc]; simp
        · exact L2'.mono sH b hb
      have kx : Dq X.K (hid (p :: M) H') x d := hd2.up (hid_step hp sH)
      refine bg_mono (hst p d x H' hdm hp0 ((s1.trans s2).trans sH) Lp kx) fun σ2 Ha ⟨hw, hbt⟩ => ⟨hw, bt_mono hbt fun k Hb ⟨sb, hk⟩ => ?_⟩
      have sH' : Same H' Hb := sb
      rcases hk with ⟨hk, d', hf, hbe⟩ | ⟨hk, hf⟩
      · subst hk
        refine iteT (be_mono hbe fun y Hc ⟨sc, hy⟩ => ?_)
        have sd := sH'.trans sc
        refine ⟨acc, sd _ _ hacc, hlen, fun b o e => ?_, acc ++ [y], upd_same, ?_⟩
        · have nb : b ≠ p := ne_of_none e hp
          rw [upd_ne nb]
          exact sd _ _ (sH _ _ e)
        · rw [hid_upd_ne, etake, List.filterMap_append]
          have e2 : [d].filterMap f = [d'] := by simp [hf]
          rw [e2]
          exact dpa_app (hda.up (hid_mono sd)) (.cons hy .nil)
      · subst hk
        refine iteF ⟨sH.trans sH', acc, sH' _ _ hacc, ?_⟩
        rw [etake, List.filterMap_append]
        have e2 : [d].filterMap f = [] := by simp [hf]
        rw [e2, List.append_nil]
        exact hda.up (hid_mono sH')
    · obtain ⟨sH, acc, hacc, hda⟩ := w
      have e1 : ds.take xs.length = ds := by rw [dpa_len hx]; exact List.take_length
      rw [e1] at hda
      refine q p acc H' (s2.trans sH) (s2.free hp) hacc (hda.up fun b o e => ?_)
      have n1 : b ∉ p :: M := fun z => by unfold hid at e; rw [if_pos z] at e; cases e
      rw [hid_of (fun z => n1 (List.mem_cons_of_mem _ z))]
      exact hid_le _ _ e⟩
end
end Dl

set_option Elab.async false
set_option linter.all false
set_option maxRecDepth 100000
set_option maxHeartbeats 4000000
/-! Data layer, part 4: own defs by data, calls where no repr is under way, repr, isinstance, instances. -/
namespace Dl
open PySem PySem.Spec PyProof.Rows L2
/-! ### a def by data -/
/-- arguments ds with R ds d: the data d comes back, all stands -/
def spR (K : PySem.W.Frag) (R : List PyData → PyData → Prop) : Sp := fun vs H Q _ => ∃ (M : List Addr) (ds : List PyData) (d : PyData), Live M H ∧ DqAll K (hid M H) vs ds ∧ R ds d ∧ ∀ v H1, Same H H1 → Dq K (hid M H1) v d → Q v H1
/-- .. a new list of the data es -/
def spL (K : PySem.W.Frag) (R : List PyData → List PyData → Prop) : Sp := fun vs H Q _ => ∃ (M : List Addr) (ds es : List PyData), Live M H ∧ DqAll K (hid M H) vs ds ∧ R ds es ∧ ∀ p xs H1, Same H H1 → H p = none → H1 p = some (.lst xs) → DqAll K (hid M H1) xs es → Q (.ref p) H1
section
variable {X : Cx} {M : List Addr} {σ : L2.St} {H H' : Hp} {e a b c o : Expr} {es : List Expr} {d d1 d2 : PyData} {ds ds2 es' : List PyData} {x : Str} {v : V} {pos p1 p2 p3 : Pos} {D : Ends} {rest sts : List Stmt} {st : Stmt} {k : Nat} {f C : Addr} {fd : FuncData} {ps : List Str}
theorem re_call {sp : Sp} {Q : VK} (F : FnOk X.prog X.w X.K X.mg X.base CX0 k f fd ps sp) (hr : Room k X.A) (hm : X.mg x = some (.ref f)) (hk : PySem.W.keepIn X.K (.ref f) = true) (hb : Binds X.K fd ps []) (ha : RA X (e :: es) σ H fun vs H1 => sp vs H1 Q E0) (hg : Gl X x := by rfl)
    (hdb : (x == ("__debug__" : Str)) = false := by decide) (he : starEach (e :: es) X.env = (false, eval e X.env) :: starEach es X.env := by rfl) (hpl : (backTo pos (starEach es X.env)).any (·.1) = false := by rfl) : RE X (.Call (.Name x p1) (e :: es) [] pos) σ H Q :=
  ⟨_, pe_call F hr hg hm hk hb .nil pass0 ra_ hdb he hpl, ra_mono ha fun vs H1 q => by rw [List.append_nil]; exact q⟩
theorem re_callD {sp : Sp} {Q : VK} {dvs : List V} {dl : List Value} (F : FnOk X.prog X.w X.K X.mg X.base CX0 k f fd ps sp) (hr : Room k X.A) (hm : X.mg x = some (.ref f)) (hk : PySem.W.keepIn X.K (.ref f) = true) (hb : Binds X.K fd ps dl) (hd : Vals dvs dl) (ha : RA X (e :: es) σ H fun vs H1 => sp (vs ++ dvs) H1 Q E0) (hg : Gl X x := by rfl)
    (hdb : (x == ("__debug__" : Str)) = false := by decide) (he : starEach (e :: es) X.env = (false, eval e X.env) :: starEach es X.env := by rfl) (hpl : (backTo pos (starEach es X.env)).any (·.1) = false := by rfl) : RE X (.Call (.Name x p1) (e :: es) [] pos) σ H Q :=
  ⟨_, pe_call F hr hg hm hk hb hd pass0 ra_ hdb he hpl, ha⟩
theorem xd_call {R : List PyData → PyData → Prop} (L : Live M H) (F : FnOk X.prog X.w X.K X.mg X.base CX0 k f fd ps (spR X.K R)) (hr : Room k X.A) (hm : X.mg x = some (.ref f)) (hk : PySem.W.keepIn X.K (.ref f) = true) (hb : Binds X.K fd ps []) (ha : XA X M σ H (e :: es) ds) (hR : R ds d) (hg : Gl X x := by rfl)
    (hdb : (x == ("__debug__" : Str)) = false := by decide) (he : starEach (e :: es) X.env = (false, eval e X.env) :: starEach es X.env := by rfl) (hpl : (backTo pos (starEach es X.env)).any (·.1) = false := by rfl) : XD X M σ H (.Call (.Name x p1) (e :: es) [] pos) d := fun H1 s Q q =>
  re_call F hr hm hk hb (ha H1 s _ fun vs H2 s2 hv => ⟨M, ds, d, L.mono (s.trans s2), hv, hR, fun v H3 s3 hd => q v H3 (s2.trans s3) hd⟩) hg hdb he hpl
theorem xl_call {R : List PyData → List PyData → Prop} (L : Live M H) (F : FnOk X.prog X.w X.K X.mg X.base CX0 k f fd ps (spL X.K R)) (hr : Room k X.A) (hm : X.mg x = some (.ref f)) (hk : PySem.W.keepIn X.K (.ref f) = true) (hb : Binds X.K fd ps []) (ha : XA X M σ H (e :: es) ds) (hR : R ds ds2) (hg : Gl X x := by rfl)
    (hdb : (x == ("__debug__" : Str)) = false := by decide) (he : starEach (e :: es) X.env = (false, eval e X.env) :: starEach es X.env := by rfl) (hpl : (backTo pos (starEach es X.env)).any (·.1) = false := by rfl) : XL X M σ H (.Call (.Name x p1) (e :: es) [] pos) ds2 := fun H1 s Q q =>
  re_call F hr hm hk hb (ha H1 s _ fun vs H2 s2 hv => ⟨M, ds, ds2, L.mono (s.trans s2), hv, hR, fun p xs H3 s3 hp h3 hd => q p xs H3 (s2.trans s3) (s2.free hp) h3 hd⟩) hg hdb he hpl
/-! ### a def, called where no repr is under way -/
structure FnG (P : Program) (w : World) (K : PySem.W.Frag) (mg : Str → Option Value) (base : Heap) (k : Nat) (f : Addr) (fd : FuncData) (ps : List Str) (sp : Sp) : Prop where
  len : ∀ vs H Q E, sp vs H Q E → vs.length = ps.length
  run : ∀ (A : Around), A.guards = some [] → Room k A → ∀ (outer : List Env) (s : Shared) (H : Hp) (args : Args) (us : List Value) (vs : List V) (Q : VK) (E : XK), Env0 P w K mg base A outer s H → BindsTo s fd args (ps.zip us) → Vals vs us → sp vs H Q E →
    codeAny (model P w) A (.call (.ref f) args) (CR CX0 outer P w H s Q E) s
theorem fn_g {P : Program} {w : World} {K : PySem.W.Frag} {mg : Str → Option Value} {base : Heap} {sp : Sp} {qual x : Str} {st : Stmt} {N : List Str} (F : Fun K x qual st f fd) (S : FnScope N ps (defScope st)) (len : ∀ vs H Q E, sp vs H Q E → vs.length = ps.length)
    (hbody : ∀ (cdv : Value) (A : Around) (outer : List Env) (s : Shared) (H : Hp) (vs : List V) (Q : VK) (E : XK), A.guards = some [] → Room k (A.deeper (envOfC qual (defScope st) s.heap.objs.size f cdv)) → sp vs H Q E →
      RB (cxOf CX0 P w K mg base N qual (defScope st) f cdv A outer s H E).nox (defBody st) { nx := fun _ H1 => Q .non H1, rt := Q } (start N vs) H) : FnG P w K mg base (k + 1) f fd ps sp where
  len := len
  run := fun A hA hr outer s H args us vs Q E e0 hb r hsp => by
    obtain ⟨oc, od, kV, doc, pm, an, cdv, ct, osl, hfd, lk, hcd⟩ := F.ex
    subst hfd
    have hz := len _ _ _ _ hsp
    have KX : K.In s.heap := e0.mod.kin.keeps (fun b o e => (e0.bs b o e).1)
    have nl : s.heap.NoLimit := e0.mod.nolimit.keeps (fun b o e => (e0.bs b o e).1)
    have kinds : ∀ y ∈ ps.zip us, (defScope st).names.lookup y.1 = some .local ∨ ((defScope st).names.lookup y.1 = some .cell ∧ ((cellsFrom (s.heap.objs.size + 1) (defScope st).names []).lookup y.1).isSome = true) := by
      intro y hy
      rcases S.par y.1 (List.of_mem_zip (show (y.1, y.2) ∈ ps.zip us from hy)).1 with z | z
      · exact .inl z
      · exact .inr ⟨z, PySem.W.cellsFrom_some _ _ _ (.inl z)⟩
    refine codeAny_call_function (Room.depth hr) (KX _ _ lk) rfl S.co S.gen rfl (PySem.W.codeRec_of KX hcd) (hb _ _ _ _ ?_)
    refine wpAny_newFunctionEnv_cells S.kind kinds (fun env henv s1 inc => ?_)
    subst henv
    refine ⟨nl.keeps inc.toInCall.keep, codeAny_func ?_⟩
    obtain ⟨t, ht, q⟩ := hbody cdv A outer s H vs Q E hA (hr.deeper _) hsp
    have I0 := inv_start (CX := CX0) (E := E) S hr.hd e0 hz r inc
    refine wpAny_mono (ht.nox.run [] s1 (start N vs) H _ I0 q) (fun fl s2 hs => ?_) (fun _ _ z => z)
    cases fl with
    | ret u =>
      obtain ⟨v, _, H2, J, rv, q2⟩ := hs
      exact ⟨v, H2, J.os, J.bare, J.base, J.hok, rv, q2⟩
    | next =>
      obtain ⟨_, H2, J, q2⟩ := hs
      exact ⟨.non, H2, J.os, J.bare, J.base, J.hok, rfl, q2⟩
    | brk => obtain ⟨_, _, _, q2⟩ := hs; exact q2.elim
    | cont => obtain ⟨_, _, _, q2⟩ := hs; exact q2.elim
/-- f(..), f such a def -/
theorem re_callG {sp : Sp} {Q : VK} (F : FnG X.prog X.w X.K X.mg X.base k f fd ps sp) (hA : X.A.guards = some []) (hr : Room k X.A) (hm : X.mg x = some (.ref f)) (hk : PySem.W.keepIn X.K (.ref f) = true) (hb : Binds X.K fd ps []) (ha : RA X (e :: es) σ H fun vs H1 => sp vs H1 Q E0) (hg : Gl X x := by rfl)
    (hdb : (x == ("__debug__" : Str)) = false := by decide) (he : starEach (e :: es) X.env = (false, eval e X.env) :: starEach es X.env := by rfl) (hpl : (backTo pos (starEach es X.env)).any (·.1) = false := by rfl) : RE X (.Call (.Name x p1) (e :: es) [] pos) σ H Q := by
  refine ⟨fun σ H Q => RA X (e :: es) σ H fun vs H1 => sp vs H1 Q E0, ⟨fun pins s σ H Q I h => ?_⟩, ha⟩
  refine wpAny_Call_Name_kw (ld_glob I hg hm ?_ hdb)
  refine PySem.W.callWith_K (h₀ := X.base) I.ok.mod.kin hk (thn (ra_.run pos pins s σ H _ I h) fun us s1 ⟨vs, H1, I1, r, q⟩ => ⟨I1.kIn, ?_⟩) he hpl
  have hz : us.length = ps.length := by rw [← r.length]; exact F.len _ _ _ _ q
  have hb' := hb s1 us I1.kIn (by rw [List.append_nil]; exact hz)
  rw [List.append_nil] at hb'
  refine wpAny_call (codeAny_mono (F.run X.A hA hr X.stack s1 H1 ⟨us, []⟩ us vs Q E0 I1.env0 hb' r q) fun r' s' hq => ?_)
  cases r' with
  | error e => exact hq.elim
  | ok fl =>
    cases fl with
    | ret u => exact I1.after hq
    | next => exact hq.elim
    | brk => exact hq.elim
    | cont => exact hq.elim
/-! ### repr of data -/
theorem call_reprD (hA : X.A.guards = some []) (hu : X.A.units + 64 < cLine) : CallR X (.builtin "repr") (fun xs H Q => ∃ (p : Addr) (d : PyData), xs = [.ref p] ∧ Dp X.K H (.ref p) d ∧ d.showable = true ∧ d.hasDict = false ∧ d.depth ≤ 60 ∧ d.shown.length ≤ sizeLine ∧ Q (.str d.shown) H) := by
  intro pins s σ H xs us Q I r h
  obtain ⟨p, d, rfl, hd, h1, h2, h3, h4, q⟩ := h
  obtain ⟨u, rfl, rx⟩ := vals1 r
  obtain ⟨as, rd⟩ := Dp.reads I d _ u hd rx
  cases rx
  exact repr_of_reads' rd h1 (fun z => by rw [h2] at z; cases z) hA (by omega) (fun _ _ z => z) (fun h' u tk hk => ⟨.str d.shown, H, I.kept (t' := tk) hk, ⟨u, rfl⟩, q⟩) h4
/-- repr(a) != repr(b) of the same data: False -/
theorem xt_reprNe {pa pb : Pos} (hA : X.A.guards = some []) (hu : X.A.units + 64 < cLine) (hm : X.mg "repr" = none) (ha : XD X M σ H a (.list ds)) (hb : XD X M σ H b (.list ds)) (h1 : (PyData.list ds).showable = true) (h2 : (PyData.list ds).hasDict = false) (h3 : (PyData.list ds).depth ≤ 60) (h4 : (PyData.list ds).shown.length ≤ sizeLine) (hg : Gl X "repr" := by rfl)
    (he : starEach [a] X.env = (false, eval a X.env) :: starEach [] X.env := by rfl) (hpl : (backTo pa (starEach [] X.env)).any (·.1) = false := by rfl) (he2 : starEach [b] X.env = (false, eval b X.env) :: starEach [] X.env := by rfl) (hpl2 : (backTo pb (starEach [] X.env)).any (·.1) = false := by rfl) :
    XT X σ H (.Compare (.Call (.Name "repr" p1) [a] [] pa) [.NotEq] [.Call (.Name "repr" p2) [b] [] pb] pos) false := by
  have key : ∀ {e : Expr} {pp qq : Pos}, XD X M σ H e (.list ds) → starEach [e] X.env = (false, eval e X.env) :: starEach [] X.env → (backTo qq (starEach [] X.env)).any (·.1) = false → XD X M σ H (.Call (.Name "repr" pp) [e] [] qq) (.str (PyData.list ds).shown) := fun {e pp qq} h z1 z2 H1 s Q q =>
    re_B (call_reprD hA hu) (ra_1 (h H1 s _ fun v H2 s2 hv => by
      obtain ⟨p, xs, rfl, hp, hx⟩ := dp_lst hv
      exact ⟨p, _, rfl, (hv.up hid_le).dp, h1, h2, h3, h4, q _ H2 s2 (.str _)⟩) z1) hm (by decide +kernel) hg (by decide) (by decide) z1 z2
  refine xt_cmp op_ne (key ha he hpl) (key hb he2 hpl2) fun H1 v w s hv hw Q q => ?_
  rw [dp_str hv, dp_str hw]
  exact ⟨rfl, by rw [decide_eq_true rfl]; exact q H1 (Same.refl _)⟩
theorem xd_reprEq {pa pb : Pos} (hA : X.A.guards = some []) (hu : X.A.units + 64 < cLine) (hm : X.mg "repr" = none) (ha : XD X M σ H a (.list ds)) (hb : XD X M σ H b (.list ds)) (h1 : (PyData.list ds).showable = true) (h2 : (PyData.list ds).hasDict = false) (h3 : (PyData.list ds).depth ≤ 60) (h4 : (PyData.list ds).shown.length ≤ sizeLine) (hg : Gl X "repr" := by rfl)
    (he : starEach [a] X.env = (false, eval a X.env) :: starEach [] X.env := by rfl) (hpl : (backTo pa (starEach [] X.env)).any (·.1) = false := by rfl) (he2 : starEach [b] X.env = (false, eval b X.env) :: starEach [] X.env := by rfl) (hpl2 : (backTo pb (starEach [] X.env)).any (·.1) = false := by rfl) :
    XD X M σ H (.Compare (.Call (.Name "repr" p1) [a] [] pa) [.Eq] [.Call (.Name "repr" p2) [b] [] pb] pos) (.bool true) := by
  have key : ∀ {e : Expr} {pp qq : Pos}, XD X M σ H e (.list ds) → starEach [e] X.env = (false, eval e X.env) :: starEach [] X.env → (backTo qq (starEach [] X.env)).any (·.1) = false → XD X M σ H (.Call (.Name "repr" pp) [e] [] qq) (.str (PyData.list ds).shown) := fun {e pp qq} h z1 z2 H1 s Q q =>
    re_B (call_reprD hA hu) (ra_1 (h H1 s _ fun v H2 s2 hv => by
      obtain ⟨p, xs, rfl, hp, hx⟩ := dp_lst hv
      exact ⟨p, _, rfl, (hv.up hid_le).dp, h1, h2, h3, h4, q _ H2 s2 (.str _)⟩) z1) hm (by decide +kernel) hg (by decide) (by decide) z1 z2
  refine xd_cmp op_eq (key ha he hpl) (key hb he2 hpl2) fun H1 v w s hv hw Q q => ?_
  rw [dp_str hv, dp_str hw]
  exact ⟨rfl, by rw [decide_eq_true rfl]; exact q _ H1 (Same.refl _) (.bl _)⟩
/-! ### isinstance -/
def tyN : PyData → String
  | .none => "NoneType"
  | .bool _ => "bool"
  | .int _ => "int"
  | .str _ => "str"
  | .list _ => "list"
  | .tuple _ => "tuple"
  | .dict _ => "dict"
theorem ty_dq {K : PySem.W.Frag} (h : Dq K H v d) : TyX K H v (.type (tyN d)) := by
  cases h with
  | non => exact .base .non
  | bl b => exact .base (.bl b)
  | int i => exact .base (.int i)
  | str z => exact .base (.str z)
  | lst h1 _ => exact .base (.lst h1)
  | tup h1 _ =>
    rcases h1 with (h1 | ⟨o, h1⟩) | ⟨o, its, n, h1, h2, _⟩
    · exact .base (.tup h1)
    · exact .fTuple h1
    · exact .kTuple h1 h2
/-- isinstance(a, T), T a built-in type by its name -/
theorem xd_is1 {T : String} {r : Bool} {nm : Str} (hk : kitB (tyN d) T = some r) (hm : X.mg "isinstance" = none) (hmT : X.mg nm = none) (hvT : bootBuiltins nm = some (.type T)) (ha : XD X M σ H a d) (hg : Gl X "isinstance" := by rfl) (hgT : Gl X nm := by rfl) (hnT : nm ≠ "__name__" := by decide) (hdT : (nm == ("__debug__" : Str)) = false := by decide)
    (he : starEach [a, .Name nm p2] X.env = (false, eval a X.env) :: starEach [.Name nm p2] X.env := by rfl) (he2 : starEach [.Name nm p2] X.env = (false, eval (.Name nm p2) X.env) :: starEach [] X.env := by rfl) (hpl : (backTo pos (starEach [.Name nm p2] X.env)).any (·.1) = false := by rfl) :
    XD X M σ H (.Call (.Name "isinstance" p1) [a, .Name nm p2] [] pos) (.bool r) := fun H1 s Q q =>
  re_B call_isi (ra_cons (ha H1 s _ fun v H2 s2 hv => ra_1 (xv_bltn (v := .ty T) hmT hvT rfl hgT hnT hdT H2 (Same.refl _) _ fun H3 s3 =>
    ⟨v, .ty T, _, _, r, rfl, .ty T, ty_dq ((hv.up hid_le).up s3), kit_ty hk, q _ H3 (s2.trans s3) (.bl _)⟩) he2) he) hm (by decide +kernel) hg (by decide) (by decide) he hpl
/-- isinstance(a, (T1, T2)) -/
theorem xd_is2 {T1 T2 : String} {r1 r2 : Bool} {n1 n2 : Str} {k3} (h1 : kitB (tyN d) T1 = some r1) (h2 : kitB (tyN d) T2 = some r2) (hm : X.mg "isinstance" = none) (hm1 : X.mg n1 = none) (hv1 : bootBuiltins n1 = some (.type T1)) (hm2 : X.mg n2 = none) (hv2 : bootBuiltins n2 = some (.type T2)) (ha : XD X M σ H a d)
    (hg : Gl X "isinstance" := by rfl) (hg1 : Gl X n1 := by rfl) (hg2 : Gl X n2 := by rfl) (hn1 : n1 ≠ "__name__" := by decide) (hn2 : n2 ≠ "__name__" := by decide) (hd1 : (n1 == ("__debug__" : Str)) = false := by decide) (hd2 : (n2 == ("__debug__" : Str)) = false := by decide) {q1 q2 q3 : Pos}
    (he : starEach [a, .Tuple [.Name n1 q1, .Name n2 q2] k3 q3] X.env = (false, eval a X.env) :: starEach [.Tuple [.Name n1 q1, .Name n2 q2] k3 q3] X.env := by rfl) (he2 : starEach [.Tuple [.Name n1 q1, .Name n2 q2] k3 q3] X.env = (false, eval (.Tuple [.Name n1 q1, .Name n2 q2] k3 q3) X.env) :: starEach [] X.env := by rfl)
    (hs1 : starEach [.Name n1 q1, .Name n2 q2] X.env = (false, eval (.Name n1 q1) X.env) :: starEach [.Name n2 q2] X.env := by rfl) (hs2 : starEach [.Name n2 q2] X.env = (false, eval (.Name n2 q2) X.env) :: starEach [] X.env := by rfl)
    (hpl : (backTo pos (starEach [.Tuple [.Name n1 q1, .Name n2 q2] k3 q3] X.env)).any (·.1) = false := by rfl) :
    XD X M σ H (.Call (.Name "isinstance" p1) [a, .Tuple [.Name n1 q1, .Name n2 q2] k3 q3] [] pos) (.bool (r1 || r2)) := fun H1 s Q q =>
  re_B call_isiT (ra_cons (ha H1 s _ fun v H2 s2 hv => ra_1 ⟨_, pe_tup ra_, ra_cons (xv_bltn (v := .ty T1) hm1 hv1 rfl hg1 hn1 hd1 H2 (Same.refl _) _ fun H3 s3 => ra_1 (xv_bltn (v := .ty T2) hm2 hv2 rfl hg2 hn2 hd2 H3 (Same.refl _) _ fun H4 s4 => by
    refine ⟨by show 2 ≤ sizeLine; decide, fun p hp => ?_⟩
    have s5 : Same H2 (upd H4 p (.tup [V.ty T1, V.ty T2])) := (s3.trans s4).trans (same_new hp)
    refine ⟨v, p, [.ty T1, .ty T2], _, _, r1 || r2, rfl, upd_same, .cons (.ty T1) (.cons (.ty T2) .nil), ty_dq ((hv.up hid_le).up s5), ?_, q _ _ (s2.trans s5) (.bl _)⟩
    refine kitAny_cons (kit_ty h1) (fun z => ?_) (fun z => by rw [z]; rfl)
    rw [z, Bool.false_or]
    exact kitAny_cons (kit_ty h2) (fun z2 => by rw [z2]; exact kitAny_nil) (fun z2 => z2)) hs2) hs1⟩ he2) he) hm (by decide +kernel) hg (by decide) (by decide) he hpl
/-! ### instances -/
theorem xv_fld {dx pa : Addr} {fs : List (Str × V)} {f : Str} (ho : XV X σ H o (.ref pa)) (h1 : H pa = some (.ins C dx fs)) (hc : Cls X.K C) (hn : NoAttr X.K C f) (hl : fs.lookup f = some v) (hb : attributeBase o f X.env (eval o X.env) = eval o X.env := by rfl) : XV X σ H (.Attribute o f pos) v := fun H1 s Q q =>
  ⟨_, pe_fld re_ hb, ho H1 s _ fun H2 s2 => ⟨pa, C, dx, fs, v, rfl, (s.trans s2) _ _ h1, hc, hn, hl, q H2 s2⟩⟩
theorem re_meth {dx pa : Addr} {fs : List (Str × V)} {m : Str} {sp : Sp} {Q : VK} {pl : Sem Bool} {apos : Pos} (ho : XV X σ H o (.ref pa)) (h1 : H pa = some (.ins C dx fs)) (hc : Cls X.K C) (hM : Meth X.K C m f) (hl : fs.lookup m = none) (F : FnOk X.prog X.w X.K X.mg X.base CX0 k f fd ps sp) (hr : Room k X.A) (hb : Binds X.K fd ps [])
    (ha : ∀ H1, Same H H1 → RA X (e :: es) σ H1 fun vs H2 => sp (.ref pa :: vs) H2 Q E0) (hst : starEach (e :: es) X.env = (false, eval e X.env) :: starEach es X.env := by rfl) (hpl : (backTo pos (starEach es X.env)).any (·.1) = false := by rfl)
    (ht : eval (.Call (.Attribute o m apos) (e :: es) [] pos) X.env = (do
      let ov ← eval o X.env
      standAt apos.atName
      let (f, first) ← holding [ov] (getMethod ov m pl)
      callWith pos f first (backTo pos (starEach (e :: es) X.env)) (backToKw pos (keywordEach [] X.env))) := by rfl) : RE X (.Call (.Attribute o m apos) (e :: es) [] pos) σ H Q :=
  ⟨_, pe_meth re_ hc hM F hr hb .nil pass0 ra_ hst hpl ht, ho H (Same.refl H) _ fun H1 s1 => ⟨pa, dx, fs, rfl, s1 _ _ h1, hl, ra_mono (ha H1 s1) fun vs H2 q => by rw [List.append_nil]; exact q⟩⟩
theorem re_meth0 {dx pa : Addr} {fs : List (Str × V)} {m : Str} {sp : Sp} {Q : VK} {pl : Sem Bool} {apos : Pos} (ho : XV X σ H o (.ref pa)) (h1 : H pa = some (.ins C dx fs)) (hc : Cls X.K C) (hM : Meth X.K C m f) (hl : fs.lookup m = none) (F : FnOk X.prog X.w X.K X.mg X.base CX0 k f fd ps sp) (hr : Room k X.A) (hb : Binds X.K fd ps [])
    (ha : ∀ H1, Same H H1 → sp [.ref pa] H1 Q E0)
    (ht : eval (.Call (.Attribute o m apos) [] [] pos) X.env = (do
      let ov ← eval o X.env
      standAt apos.atName
      let (f, first) ← holding [ov] (getMethod ov m pl)
      callWith pos f first (backTo pos (starEach [] X.env)) (backToKw pos (keywordEach [] X.env))) := by rfl) : RE X (.Call (.Attribute o m apos) [] [] pos) σ H Q :=
  ⟨_, pe_meth0 re_ hc hM F hr hb .nil pass0 ht, ho H (Same.refl H) _ fun H1 s1 => ⟨pa, dx, fs, rfl, s1 _ _ h1, hl, ha H1 s1⟩⟩
end
end Dl

set_option Elab.async false
set_option linter.all false
set_option maxRecDepth 100000
set_option maxHeartbeats 4000000
/-! Data layer, part 5: operators of an own class; the end. -/
namespace Dl
open PySem PySem.Spec PyProof.Rows L2
/-- a namespace of the written part -/
theorem ns_at {K : PySem.W.Frag} {h : Heap} {N : Addr} {mN : Str → Option Value} {n : Str} {v : Value} (X : K.In h) (G : h.Ns N mN) (e : PySem.W.nsIn K N n = some (some v)) : mN n = some v := by
  obtain ⟨o, es, ep, ho, hd, _, hf⟩ := G
  unfold PySem.W.nsIn at e
  split at e
  · rename_i cc dd es2 nn sl q
    have z := X _ _ q
    rw [ho] at z
    cases z
    cases hd
    split at e
    · rename_i en he
      cases e
      rw [← hf]
      unfold nsFind findBy
      rw [← Array.find?_toList, he]
      rfl
    · split at e <;> cases e
  · cases e
/-- what the written part says of a class with an own == and no != -/
structure ClsEq (K : PySem.W.Frag) (C f : Addr) : Prop where
  cls : ∃ nm q N bs hdct sn sub ab col dd k0 k1 k2 k3 k5 newId, K.lookup C = some (excClassObj nm q C N bs [.type "object"] hdct sn sub ab col dd k0 k1 k2 k3 k5 newId) ∧ PySem.W.nsOkIn K N = true ∧ PySem.W.nsIn K N "__eq__" = some (some (.ref f)) ∧ PySem.W.nsIn K N "__ne__" = some none
  at_ : PySem.W.findIn K (.ref C) "__eq__" = some (some (.ref f))
  fn : PySem.W.isFn K (.ref f) = true
  obj : ∃ o, K.lookup f = some o ∧ o.cls = .type "function"
section
variable {X : Cx} {M : List Addr} {σ : L2.St} {H H' : Hp} {e a b c o : Expr} {es : List Expr} {d d1 d2 : PyData} {ds ds2 es' : List PyData} {x : Str} {v : V} {pos p1 p2 p3 : Pos} {D : Ends} {rest sts : List Stmt} {st : Stmt} {k : Nat} {f C : Addr} {fd : FuncData} {ps : List Str} {sp : Sp}
/-- a bool comes back -/
def bk (Q : Bool → Hp → Prop) : VK := fun v H => ∃ b, v = .bl b ∧ Q b H
theorem run_bool {A : Around} {E : Value → Shared → Prop} {pins : List (Addr × Obj)} {s : Shared} {us : List Value} {vs : List V} {Q : Bool → Hp → Prop} {R : Value → Shared → Prop} (I : Inv X pins σ H s) (fr : A.frames = X.A.frames) (F : FnOk X.prog X.w X.K X.mg X.base CX0 k f fd ps sp) (hr : Room k A) (hb : Binds X.K fd ps []) (r : Vals vs us) (h : sp vs H (bk Q) E0)
    (q : ∀ b s' H', Inv X pins σ H' s' → Q b H' → R (.bool b) s') : wpAny (model X.prog X.w) A (call (.ref f) us) R E s := by
  have hz : us.length = ps.length := by rw [← r.length]; exact F.len _ _ _ _ h
  have hb' := hb s us I.kIn (by rw [List.append_nil]; exact hz)
  rw [List.append_nil] at hb'
  have e := I.env0
  have e0 : Env0 X.prog X.w X.K X.mg X.base A X.stack s H := ⟨by rw [fr]; exact e.frames, e.mod, e.bs, e.bsz, e.funs, e.frf, e.hok, e.bare⟩
  refine wpAny_call (codeAny_mono (F.run A X.stack s H ⟨us, []⟩ us vs (bk Q) E0 hr e0 hb' r h) fun r' s' hq => ?_)
  cases r' with
  | error e => exact hq.elim
  | ok fl =>
    cases fl with
    | ret u =>
      obtain ⟨z, H1, I1, rz, b, ez, q1⟩ := I.after hq
      subst ez
      cases rz
      exact q b s' H1 I1 q1
    | next => exact hq.elim
    | brk => exact hq.elim
    | cont => exact hq.elim
/-- a == b, a of an own class; the other one of that class, or of a type that is not below it -/
theorem op_eqO {tb : Value → Prop} (E : ClsEq X.K C f) (F : FnOk X.prog X.w X.K X.mg X.base CX0 k f fd ps sp) (hr : Room k X.A) (hb : Binds X.K fd ps []) :
    OpR X (compareOp .Eq) (fun x y H Q => ∃ pa dx fs, x = .ref pa ∧ H pa = some (.ins C dx fs) ∧ ((∃ pb dy gs, y = .ref pb ∧ H pb = some (.ins C dy gs)) ∨ (PySem.W.subIn X.K (.type "list") (.ref C) = some false ∧ ∃ pb xs, y = .ref pb ∧ H pb = some (.lst xs))) ∧ sp [x, y] H (bk fun b H1 => Q (.bl b) H1) E0) := by
  intro pins s σ H x y u v Q I rx ry h
  obtain ⟨pa, dx, fs, rfl, ha, hy, hsp⟩ := h
  cases rx
  obtain ⟨mA, J, _⟩ := ins_get I.hok ha
  obtain ⟨od, J, _⟩ := J.look
  obtain ⟨m, hF⟩ := I.fr
  show wpAny (model X.prog X.w) X.A (richCompare .Eq (.ref pa) v) (EP X pins σ Q) X.xe s
  have fin : wpAny (model X.prog X.w) X.A (call (.ref f) [.ref pa, v]) (PySem.W.CmpBack (EP X pins σ Q)) X.xe s :=
    run_bool (Q := fun b H1 => Q (.bl b) H1) I rfl F hr hb (.cons (show RelV (.ref pa) (.ref pa) from rfl) (.cons ry .nil)) hsp fun b s' H' I' q => ⟨.bl b, H', I', rfl, q⟩
  rcases hy with ⟨pb, dy, gs, rfl, hb2⟩ | ⟨hsub, pb, xs, rfl, hb2⟩
  · cases ry
    obtain ⟨mB, J2, _⟩ := ins_get I.hok hb2
    obtain ⟨od2, J2, _⟩ := J2.look
    exact PySem.W.cmp_K (op := .Eq) (tb := .ref C) hr.units0 hF I.ok.mod.kin J J2.type (by simp [PySem.W.notFirst]) E.at_ E.fn fin
  · cases ry
    obtain ⟨_, its, n, r, e⟩ := (show ObjOk X.prog X.w H s.heap pb (.lst xs) from I.hok pb _ hb2)
    have z : PySem.W.Looks (model X.prog X.w) s.heap (typeOf (.ref pb)) (.type "list") := (PySem.W.Looks.ld e).andThen .now
    exact PySem.W.cmp_K (op := .Eq) (tb := .type "list") hr.units0 hF I.ok.mod.kin J z (by unfold PySem.W.notFirst; rw [hsub]; simp) E.at_ E.fn fin
/-- a != b of one own class -/
theorem op_neO (E : ClsEq X.K C f) (F : FnOk X.prog X.w X.K X.mg X.base CX0 k f fd ps sp) (hr : Room (k + 1) X.A) (hb : Binds X.K fd ps []) :
    OpR X (compareOp .NotEq) (fun x y H Q => ∃ pa dx fs pb dy gs, x = .ref pa ∧ H pa = some (.ins C dx fs) ∧ y = .ref pb ∧ H pb = some (.ins C dy gs) ∧ sp [x, y] H (bk fun b H1 => Q (.bl (!b)) H1) E0) := by
  intro pins s σ H x y u v Q I rx ry h
  obtain ⟨pa, dx, fs, pb, dy, gs, rfl, ha, rfl, hb2, hsp⟩ := h
  cases rx
  cases ry
  obtain ⟨mA, J, _⟩ := ins_get I.hok ha
  obtain ⟨od, J, _⟩ := J.look
  obtain ⟨mB, J2, _⟩ := ins_get I.hok hb2
  obtain ⟨od2, J2, _⟩ := J2.look
  obtain ⟨hox, hoc, _⟩ := J
  obtain ⟨hoy, hoyc, _⟩ := J2
  obtain ⟨nm, q, N, bs, hdct, sn, sub, ab, col, dd, k0, k1, k2, k3, k5, newId, hC, hN, he, hne⟩ := E.cls
  obtain ⟨of, hfo, hfc⟩ := E.obj
  have KX := I.kIn
  have hns := Heap.Ns.of_isNs (PySem.W.isNs_of_in KX hN)
  have Y : s.heap.OwnEqNoNe pa C f "object" [.type "object"] :=
    ⟨_, of, nm, q, N, bs, hdct, sn, sub, ab, col, dd, k0, k1, k2, k3, k5, newId, _, _, hox, hoc, KX _ _ hC, hns, ns_at KX hns he, KX _ _ hfo, hfc, PySem.F.mro_object, PySem.F.cmp_object.eq.lookup, PySem.W.ns_none_of KX hns hne⟩
  have hu := hr.units0
  obtain ⟨hh, g, dr, tk, os⟩ := s
  refine compareOp_ne_ownEq PySem.F.cmp_object Y hoy hoyc (by have := hr.un; omega) ?_
  exact run_bool (A := X.A.in1) (Q := fun b H1 => Q (.bl (!b)) H1) I rfl F hr.in1 hb (.cons (show RelV (.ref pa) (.ref pa) from rfl) (.cons (show RelV (.ref pb) (.ref pb) from rfl) .nil)) hsp fun b s' H' I' q => ⟨b, rfl, ⟨.bl (!b), H', I', rfl, q⟩⟩
/-- x in o, o of an own class -/
theorem op_inO (hs : PySem.W.findIn X.K (.ref C) "__contains__" = some (some (.ref f))) (hf : PySem.W.isFn X.K (.ref f) = true) (F : FnOk X.prog X.w X.K X.mg X.base CX0 k f fd ps sp) (hr : Room k X.A) (hb : Binds X.K fd ps []) :
    OpR X (compareOp .In) (fun x y H Q => ∃ pa dx fs, y = .ref pa ∧ H pa = some (.ins C dx fs) ∧ sp [y, x] H (bk fun b H1 => Q (.bl b) H1) E0) := by
  intro pins s σ H x y u v Q I rx ry h
  obtain ⟨pa, dx, fs, rfl, ha, hsp⟩ := h
  cases ry
  obtain ⟨mA, J, _⟩ := ins_get I.hok ha
  obtain ⟨od, J, _⟩ := J.look
  obtain ⟨m, hF⟩ := I.fr
  exact PySem.W.in_K hF I.ok.mod.kin J hs hf (run_bool (Q := fun b H1 => Q (.bl b) H1) I rfl F hr hb (.cons (show RelV (.ref pa) (.ref pa) from rfl) (.cons rx .nil)) hsp fun b s' H' I' q => wpAny_truthy_bool ⟨.bl b, H', I', rfl, q⟩)
/-- len(o) -/
theorem call_lenO (hs : PySem.W.findIn X.K (.ref C) "__len__" = some (some (.ref f))) (hf : PySem.W.isFn X.K (.ref f) = true) (F : FnOk X.prog X.w X.K X.mg X.base CX0 k f fd ps sp) (hr : Room (k + 1) X.A) (hb : Binds X.K fd ps []) :
    CallR X (.builtin "len") (fun xs H Q => ∃ pa dx fs, xs = [.ref pa] ∧ H pa = some (.ins C dx fs) ∧ sp xs H (fun v H1 => ∃ n : Nat, v = .int n ∧ n < 2 ^ 62 ∧ Q (.int n) H1) E0) := by
  intro pins s σ H xs us Q I r h
  obtain ⟨pa, dx, fs, rfl, ha, hsp⟩ := h
  obtain ⟨u, rfl, rx⟩ := vals1 r
  cases rx
  obtain ⟨mA, J, _⟩ := ins_get I.hok ha
  obtain ⟨od, J, _⟩ := J.look
  obtain ⟨m, hF⟩ := I.fr
  refine PySem.W.len_K hF I.ok.mod.kin J hs hf ?_
  have hz : [Value.ref pa].length = ps.length := F.len _ _ _ _ hsp
  have hb' := hb s [.ref pa] I.kIn (by rw [List.append_nil]; exact hz)
  rw [List.append_nil] at hb'
  have e := I.env0.in1
  refine wpAny_call (codeAny_mono (F.run X.A.in1 X.stack s H ⟨[.ref pa], []⟩ [.ref pa] [.ref pa] _ E0 hr.in1 e hb' (.cons rfl .nil) hsp) fun r' s' hq => ?_)
  cases r' with
  | error e => exact hq.elim
  | ok fl =>
    cases fl with
    | ret u =>
      obtain ⟨z, H1, I1, rz, n, ez, hn, q1⟩ := I.after hq
      subst ez
      obtain ⟨t, rfl⟩ := rz
      exact ⟨⟨by omega, by omega⟩, ⟨.int n, H1, I1.tok _, ⟨_, rfl⟩, q1⟩⟩
    | next => exact hq.elim
    | brk => exact hq.elim
    | cont => exact hq.elim
/-- o.p, a property -/
theorem re_prop {dx pa pp : Addr} {fs : List (Str × V)} {m : Str} {Q : VK} (ho : XV X σ H o (.ref pa)) (h1 : H pa = some (.ins C dx fs)) (hc : Cls X.K C) (hp : PropOf X.K C m pp f) (F : FnOk X.prog X.w X.K X.mg X.base CX0 k f fd ps sp) (hr : Room (k + 1) X.A) (hb : Binds X.K fd ps []) (ha : ∀ H1, Same H H1 → sp [.ref pa] H1 Q E0)
    (hab : attributeBase o m X.env (eval o X.env) = eval o X.env := by rfl) : RE X (.Attribute o m pos) σ H Q :=
  ⟨_, pe_prop re_ hc hp F hr hb .nil pass0 hab, ho H (Same.refl H) _ fun H1 s1 => ⟨pa, dx, fs, rfl, s1 _ _ h1, ha H1 s1⟩⟩
/-- C(e, ..) -/
theorem re_make {Q : VK} {dvs : List V} {dl : List Value} (Mm : Mk X.K C f) (F : FnOk X.prog X.w X.K X.mg X.base CX0 k f fd ps sp) (hr : Room (k + 1) X.A) (hm : X.mg x = some (.ref C)) (hb : Binds X.K fd ps dl) (hd : Vals dvs dl)
    (ha : RA X (e :: es) σ H fun vs H1 => ∀ y dx, H1 y = none → H1 dx = none → dx ≠ y → sp (.ref y :: (vs ++ dvs)) (upd (upd H1 dx (.own y)) y (.ins C dx [])) (fun v H2 => v = .non ∧ Q (.ref y) H2) E0) (hg : Gl X x := by rfl)
    (hdb : (x == ("__debug__" : Str)) = false := by decide) (he : starEach (e :: es) X.env = (false, eval e X.env) :: starEach es X.env := by rfl) (hpl : (backTo pos (starEach es X.env)).any (·.1) = false := by rfl) : RE X (.Call (.Name x p1) (e :: es) [] pos) σ H Q :=
  ⟨_, pe_make Mm F hr hg hm hb hd pass0 ra_ hdb he hpl, ha⟩
/-- o.f = e -/
theorem rb_fld {m : Str} {dx pa : Addr} {fs : List (Str × V)} {ap : Pos} (he : RE X e σ H fun v H1 => H1 pa = some (.ins C dx fs) ∧ fs.length < 1000 ∧ XV X σ H1 o (.ref pa) ∧ ∀ H2, Same H1 H2 → RB X rest D σ (upd H2 pa (.ins C dx (putF m v fs)))) (hc : Cls X.K C) (hn : NoAttr X.K C m) (hs : swapsWith e (some (.Attribute o m ap)) pos.line X.env = pure false := by rfl) :
    RB X (.Assign [.Attribute o m ap] e pos :: rest) D σ H :=
  ⟨_, pss_cons (ps_fld re_ re_ hs) rb_, re_mono he fun v H1 ⟨h1, hl, ho, q⟩ => ho H1 (Same.refl _) _ fun H2 s2 => ⟨pa, C, dx, fs, rfl, s2 _ _ h1, hc, hn, hl, q H2 s2⟩⟩
end
end Dl

set_option Elab.async false
set_option linter.all false
set_option maxRecDepth 100000
set_option maxHeartbeats 4000000
/-! Data layer, part 6: sets of whole numbers by a comprehension, sorted; repr of one value; sums; dicts by texts. -/
namespace Dl
open PySem PySem.Spec PyProof.Rows L2
section
variable {X : Cx}
/-- {e for t in it if ..}, e a whole number; p: the set -/
def tSetI (w : World) (wi : TI) (g : TG) (tt : TT) (te : TE) (vs : List Nat) : TE := fun σ H Q => wi σ H fun J Ha => ∀ p, Ha p = none → ∃ Z : Nat → Nat → Hp → Prop,
  (∃ k, Z 0 k (upd Ha p (SetO w p (fun _ => false) 0))) ∧ ∀ i k Hb, Z i k Hb → (J.stop i Hb ∧ Q (.ref p) Hb) ∨ (J.go i Hb ∧ ∃ Nx : Hp → Prop, (∀ Hc, Nx Hc → ∃ j, j < k ∧ Z (i + 1) j Hc) ∧
    ∀ x Hc, J.yld i Hb x Hc → g x (wipe σ vs) Hc fun τ Hd => wipe τ vs = wipe σ vs ∧ tt τ Hd fun b He =>
      if b = true then te τ He fun y Hf => ∃ (n : Int) (S : Int → Bool) (c : Nat), y = .int n ∧ Hf p = some (SetO w p S c) ∧ c + 1 < scanBound ∧ Nx (upd Hf p (SetO w p (fun j => S j || decide (j = n)) (if S n = true then c else c + 1))) else Nx He)
theorem setI_run {ps : List (Addr × Obj)} {z : Shared} {σ : L2.St} {H : Hp} {Q : VK} {elt tg iter : Expr} {ifs : List Expr} {scope : Scope} {own : List (PySem.Str × Nat)} {pos pf : Pos} {wi : TI} {g : TG} {tt : TT} {te : TE} {Qf : Value → Shared → Prop}
    (hc : X.calm = true) (hN : X.N.Nodup) (inv : Inv X ps σ H z) (hi : PI X tg iter wi) (ok : BlkOk X.N X.env.scope scope own)
    (Pg : ∀ (y : Shared) (Hy : Hp) (c : Addr) (l : List (PySem.Str × Addr)) (q : List Addr), PG (X.blk y Hy scope (compEnvC scope l c X.env) q) tg g)
    (Pt : ∀ (y : Shared) (Hy : Hp) (c : Addr) (l : List (PySem.Str × Addr)) (q : List Addr), PTs (X.blk y Hy scope (compEnvC scope l c X.env) q) ifs tt)
    (Pe : ∀ (y : Shared) (Hy : Hp) (c : Addr) (l : List (PySem.Str × Addr)) (q : List Addr), PE (X.blk y Hy scope (compEnvC scope l c X.env) q) elt te)
    (hs : ∀ x, foldedSetIterable iter X.env x = pure x) (owed : tSetI X.w wi g tt te (own.map (·.2)) σ H Q)
    (back : ∀ p c y m Hy, Inv X ps σ Hy y → Q (.ref p) Hy → y.heap.Ns c m → FpOk X ps Hy c → compPost (model X.prog X.w) X.A X.xe none Qf (.ref p) c (.ok .next) y) :
    wpAny (model X.prog X.w) X.A (comprehension (.SetComp elt [⟨tg, iter, ifs, 0⟩] scope pos) scope X.env pf (newSet (.type "set")) false (eval iter X.env) none) Qf X.xe z := by
  have cells : ∀ y ∈ scope.names, y.2 = .free → ∃ c, X.env.cells.lookup y.1 = some c := fun y hy e => (ok.free y hy e).elim (fun k => inv.ok.has _ (.inl k)) (fun k => inv.ok.has _ (.inr k))
  have names : ∀ y ∈ scope.names, y.2 = .local → scope.names.lookup y.1 = some .local := fun y hy e => by
    have u := ok.uniq y hy
    rw [e] at u
    exact u
  refine wpAny_comprehension_free (use := none) rfl hs (closure_ok cells) ok.kind names (thn (hi.run ps z σ H _ inv owed) fun _ za ha => thn ha fun _ zb hb => ?_)
  obtain ⟨it, fp, tn, J, Hb, rfl, invB, T, t0, fB, body⟩ := hb
  refine PpSet.newSet_ok (newEnv_comp ?_)
  generalize hp : zb.heap.objs.size = p
  have free : Hb p = none := invB.hok.fresh (Nat.le_of_eq hp)
  obtain ⟨Z, ⟨k0, start⟩, turn⟩ := body p free
  generalize hcz : ({ zb with heap := zb.heap.push { cls := .type "set", dict := none, data := .set #[] 0 (.fresh 0 0 (!X.w.params.followText "set-order")) } } : Shared) = zc
  have eqz : zc.heap = zb.heap.push { cls := .type "set", dict := none, data := .set #[] 0 (.fresh 0 0 (!X.w.params.followText "set-order")) } := by rw [← hcz]
  generalize hHc : upd Hb p (SetO X.w p (fun _ => false) 0) = Hc at start
  have invC : Inv X ps σ Hc zc := by
    subst hHc
    subst hcz
    refine invB.laid (t' := zb.toks) (fun _ _ e => Heap.get?_push_of_some _ e) (Nat.le_of_eq hp) ?_
    subst hp
    exact setO_new (setR_fresh X.w)
  have inB : ∀ b ∈ fp, b < zb.heap.objs.size := fun b hb => let ⟨_, e, _⟩ := T.obj _ _ t0 b hb; Heap.lt_size e
  have fC : ∀ b ∈ fp, FpOk X ps Hc b ∧ b < zc.heap.objs.size := fun b hb => by
    have lt := inB b hb
    have ne : b ≠ p := by rw [← hp]; exact Nat.ne_of_lt lt
    have e : Hc b = none := by rw [← hHc, upd_ne ne]; exact (fB b hb).1
    exact ⟨⟨e, (fB b hb).2⟩, by rw [eqz, Heap.size_push]; exact Nat.lt_succ_of_lt lt⟩
  have t1 : tn 0 zc.heap := T.keep _ _ _ t0 fun _ _ _ e => by rw [eqz]; exact Heap.get?_push_of_some _ e
  have invD := block_start invC ok hN fC
  have rg := Pg zc Hc zc.heap.objs.size (cellsFrom (zc.heap.objs.size + 1) scope.names (cloFrom X.env.cells scope.names [])) fp
  have rt := Pt zc Hc zc.heap.objs.size (cellsFrom (zc.heap.objs.size + 1) scope.names (cloFrom X.env.cells scope.names [])) fp
  have re := Pe zc Hc zc.heap.objs.size (cellsFrom (zc.heap.objs.size + 1) scope.names (cloFrom X.env.cells scope.names [])) fp
  show codeAny _ _ (.compStart (.SetComp elt [⟨tg, iter, ifs, 0⟩] scope pos) 0 (.ref it) (.ref p) (compEnvC scope (cellsFrom (zc.heap.objs.size + 1) scope.names (cloFrom X.env.cells scope.names [])) zc.heap.objs.size X.env))
    (compPost (model X.prog X.w) X.A X.xe none Qf (.ref p) zc.heap.objs.size) { zc with heap := pushCells (zc.heap.push { cls := .type "dict", data := .dict #[] }) scope.names }
  have none0 : ∀ b ∈ fp, Hc b = none := fun b hb => (fC b hb).1.1
  generalize hen : compEnvC scope (cellsFrom (zc.heap.objs.size + 1) scope.names (cloFrom X.env.cells scope.names [])) zc.heap.objs.size X.env = en at invD rg rt re ⊢
  have enl : en.locals = zc.heap.objs.size := by subst hen; rfl
  generalize hzd : ({ zc with heap := pushCells (zc.heap.push { cls := .type "dict", data := .dict #[] }) scope.names } : Shared) = zd at invD ⊢
  have t2 : tn 0 zd.heap := T.keep _ _ _ t1 fun _ _ _ e => by rw [← hzd]; exact pushCells_keeps _ _ _ _ (Heap.get?_push_of_some _ e)
  have still : ∀ {τ : L2.St} {Hx : Hp} {zx : Shared}, Inv (X.blk zc Hc scope en fp) [] τ Hx zx → (∀ b ∈ fp, Hx b = none) → ∀ b ∈ fp, FpOk (X.blk zc Hc scope en fp) [] Hx b := fun i n b hb =>
    ⟨n b hb, (i.ok.exf b hb).1, i.ok.exfs b hb, .inl hb, fun x c e => (i.ok.exf b hb).2 x c e, fun q hq => by
      have hq : q ∈ ([] : List (Addr × Obj)) ++ [] := hq
      simp at hq⟩
  have laps : codeAny (model X.prog X.w) X.A (.compLoop (.SetComp elt [⟨tg, iter, ifs, 0⟩] scope pos) 0 (.ref it) (.ref p) en) (compPost (model X.prog X.w) X.A X.xe none Qf (.ref p) zc.heap.objs.size) zd := by
    refine PpSet.compLoopS_any (fun k zx => ∃ i Hx, Inv (X.blk zc Hc scope en fp) [] (wipe σ (own.map (·.2))) Hx zx ∧ tn i zx.heap ∧ (∀ b ∈ fp, Hx b = none) ∧ Z i k Hx) (fun k zx hx => ?_) k0 ⟨0, Hc, invD, t2, none0, start⟩
    obtain ⟨i, Hx, ix, tx, nx, zk⟩ := hx
    rcases turn i k Hx zk with ⟨st, done⟩ | ⟨go, Nx, toN, step⟩
    · refine thnF (T.done (X.blk zc Hc scope en fp) rfl rfl rfl hc i [] zx _ Hx (fun _ _ => False) ix (still ix nx) tx st) fun r zy hy => ?_
      obtain ⟨rfl, iy⟩ := hy
      have iz : Inv X ps σ Hx zy := invC.call' (ch := fp) iy.os iy.base iy.hok iy.bare fun b hb => ⟨(fC b hb).1.2.2.2.1, (fC b hb).1.2.1, (fC b hb).1.2.2.2.2.1, (fC b hb).1.2.2.2.2.2⟩
      have nC : Hx zc.heap.objs.size = none := by
        have q : Hx en.locals = none := iy.free
        rwa [enl] at q
      obtain ⟨m, hm, _⟩ := iy.loc
      have hm : zy.heap.Ns en.locals m := hm
      rw [enl] at hm
      exact back p _ zy m Hx iz done hm (invC.fpOk (Nat.le_refl _) nC)
    · refine thnF (T.item (X.blk zc Hc scope en fp) rfl rfl rfl hc i [] zx _ Hx (fun _ _ => False) ix (still ix nx) tx go) fun r zy hy => ?_
      obtain ⟨u, rfl, hy⟩ := hy
      refine thnF hy fun _ zz hz => ?_
      obtain ⟨x, Hz, iz, rz, yz, tz, nz⟩ := hz
      refine thnF (rg.run _ zz _ Hz x u _ (iz.pinned (still iz nz) (T.obj _ _ tz)) rz (step x Hz yz)) fun _ z1 h1 => ?_
      obtain ⟨τ, H1, i1, w1, q1⟩ := h1
      refine thnF (rt.run _ z1 τ H1 _ i1 q1) fun b z2 h2 => ?_
      obtain ⟨H2, i2, q2⟩ := h2
      have fin : ∀ {zf : Shared} {Hf : Hp}, Inv (X.blk zc Hc scope en fp) ([] ++ pinsAt fp zz.heap) τ Hf zf → Nx Hf → ∃ j, j < k ∧ ∃ i Hx, Inv (X.blk zc Hc scope en fp) [] (wipe σ (own.map (·.2))) Hx zf ∧ tn i zf.heap ∧ (∀ b ∈ fp, Hx b = none) ∧ Z i j Hx := fun {zf Hf} i' n' => by
        obtain ⟨j, hj, zj⟩ := toN Hf n'
        have kept : ∀ b ∈ fp, ∀ o, zz.heap.get? b = some o → zf.heap.get? b = some o ∧ Hf b = none := fun b hb o e => by
          have q := i'.pin (b, o) (List.mem_append_right _ (List.mem_append_right _ (mem_pinsAt hb e)))
          exact ⟨q.1, q.2.1⟩
        have len : (wipe σ (own.map (·.2))).length = τ.length := by rw [← w1, wipe_length]
        refine ⟨j, hj, i + 1, Hf, (i'.unpinned (pins := [])).weak len (fun a v e => by rw [← w1] at e; exact (wipe_some e).1), T.keep _ _ _ tz fun b hb o e => (kept b hb o e).1, fun b hb => ?_, zj⟩
        obtain ⟨o, e, _⟩ := T.obj _ _ tz b hb
        exact (kept b hb o e).2
      cases b with
      | false =>
        rw [if_neg Bool.false_ne_true] at q2 ⊢
        exact fin i2 q2
      | true =>
        rw [if_pos rfl] at q2 ⊢
        refine thnF (re.run _ z2 τ H2 _ i2 q2) fun v z3 h3 => ?_
        obtain ⟨yv, H3, i3, r3, n, S, c, rfl, hD, room, nx3⟩ := h3
        have hv : ∃ t, v = Value.int n t := r3
        obtain ⟨t, rfl⟩ := hv
        exact setR_add (setO_get (X := X.blk zc Hc scope en fp) i3 hD) room fun h' sb new => by
          have ex : ∃ o, h'.get? p = some o := let ⟨o, _, _, _, ho, _⟩ := new; ⟨o, ho⟩
          exact fin (i3.write (e := p) (t' := z3.toks + 1) (by rw [hD]; trivial) (.inl rfl) (fun b o hb ho => (sb.2 b hb).trans ho) ex (setO_new new)) nx3
  exact PpSet.codeAny_compStart_set laps (T.self X.A 0 _ _ _ t2 laps)
theorem pe_setI {elt tg iter : Expr} {ifs : List Expr} {scope : Scope} {own : List (PySem.Str × Nat)} {pos : Pos} {wi : TI} {g : TG} {tt : TT} {te : TE} (hc : X.calm = true) (hN : X.N.Nodup) (hi : PI X tg iter wi) (ok : BlkOk X.N X.env.scope scope own)
    (Pg : ∀ (y : Shared) (Hy : Hp) (c : Addr) (l : List (PySem.Str × Addr)) (q : List Addr), PG (X.blk y Hy scope (compEnvC scope l c X.env) q) tg g)
    (Pt : ∀ (y : Shared) (Hy : Hp) (c : Addr) (l : List (PySem.Str × Addr)) (q : List Addr), PTs (X.blk y Hy scope (compEnvC scope l c X.env) q) ifs tt)
    (Pe : ∀ (y : Shared) (Hy : Hp) (c : Addr) (l : List (PySem.Str × Addr)) (q : List Addr), PE (X.blk y Hy scope (compEnvC scope l c X.env) q) elt te)
    (hs : ∀ x, foldedSetIterable iter X.env x = pure x) : PE X (.SetComp elt [⟨tg, iter, ifs, 0⟩] scope pos) (tSetI X.w wi g tt te (own.map (·.2))) := by
  refine ⟨fun ps z σ H Q inv h => ?_⟩
  rw [PpSet.eval_SetComp]
  refine setI_run hc hN inv hi ok Pg Pt Pe hs h fun p c y m Hy iy q hm fp => ?_
  obtain ⟨a0, a1, a2, a3, a4, a5⟩ := fp
  exact ⟨m, hm, fun _ sb => ⟨.ref p, Hy, iy.turned (t' := y.toks) (fun b o hb e => (sb.2 b hb).trans e) a0 a1 a3 a4 a5, rfl, q⟩⟩
end
end Dl

set_option Elab.async false
set_option linter.all false
set_option maxRecDepth 100000
set_option maxHeartbeats 4000000
/-! Data layer, part 7: sorted({..}), sorted, sum, repr of one value, a chain of comparisons, {..}.get(..), comprehensions over range. -/
namespace Dl
open PySem PySem.Spec PyProof.Rows L2
/-- two strictly ascending lists with the same members -/
theorem asc_eq : ∀ {xs ys : List Int}, xs.Pairwise (· < ·) → ys.Pairwise (· < ·) → (∀ k, k ∈ xs ↔ k ∈ ys) → xs = ys
  | [], [], _, _, _ => rfl
  | [], y :: ys, _, _, h => by have := (h y).mpr (List.mem_cons_self ..); simp at this
  | x :: xs, [], _, _, h => by have := (h x).mp (List.mem_cons_self ..); simp at this
  | x :: xs, y :: ys, hx, hy, h => by
    obtain ⟨hx1, hx2⟩ := List.pairwise_cons.mp hx
    obtain ⟨hy1, hy2⟩ := List.pairwise_cons.mp hy
    have e : x = y := by
      have a := (h x).mp (List.mem_cons_self ..)
      have b := (h y).mpr (List.mem_cons_self ..)
      rcases List.mem_cons.mp a with a | a
      · exact a
      · rcases List.mem_cons.mp b with b | b
        · exact b.symm
        · have := hx1 y b; have := hy1 x a; omega
    subst e
    rw [asc_eq hx2 hy2 fun k => ?_]
    constructor
    · intro q
      rcases List.mem_cons.mp ((h k).mp (List.mem_cons_of_mem _ q)) with z | z
      · have := hx1 k q; omega
      · exact z
    · intro q
      rcases List.mem_cons.mp ((h k).mpr (List.mem_cons_of_mem _ q)) with z | z
      · have := hy1 k q; omega
      · exact z
theorem asc_of_le : ∀ {xs : List Int}, xs.Pairwise (· ≤ ·) → xs.Nodup → xs.Pairwise (· < ·)
  | [], _, _ => .nil
  | x :: xs, h, n => by
    obtain ⟨h1, h2⟩ := List.pairwise_cons.mp h
    obtain ⟨n1, n2⟩ := List.nodup_cons.mp n
    refine List.pairwise_cons.mpr ⟨fun y hy => ?_, asc_of_le h2 n2⟩
    have := h1 y hy
    have : x ≠ y := fun z => n1 (z ▸ hy)
    omega
theorem ints_dq {K : PySem.W.Frag} {H : Hp} : ∀ ns : List Int, DqAll K H (ns.map V.int) (ns.map PyData.int)
  | [] => .nil
  | n :: ns => .cons (.int n) (ints_dq ns)
theorem ints_v {K : PySem.W.Frag} {H : Hp} : ∀ {ns : List Int} {xs : List V}, DqAll K H xs (ns.map PyData.int) → xs = ns.map V.int
  | [], _, h => by cases h; rfl
  | n :: ns, _, h => by
    cases h with
    | cons a b => rw [dp_int a, ints_v b]; rfl
section
variable {X : Cx} {M : List Addr} {σ : L2.St} {H H' : Hp} {e a b c o elt tg iter : Expr} {ifs : List Expr} {scope : Scope} {own : List (Str × Nat)} {es : List Expr} {d d1 d2 : PyData} {ds ds2 : List PyData} {x : Str} {v : V} {pos p1 p2 p3 : Pos}
theorem set_list {w : World} {K : PySem.W.Frag} {a : Addr} {xs : List V} {g : TG} {tt : TT} {te : TE} {vs : List Nat} {Ha : Hp} {p : Addr} {Qd : Hp → Prop} (Pv : Nat → Hp → Prop) (h0 : Pv 0 (upd Ha p (SetO w p (fun _ => false) 0)))
    (hl : ∀ i Hb, i ≤ xs.length → Pv i Hb → SqL K Hb a xs)
    (hs : ∀ i x Hc, xs[i]? = some x → Pv i Hc → g x (wipe σ vs) Hc fun τ Hd => wipe τ vs = wipe σ vs ∧ tt τ Hd fun b He =>
      if b = true then te τ He fun y Hf => ∃ (n : Int) (S : Int → Bool) (c : Nat), y = .int n ∧ Hf p = some (SetO w p S c) ∧ c + 1 < scanBound ∧ Pv (i + 1) (upd Hf p (SetO w p (fun j => S j || decide (j = n)) (if S n = true then c else c + 1))) else Pv (i + 1) He)
    (hd : ∀ Hb, Pv xs.length Hb → Qd Hb) :
    ∃ Z : Nat → Nat → Hp → Prop, (∃ k, Z 0 k (upd Ha p (SetO w p (fun _ => false) 0))) ∧ ∀ i k Hb, Z i k Hb → ((Itl K a).stop i Hb ∧ Qd Hb) ∨ ((Itl K a).go i Hb ∧ ∃ Nx : Hp → Prop, (∀ Hc, Nx Hc → ∃ j, j < k ∧ Z (i + 1) j Hc) ∧
      ∀ x Hc, (Itl K a).yld i Hb x Hc → g x (wipe σ vs) Hc fun τ Hd => wipe τ vs = wipe σ vs ∧ tt τ Hd fun b He =>
        if b = true then te τ He fun y Hf => ∃ (n : Int) (S : Int → Bool) (c : Nat), y = .int n ∧ Hf p = some (SetO w p S c) ∧ c + 1 < scanBound ∧ Nx (upd Hf p (SetO w p (fun j => S j || decide (j = n)) (if S n = true then c else c + 1))) else Nx He) := by
  refine ⟨fun i k Hb => k + i = xs.length ∧ Pv i Hb, ⟨xs.length, rfl, h0⟩, fun i k Hb hz => ?_⟩
  obtain ⟨hk, hp⟩ := hz
  have here := hl i Hb (by omega) hp
  cases e : xs[i]? with
  | none =>
    have hge : xs.length ≤ i := List.getElem?_eq_none_iff.mp e
    have ei : i = xs.length := by omega
    subst ei
    exact .inl ⟨⟨xs, here, hge⟩, hd Hb hp⟩
  | some x0 =>
    have hlt := (List.getElem?_eq_some_iff.mp e).1
    refine .inr ⟨⟨xs, x0, here, e⟩, Pv (i + 1), fun Hc hc => ⟨k - 1, by omega, by omega, hc⟩, fun x Hc hy => ?_⟩
    obtain ⟨rfl, hy⟩ := hy
    exact hs i x _ (hy xs here) hp
/-- sorted({elt for tg in iter if ..}) -/
theorem xl_sortedSet (f : PyData → Option Int) (ns : List Int) (hm : X.mg "sorted" = none) (L : Live M H) (hN : X.N.Nodup) (hit : XD X M σ H iter (.list ds)) (ok : BlkOk X.N X.env.scope scope own) (hz : ds.length ≤ 60)
    (hst : ∀ p d v H1, d ∈ ds → H p = none → Same H H1 → Live (p :: M) H1 → Dq X.K (hid (p :: M) H1) v d → BG X scope tg v (wipe σ (own.map (·.2))) H1 fun τ H2 => wipe τ (own.map (·.2)) = wipe σ (own.map (·.2)) ∧ BT X scope ifs τ H2 fun k H3 =>
      Same H1 H3 ∧ ((k = true ∧ ∃ n, f d = some n ∧ BE X scope elt τ H3 fun y H4 => Same H3 H4 ∧ y = .int n) ∨ (k = false ∧ f d = none)))
    (hasc : ns.Pairwise (· < ·)) (hmem : ∀ k, k ∈ ns ↔ ∃ d ∈ ds, f d = some k) (hc : X.calm = true := by rfl) (hs : ∀ x, foldedSetIterable iter X.env x = pure x := by intro _; rfl) (hg : Gl X "sorted" := by rfl)
    (he : starEach [.SetComp elt [⟨tg, iter, ifs, 0⟩] scope pos] X.env = (false, eval (.SetComp elt [⟨tg, iter, ifs, 0⟩] scope pos) X.env) :: starEach [] X.env := by rfl) (hpl : (backTo p2 (starEach [] X.env)).any (·.1) = false := by rfl) :
    XL X M σ H (.Call (.Name "sorted" p1) [.SetComp elt [⟨tg, iter, ifs, 0⟩] scope pos] [] p2) (ns.map PyData.int) := fun H1 s1 Q q => by
  refine re_B (cr_sortedSet hc) (ra_1 ⟨_, pe_setI (own := own) hc hN (pi_list re_) ok (fun _ _ _ _ _ => bg_) (fun _ _ _ _ _ => bt_) (fun _ _ _ _ _ => be_) hs, hit H1 s1 _ fun v H2 s2 hv => ?_⟩ he) hm (by decide +kernel) hg (by decide) (by decide) he hpl
  obtain ⟨a, xs, rfl, ha, hx⟩ := dp_lst hv
  have L2' : Live M H2 := L.mono (s1.trans s2)
  refine ⟨a, rfl, ⟨xs, SqL.of (hid_le _ _ ha)⟩, fun p hp => ?_⟩
  have hp0 : H p = none := (s1.trans s2).free hp
  refine set_list (xs := xs) (a := a) (fun i H' => Same H2 H' ∧ ∃ S c, H' p = some (SetO X.w p S c) ∧ c ≤ i ∧ ∀ k, S k = true ↔ ∃ d ∈ ds.take i, f d = some k)
    ⟨same_new hp, fun _ => false, 0, upd_same, Nat.le_refl _, fun k => by simp⟩ (fun i H' _ z => SqL.of (z.1 _ _ (hid_le _ _ ha))) (fun i x H' hi z => ?_) (fun H' z => ?_)
  · obtain ⟨sH, S, n, hS, hn, hk⟩ := z
    obtain ⟨d, hd1, hd2⟩ := dpa_get' hx hi
    have hdm : d ∈ ds := List.mem_of_getElem? hd1
    have hi60 : i < 60 := by have := (List.getElem?_eq_some_iff.mp hd1).1; omega
    have etake : ds.take (i + 1) = ds.take i ++ [d] := by rw [List.take_add_one, hd1]; rfl
    have Lp : Live (p :: M) H' := fun b hb => by
      rcases List.mem_cons.mp hb with z | hb
      · subst z; rw [hS]; simp
      · exact L2'.mono sH b hb
    refine bg_mono (hst p d x H' hdm hp0 ((s1.trans s2).trans sH) Lp (hd2.up (hid_step hp sH))) fun τ Ha ⟨hw, hbt⟩ => ⟨hw, bt_mono hbt fun k Hb ⟨sb, hk'⟩ => ?_⟩
    rcases hk' with ⟨hk1, m, hf, hbe⟩ | ⟨hk1, hf⟩
    · subst hk1
      refine iteT (be_mono hbe fun y Hc ⟨sc, hy⟩ => ?_)
      have sd := sb.trans sc
      refine ⟨m, S, n, hy, sd _ _ hS, Nat.lt_of_lt_of_le (by omega : n + 1 < 4096) (Nat.le_refl _), fun b o e => ?_, fun j => S j || decide (j = m), (if S m = true then n else n + 1), upd_same, by split <;> omega, fun j => ?_⟩
      · rw [upd_ne (ne_of_none e hp)]
        exact sd _ _ (sH _ _ e)
      · rw [Bool.or_eq_true, decide_eq_true_eq, hk j, etake]
        constructor
        · rintro (⟨d', h1, h2⟩ | h)
          · exact ⟨d', List.mem_append_left _ h1, h2⟩
          · exact ⟨d, List.mem_append_right _ (List.mem_singleton.mpr rfl), by rw [hf, h]⟩
        · rintro ⟨d', h1, h2⟩
          rcases List.mem_append.mp h1 with h1 | h1
          · exact .inl ⟨d', h1, h2⟩
          · rw [List.mem_singleton.mp h1, hf] at h2
            exact .inr (Option.some.inj h2).symm
    · subst hk1
      refine iteF ⟨sH.trans sb, S, n, sb _ _ hS, by omega, fun j => ?_⟩
      rw [hk j, etake]
      constructor
      · rintro ⟨d', h1, h2⟩
        exact ⟨d', List.mem_append_left _ h1, h2⟩
      · rintro ⟨d', h1, h2⟩
        rcases List.mem_append.mp h1 with h1 | h1
        · exact ⟨d', h1, h2⟩
        · rw [List.mem_singleton.mp h1, hf] at h2
          cases h2
  · obtain ⟨sH, S, n, hS, hn, hk⟩ := z
    have hlen := dpa_len hx
    rw [hlen, List.take_length] at hk
    refine ⟨p, S, n, rfl, hS, by omega, fun ks l h1 h2 _ hl => ?_⟩
    have e : ks = ns := asc_eq h1 hasc fun k => (h2 k).trans ((hk k).trans (hmem k).symm)
    subst e
    refine q l _ _ ((s2.trans sH).trans (same_new hl)) ((s2.trans sH).free hl) upd_same ?_
    rw [hid_new (L2'.mono sH) hl]
    exact ints_dq ks
/-- sorted(l), l a list of different whole numbers -/
theorem xl_sortedI {ms : List Int} (ns : List Int) (hm : X.mg "sorted" = none) (L : Live M H) (ha : XD X M σ H e (.list (ms.map PyData.int))) (hz : ms.length < 64) (hnd : ms.Nodup) (hasc : ns.Pairwise (· < ·)) (hmem : ∀ k, k ∈ ns ↔ k ∈ ms) (hg : Gl X "sorted" := by rfl)
    (he : starEach [e] X.env = (false, eval e X.env) :: starEach [] X.env := by rfl) (hpl : (backTo p2 (starEach [] X.env)).any (·.1) = false := by rfl) : XL X M σ H (.Call (.Name "sorted" p1) [e] [] p2) (ns.map PyData.int) := fun H1 s1 Q q =>
  re_B cr_sorted (ra_1 (ha H1 s1 _ fun v H2 s2 hv => by
    obtain ⟨a, xs, rfl, ha, hx⟩ := dp_lst hv
    have ex := ints_v hx
    subst ex
    refine ⟨a, ms, rfl, SqL.of (hid_le _ _ ha), hz, fun ks l h1 h2 hl => ?_⟩
    have e : ks = ns := asc_eq (asc_of_le h2 (h1.nodup_iff.mpr hnd)) hasc fun k => h1.mem_iff.trans (hmem k).symm
    subst e
    refine q l _ _ (s2.trans (same_new hl)) (s2.free hl) upd_same ?_
    rw [hid_new (L.mono (s1.trans s2)) hl]
    exact ints_dq ks) he) hm (by decide +kernel) hg (by decide) (by decide) he hpl
/-- sum(l) -/
theorem xd_sum {ns : List Int} (hm : X.mg "sum" = none) (ha : XD X M σ H e (.list (ns.map PyData.int))) (hc : X.calm = true := by rfl) (hg : Gl X "sum" := by rfl)
    (he : starEach [e] X.env = (false, eval e X.env) :: starEach [] X.env := by rfl) (hpl : (backTo p2 (starEach [] X.env)).any (·.1) = false := by rfl) : XD X M σ H (.Call (.Name "sum" p1) [e] [] p2) (.int ns.sum) := fun H1 s1 Q q =>
  re_B (cr_sum hc) (ra_1 (ha H1 s1 _ fun v H2 s2 hv => by
    obtain ⟨a, xs, rfl, ha, hx⟩ := dp_lst hv
    have ex := ints_v hx
    subst ex
    exact ⟨a, ns, rfl, SqL.of (hid_le _ _ ha), q _ H2 s2 (.int _)⟩) he) hm (by decide +kernel) hg (by decide) (by decide) he hpl
/-! ### repr of one value -/
/-- a whole number of few digits, or None -/
def Plain (d : PyData) : Prop := d = .none ∨ ∃ i : Int, d = .int i ∧ i.natAbs.log2 < 1920
def txt : PyData → Str
  | .int i => Str.ofString (toString i)
  | _ => "None"
theorem call_reprN : CallR X (.builtin "repr") (fun xs H Q => xs = [.non] ∧ Q (.str "None") H) := by
  intro pins s σ H xs us Q I r h
  obtain ⟨rfl, q⟩ := h
  obtain ⟨u, rfl, rx⟩ := vals1 r
  cases rx
  exact PySem.P.repr_of_none ⟨.str _, H, I.tok _, ⟨_, rfl⟩, q⟩
theorem xd_reprP (hm : X.mg "repr" = none) (h : Plain d) (ha : XD X M σ H e d) (hg : Gl X "repr" := by rfl)
    (he : starEach [e] X.env = (false, eval e X.env) :: starEach [] X.env := by rfl) (hpl : (backTo p2 (starEach [] X.env)).any (·.1) = false := by rfl) : XD X M σ H (.Call (.Name "repr" p1) [e] [] p2) (.str (txt d)) := fun H1 s1 Q q => by
  rcases h with rfl | ⟨i, rfl, hi⟩
  · exact re_B call_reprN (ra_1 (ha H1 s1 _ fun v H2 s2 hv => ⟨by rw [dp_non hv], q _ H2 s2 (.str _)⟩) he) hm (by decide +kernel) hg (by decide) (by decide) he hpl
  · exact re_B SkE.call_repr_int (ra_1 (ha H1 s1 _ fun v H2 s2 hv => ⟨i, by rw [dp_int hv], hi, q _ H2 s2 (.str _)⟩) he) hm (by decide +kernel) hg (by decide) (by decide) he hpl
theorem xt_reprNeP {pa pb : Pos} (hm : X.mg "repr" = none) (h : Plain d) (ha : XD X M σ H a d) (hb : XD X M σ H b d) (hg : Gl X "repr" := by rfl)
    (he : starEach [a] X.env = (false, eval a X.env) :: starEach [] X.env := by rfl) (hpl : (backTo pa (starEach [] X.env)).any (·.1) = false := by rfl) (he2 : starEach [b] X.env = (false, eval b X.env) :: starEach [] X.env := by rfl) (hpl2 : (backTo pb (starEach [] X.env)).any (·.1) = false := by rfl) :
    XT X σ H (.Compare (.Call (.Name "repr" p1) [a] [] pa) [.NotEq] [.Call (.Name "repr" p2) [b] [] pb] pos) false :=
  xt_cmp op_ne (xd_reprP hm h ha hg he hpl) (xd_reprP hm h hb hg he2 hpl2) fun H1 v w s hv hw Q q => by
    rw [dp_str hv, dp_str hw]
    exact ⟨rfl, by rw [decide_eq_true rfl]; exact q H1 (Same.refl _)⟩
/-! ### l <= x < h -/
theorem xt_chainI {op op' : CmpOp} {g g' : Int → Int → Bool} {l m n : Int} (ho : OpR X (compareOp op) (rI0 fun i j => .bl (g i j))) (ho' : OpR X (compareOp op') (rI0 fun i j => .bl (g' i j))) (ha : XD X M σ H a (.int l)) (hb : XD X M σ H b (.int m)) (hc : XD X M σ H c (.int n))
    (hm : lastMarks [op, op'] [b, c] = false := by with_unfolding_all rfl) : XT X σ H (.Compare a [op, op'] [b, c] pos) (g l m && g' m n) := fun H1 s Q q =>
  ⟨_, pt_chain ho ho' re_ re_ re_ hm, ha H1 s _ fun v H2 s2 hv => hb H2 (s.trans s2) _ fun u H3 s3 hu => ⟨l, m, dp_int hv, dp_int hu, g l m, rfl, by
    cases e : g l m with
    | false =>
      rw [e] at q
      exact iteF ⟨false, rfl, q H3 (s2.trans s3)⟩
    | true =>
      rw [e] at q
      exact iteT (hc H3 ((s.trans s2).trans s3) _ fun y H4 s4 hy => ⟨m, n, dp_int hu, dp_int hy, g' m n, rfl, q H4 ((s2.trans s3).trans s4)⟩)⟩⟩
/-! ### {k1: a, k2: b}.get(c) -/
theorem xd_get2 {k1 k2 k : Str} {i1 i2 : Int} {j1 j2 : _} {q1 q2 : Pos} (hu : X.A.units + 1 < cLine) (ha : XD X M σ H a (.int i1)) (hb : XD X M σ H b (.int i2)) (hk : XD X M σ H c (.str k)) (hne : k1 ≠ k2)
    (mm : M1 X (.Dict [some (.Constant (.str k1) j1 q1), some (.Constant (.str k2) j2 q2)] [a, b] pos) "get" p1 c p2) :
    XD X M σ H (.Call (.Attribute (.Dict [some (.Constant (.str k1) j1 q1), some (.Constant (.str k2) j2 q2)] [a, b] pos) "get" p1) [c] [] p2) (if k = k1 then .int i1 else if k = k2 then .int i2 else .none) := fun H1 s1 Q q =>
  ⟨_, pe_dget1 hu (pe_disp (pps_cons pe_str re_ (pps_cons pe_str re_ pps_nil)) rfl rfl (by simp) (by simp)) re_ mm, fun p hp => ha _ (s1.trans (same_new hp)) _ fun v H2 s2 hv => hb H2 ((s1.trans (same_new hp)).trans s2) _ fun u H3 s3 hu => by
    have s13 : Same H1 H3 := ((same_new hp).trans s2).trans s3
    have h3p : H3 p = some (.dK []) := s3 _ _ (s2 _ _ upd_same)
    refine ⟨h3p, [(.inr k1, .int i1), (.inr k2, .int i2)], by rw [dp_int hv, dp_int hu]; rfl, by simp, p, rfl, .inl ⟨_, .inl upd_same⟩, ?_⟩
    have sx : Same H1 (upd H3 p (.dK (mergeK [] [(.inr k1, .int i1), (.inr k2, .int i2)]))) := fun b o e => by
      rw [upd_ne (ne_of_none e hp)]
      exact s13 b o e
    refine hk _ (s1.trans sx) _ fun y H4 s4 hy => ?_
    rw [dp_str hy]
    have e : mergeK [] [((Sum.inr k1 : L2.Key), V.int i1), (.inr k2, .int i2)] = [(.inr k1, .int i1), (.inr k2, .int i2)] := by
      have n : (Sum.inr k1 : L2.Key) ≠ .inr k2 := fun z => hne (Sum.inr.inj z)
      show putK (putK [] (Sum.inr k1 : L2.Key) (V.int i1)) (.inr k2) (.int i2) = _
      have e1 : putK [] (Sum.inr k1 : L2.Key) (V.int i1) = [(.inr k1, .int i1)] := rfl
      rw [e1]
      unfold putK
      rw [if_neg (by simp [hne])]
      rfl
    rw [e] at s4
    refine ⟨_, DGet.k (k := .inr k) (s4 _ _ upd_same), q _ H4 ?_ ?_⟩
    · rw [e] at sx; exact sx.trans s4
    · by_cases h1 : k = k1
      · subst h1
        rw [valV_pos rfl, if_pos rfl]
        exact .int _
      · rw [valV_neg (fun z => h1 (Sum.inr.inj z).symm), if_neg h1]
        by_cases h2 : k = k2
        · subst h2
          rw [valV_pos rfl, if_pos rfl]
          exact .int _
        · rw [valV_neg (fun z => h2 (Sum.inr.inj z).symm), if_neg h2, valV_nil]
          exact .non⟩
/-! ### [.. for x in range(a, b)], whole numbers -/
theorem xl_range2 {lo hi : Int} (g : Int → Int) (hm : X.mg "range" = none) (L : Live M H) (hN : X.N.Nodup) (ha : XD X M σ H a (.int lo)) (hb : XD X M σ H b (.int hi)) (ok : BlkOk X.N X.env.scope scope own) (hz : (-(1000 : Int) ≤ lo ∧ lo ≤ 1000) ∧ (-(1000 : Int) ≤ hi ∧ hi ≤ 1000))
    (hst : ∀ i H1, Same H H1 → BG X scope tg (.int i) (wipe σ (own.map (·.2))) H1 fun τ H2 => wipe τ (own.map (·.2)) = wipe σ (own.map (·.2)) ∧ Same H1 H2 ∧ BE X scope elt τ H2 fun y H3 => Same H2 H3 ∧ y = .int (g i))
    (hc : X.calm = true := by rfl) (hs : ∀ x, foldedSetIterable (.Call (.Name "range" p1) [a, b] [] p2) X.env x = pure x := by intro _; rfl) (hg : Gl X "range" := by rfl)
    (he : starEach [a, b] X.env = (false, eval a X.env) :: starEach [b] X.env := by rfl) (he2 : starEach [b] X.env = (false, eval b X.env) :: starEach [] X.env := by rfl)
    (he3 : starEach [b] X.env = [(false, eval b X.env)] := by rfl) : XL X M σ H (.ListComp elt [⟨tg, .Call (.Name "range" p1) [a, b] [] p2, [], 0⟩] scope pos) ((List.range (hi - lo).toNat).map fun i : Nat => PyData.int (g (lo + i))) := fun H1 s1 Q q =>
  ⟨_, pe_lc (own := own) hc hN (pi_range2 hg hm ra_ (by rw [he, he3]) he3) ok (fun _ _ _ _ _ => bg_) (fun _ _ _ _ _ => bt_) (fun _ _ _ _ _ => be_) hs, ra_cons (ha H1 s1 _ fun v H2 s2 hv => ra_1 (hb H2 (s1.trans s2) _ fun u H3 s3 hu => by
    have b1 : (1000 : Int) < 2 ^ 62 := by decide
    refine ⟨lo, hi, by rw [dp_int hv, dp_int hu], ⟨by omega, by omega, by omega, by omega⟩, fun p hp => ?_⟩
    have s13 := s2.trans s3
    have L3 := L.mono (s1.trans s13)
    refine lc_range (fun i H' => Same H3 H' ∧ ∃ acc, H' p = some (.lst acc) ∧ acc = ((List.range i).map fun i : Nat => V.int (g (lo + i)))) ⟨same_new hp, [], upd_same, rfl⟩ (fun i H' hi' z => ?_) (fun H' z => ?_)
    · obtain ⟨sH, acc, hacc, ea⟩ := z
      refine bg_mono (hst (lo + i) H' ((s1.trans s13).trans sH)) fun τ Ha ⟨hw, sa, hbe⟩ => ⟨hw, bt_nil (iteT (be_mono hbe fun y Hb ⟨sb, ey⟩ => ?_))⟩
      have sd := sa.trans sb
      refine ⟨acc, sd _ _ hacc, ?_, fun b o e => ?_, _, upd_same, ?_⟩
      · have h4 : 100000 < sizeLine := by decide
        rw [ea, List.length_map, List.length_range]
        omega
      · rw [upd_ne (ne_of_none e hp)]
        exact sd _ _ (sH _ _ e)
      · rw [ea, ey, List.range_succ, List.map_append]
        rfl
    · obtain ⟨sH, acc, hacc, ea⟩ := z
      refine q p acc H' (s13.trans sH) (s13.free hp) hacc ?_
      rw [ea]
      have e := ints_dq (K := X.K) (H := hid M H') ((List.range (hi - lo).toNat).map fun i : Nat => g (lo + i))
      rw [List.map_map, List.map_map] at e
      exact e) he2) he⟩
end
end Dl

set_option Elab.async false
set_option linter.all false
set_option maxRecDepth 100000
set_option maxHeartbeats 4000000
/-! Data layer, part 8: x = [..] on one line. -/
namespace Dl
open PySem PySem.Spec PyProof.Rows L2
section
variable {X : Cx} {M : List Addr} {σ : L2.St} {H H' : Hp} {e a b c o elt tg iter : Expr} {ifs : List Expr} {scope : Scope} {own : List (Str × Nat)} {es : List Expr} {d : PyData} {ds : List PyData} {x : Str} {v : V} {pos p0 p1 p2 p3 p4 : Pos} {D : Ends} {rest : List Stmt}
/-- a comprehension; Pv: what more is known of each item -/
theorem lc_P (f : PyData → Option PyData) (Pv : Addr → V → Hp → Prop) (mono : ∀ p v H1 H2, (∀ b o, b ≠ p → H1 b = some o → H2 b = some o) → Pv p v H1 → Pv p v H2) (L : Live M H) (hN : X.N.Nodup) (hit : XD X M σ H iter (.list ds)) (ok : BlkOk X.N X.env.scope scope own) (hz : ds.length ≤ 100000)
    (hst : ∀ p d v H1, d ∈ ds → H p = none → Same H H1 → Live (p :: M) H1 → Dq X.K (hid (p :: M) H1) v d → BG X scope tg v (wipe σ (own.map (·.2))) H1 fun σ2 H2 => wipe σ2 (own.map (·.2)) = wipe σ (own.map (·.2)) ∧ BT X scope ifs σ2 H2 fun k H3 =>
      Same H1 H3 ∧ ((k = true ∧ ∃ d', f d = some d' ∧ BE X scope elt σ2 H3 fun y H4 => Same H3 H4 ∧ Dq X.K (hid (p :: M) H4) y d' ∧ Pv p y H4) ∨ (k = false ∧ f d = none)))
    {Q : VK} (q : ∀ p xs H2, Same H H2 → H p = none → H2 p = some (.lst xs) → DqAll X.K (hid (p :: M) H2) xs (ds.filterMap f) → (∀ v ∈ xs, Pv p v H2) → Q (.ref p) H2)
    : ∃ wi, PI X tg iter wi ∧ tLc wi (BG X scope tg) (BT X scope ifs) (BE X scope elt) (own.map (·.2)) σ H Q :=
  ⟨_, pi_list re_, hit H (Same.refl H) _ fun v H2 s2 hv => by
    obtain ⟨a, xs, rfl, ha, hx⟩ := dp_lst hv
    have L2' : Live M H2 := L.mono s2
    refine ⟨a, rfl, ⟨xs, SqL.of (hid_le _ _ ha)⟩, fun p hp => ?_⟩
    have hpM : p ∉ M := L2'.fresh hp
    have hp0 : H p = none := s2.free hp
    refine lc_list (xs := xs) (a := a) (fun i H' => Same H2 H' ∧ ∃ acc, H' p = some (.lst acc) ∧ DqAll X.K (hid (p :: M) H') acc ((ds.take i).filterMap f) ∧ ∀ v ∈ acc, Pv p v H') ⟨same_new hp, [], upd_same, by simpa using DqAll.nil, fun v hv => by simp at hv⟩ (fun i H' _ w => SqL.of (w.1 _ _ (hid_le _ _ ha))) (fun i x H' hi w => ?_) (fun H' w => ?_)
    · obtain ⟨sH, acc, hacc, hda, hpv⟩ := w
      obtain ⟨d, hd1, hd2⟩ := dpa_get' hx hi
      have hdm : d ∈ ds := List.mem_of_getElem? hd1
      have etake : ds.take (i + 1) = ds.take i ++ [d] := by
        rw [List.take_add_one, hd1]; rfl
      have hlen : acc.length < sizeLine := by
        rw [dpa_len hda]
        have h1 : ((ds.take i).filterMap f).length ≤ (ds.take i).length := List.length_filterMap_le ..
        have h2 : (ds.take i).length ≤ i := by rw [List.length_take]; omega
        have h3 : i < ds.length := (List.getElem?_eq_some_iff.mp hd1).1
        have h4 : 100000 < sizeLine := by decide
        omega
      have Lp : Live (p :: M) H' := fun b hb => by
        rcases List.mem_cons.mp hb with z | hb
        · subst z; rw [hacc]; simp
        · exact L2'.mono sH b hb
      have kx : Dq X.K (hid (p :: M) H') x d := hd2.up (hid_step hp sH)
      refine bg_mono (hst p d x H' hdm hp0 (s2.trans sH) Lp kx) fun σ2 Ha ⟨hw, hbt⟩ => ⟨hw, bt_mono hbt fun k Hb ⟨sb, hk⟩ => ?_⟩
      have sH' : Same H' Hb := sb
      rcases hk with ⟨hk, d', hf, hbe⟩ | ⟨hk, hf⟩
      · subst hk
        refine iteT (be_mono hbe fun y Hc ⟨sc, hy, hpy⟩ => ?_)
        have sd := sH'.trans sc
        refine ⟨acc, sd _ _ hacc, hlen, fun b o e => ?_, acc ++ [y], upd_same, ?_, fun v hv => ?_⟩
        · have nb : b ≠ p := ne_of_none e hp
          rw [upd_ne nb]
          exact sd _ _ (sH _ _ e)
        · rw [hid_upd_ne, etake, List.filterMap_append]
          have e2 : [d].filterMap f = [d'] := by simp [hf]
          rw [e2]
          exact dpa_app (hda.up (hid_mono sd)) (.cons hy .nil)
        · rcases List.mem_append.mp hv with z | z
          · exact mono p v H' _ (fun b o nb e => by rw [upd_ne nb]; exact sd _ _ e) (hpv v z)
          · rw [List.mem_singleton.mp z]
            exact mono p y Hc _ (fun b o nb e => by rw [upd_ne nb]; exact e) hpy
      · subst hk
        refine iteF ⟨sH.trans sH', acc, sH' _ _ hacc, ?_, fun v hv => mono p v H' _ (fun b o _ e => sH' _ _ e) (hpv v hv)⟩
        rw [etake, List.filterMap_append]
        have e2 : [d].filterMap f = [] := by simp [hf]
        rw [e2, List.append_nil]
        exact hda.up (hid_mono sH')
    · obtain ⟨sH, acc, hacc, hda, hpv⟩ := w
      have e1 : ds.take xs.length = ds := by rw [dpa_len hx]; exact List.take_length
      rw [e1] at hda
      exact q p acc H' (s2.trans sH) hp0 hacc hda hpv⟩
theorem re_compP (f : PyData → Option PyData) (Pv : Addr → V → Hp → Prop) (mono : ∀ p v H1 H2, (∀ b o, b ≠ p → H1 b = some o → H2 b = some o) → Pv p v H1 → Pv p v H2) (L : Live M H) (hN : X.N.Nodup) (hit : XD X M σ H iter (.list ds)) (ok : BlkOk X.N X.env.scope scope own) (hz : ds.length ≤ 100000)
    (hst : ∀ p d v H1, d ∈ ds → H p = none → Same H H1 → Live (p :: M) H1 → Dq X.K (hid (p :: M) H1) v d → BG X scope tg v (wipe σ (own.map (·.2))) H1 fun σ2 H2 => wipe σ2 (own.map (·.2)) = wipe σ (own.map (·.2)) ∧ BT X scope ifs σ2 H2 fun k H3 =>
      Same H1 H3 ∧ ((k = true ∧ ∃ d', f d = some d' ∧ BE X scope elt σ2 H3 fun y H4 => Same H3 H4 ∧ Dq X.K (hid (p :: M) H4) y d' ∧ Pv p y H4) ∨ (k = false ∧ f d = none)))
    {Q : VK} (q : ∀ p xs H2, Same H H2 → H p = none → H2 p = some (.lst xs) → DqAll X.K (hid (p :: M) H2) xs (ds.filterMap f) → (∀ v ∈ xs, Pv p v H2) → Q (.ref p) H2)
    (hc : X.calm = true := by rfl) (hs : ∀ x, foldedSetIterable iter X.env x = pure x := by intro _; rfl) : RE X (.ListComp elt [⟨tg, iter, ifs, 0⟩] scope pos) σ H Q := by
  obtain ⟨wi, h1, h2⟩ := lc_P f Pv mono L hN hit ok hz hst q
  exact ⟨_, pe_lc (own := own) hc hN h1 ok (fun _ _ _ _ _ => bg_) (fun _ _ _ _ _ => bt_) (fun _ _ _ _ _ => be_) hs, h2⟩
/-- x = [..], on one line -/
theorem rb_setC (i : Nat) {py : Pos} {spos : Pos} (f : PyData → Option PyData) (Pv : Addr → V → Hp → Prop) (mono : ∀ p v H1 H2, (∀ b o, b ≠ p → H1 b = some o → H2 b = some o) → Pv p v H1 → Pv p v H2) (L : Live M H) (hN : X.N.Nodup) (hit : XD X M σ H iter (.list ds)) (ok : BlkOk X.N X.env.scope scope own) (hz : ds.length ≤ 100000)
    (hst : ∀ p d v H1, d ∈ ds → H p = none → Same H H1 → Live (p :: M) H1 → Dq X.K (hid (p :: M) H1) v d → BG X scope tg v (wipe σ (own.map (·.2))) H1 fun σ2 H2 => wipe σ2 (own.map (·.2)) = wipe σ (own.map (·.2)) ∧ BT X scope ifs σ2 H2 fun k H3 =>
      Same H1 H3 ∧ ((k = true ∧ ∃ d', f d = some d' ∧ BE X scope elt σ2 H3 fun y H4 => Same H3 H4 ∧ Dq X.K (hid (p :: M) H4) y d' ∧ Pv p y H4) ∨ (k = false ∧ f d = none)))
    (q : ∀ p xs H2, Same H H2 → H p = none → H2 p = some (.lst xs) → DqAll X.K (hid (p :: M) H2) xs (ds.filterMap f) → (∀ v ∈ xs, Pv p v H2) → RB X rest D (σ.set i (some (.ref p))) H2)
    (hi : X.N[i]? = some x := by rfl) (hx : X.env.scope.names.lookup x = some .local := by rfl) (hsw : swapsWith (.ListComp elt [⟨tg, iter, ifs, 0⟩] scope pos) (some (.Name x py)) spos.line X.env = pure true := by exact sw_true rfl rfl rfl rfl)
    (hc : X.calm = true := by rfl) (hs : ∀ x, foldedSetIterable iter X.env x = pure x := by intro _; rfl) : RB X (.Assign [.Name x py] (.ListComp elt [⟨tg, iter, ifs, 0⟩] scope pos) spos :: rest) D σ H := by
  obtain ⟨wi, h1, h2⟩ := lc_P (Q := fun v H1 => RB X rest D (σ.set i (some v)) H1) f Pv mono L hN hit ok hz hst q
  exact ⟨_, pss_cons (ps_setLc (own := own) hc hN hi hx hsw h1 ok (fun _ _ _ _ _ => bg_) (fun _ _ _ _ _ => bt_) (fun _ _ _ _ _ => be_) hs) rb_, h2⟩
/-- x = [..], on one line; nothing more of the items -/
theorem rb_setC0 (i : Nat) {py : Pos} {spos : Pos} (f : PyData → Option PyData) (L : Live M H) (hN : X.N.Nodup) (hit : XD X M σ H iter (.list ds)) (ok : BlkOk X.N X.env.scope scope own) (hz : ds.length ≤ 100000)
    (hst : ∀ p d v H1, d ∈ ds → H p = none → Same H H1 → Live (p :: M) H1 → Dq X.K (hid (p :: M) H1) v d → BG X scope tg v (wipe σ (own.map (·.2))) H1 fun σ2 H2 => wipe σ2 (own.map (·.2)) = wipe σ (own.map (·.2)) ∧ BT X scope ifs σ2 H2 fun k H3 =>
      Same H1 H3 ∧ ((k = true ∧ ∃ d', f d = some d' ∧ BE X scope elt σ2 H3 fun y H4 => Same H3 H4 ∧ Dq X.K (hid (p :: M) H4) y d') ∨ (k = false ∧ f d = none)))
    (q : ∀ p xs H2, Same H H2 → H p = none → H2 p = some (.lst xs) → DqAll X.K (hid M H2) xs (ds.filterMap f) → RB X rest D (σ.set i (some (.ref p))) H2)
    (hi : X.N[i]? = some x := by rfl) (hx : X.env.scope.names.lookup x = some .local := by rfl) (hsw : swapsWith (.ListComp elt [⟨tg, iter, ifs, 0⟩] scope pos) (some (.Name x py)) spos.line X.env = pure true := by exact sw_true rfl rfl rfl rfl)
    (hc : X.calm = true := by rfl) (hs : ∀ x, foldedSetIterable iter X.env x = pure x := by intro _; rfl) : RB X (.Assign [.Name x py] (.ListComp elt [⟨tg, iter, ifs, 0⟩] scope pos) spos :: rest) D σ H :=
  rb_setC i f (fun _ _ _ => True) (fun _ _ _ _ _ _ => trivial) L hN hit ok hz (fun p d v H1 hd hp s Lp hv => bg_mono (hst p d v H1 hd hp s Lp hv) fun σ2 H2 ⟨hw, hbt⟩ => ⟨hw, bt_mono hbt fun k H3 ⟨sk, hk⟩ => ⟨sk, hk.elim (fun ⟨a, d', b, c⟩ => .inl ⟨a, d', b, be_mono c fun y H4 ⟨s4, h4⟩ => ⟨s4, h4, trivial⟩⟩) .inr⟩⟩)
    (fun p xs H2 s hp h2 hx _ => q p xs H2 s hp h2 (hx.up fun b o e => by
      have n1 : b ∉ p :: M := fun z => by unfold hid at e; rw [if_pos z] at e; cases e
      rw [hid_of (fun z => n1 (List.mem_cons_of_mem _ z))]
      exact hid_le _ _ e)) hi hx hsw hc hs
end
end Dl

set_option Elab.async false
set_option linter.all false
set_option maxRecDepth 100000
set_option maxHeartbeats 4000000
/-! several clauses `except X as e`, all with one name -/
namespace Dl
open PySem PySem.Spec PyProof.Rows L2
/-- what the clauses wish, one after the other -/
def wManyAs (K : PySem.W.Frag) (i : Nat) (Wout : WX) (D : Ends) : List (Value × (Addr → Value → Option Addr → TS)) → WX
  | [] => Wout
  | (c, ts) :: r => wAs K c i ts (wManyAs K i Wout D r) D
inductive HdsAs (X : Cx) (n : Str) : List ExceptHandler → List (Value × (Addr → Value → Option Addr → TS)) → Prop
  | nil : HdsAs X n [] []
  | cons {y : Str} {c : Value} {ts : Addr → Value → Option Addr → TS} {st0 : Stmt} {sts : List Stmt} {np hp : Pos} {hs : List ExceptHandler} {l : List (Value × (Addr → Value → Option Addr → TS))} (nm : Names X y c)
      (run : ∀ (a : Addr) (ob : Obj) (cls : Value) (d : Option Addr) (pn : List (Addr × Obj)), Zc cls d ob → (∃ fs, ob.data = .fields fs) → PSs (X.suite a ((a, ob) :: pn)) (st0 :: sts) (ts a cls d)) (more : HdsAs X n hs l) :
      HdsAs X n (.ExceptHandler (some (.Name y np)) (some n) (st0 :: sts) hp :: hs) ((c, ts) :: l)
section
variable {X : Cx} {n : Str} {i : Nat} {body : List Stmt} {h0 : ExceptHandler} {hds : List ExceptHandler} {l : List (Value × (Addr → Value → Option Addr → TS))} {pos : Pos} {tb : WX → TS} {Wout : WX}
theorem ps_try_manyAs (stk : X.stack = X.env :: X.outer) (frm : X.env.frame = some X.env.locals) (nd : X.N.Nodup) (at_ : X.N[i]? = some n) (loc : X.env.kindOf n = some .local) (out : Takes X Wout)
    (bd : ∀ (W : WX) (pn : List (Addr × Obj)) (xe : Value → Shared → Prop), Takes (X.tr pn xe) W → PassesOwn (model X.prog X.w) X.A X.env xe → PSs (X.tr pn xe) body (tb W)) (hh : HdsAs X n (h0 :: hds) l) :
    PS X (.Try body (h0 :: hds) [] [] pos) fun D σ H => tb (wManyAs X.K i Wout D l) D σ H := by
  refine ⟨fun pins s σ H D I wish => ?_⟩
  have okX := I.ok
  have frs0 : X.A.frames = some (X.env :: X.outer) := okX.frames.trans (by rw [stk])
  have locN : Loc X.env.scope n := Or.inl loc
  refine wpAny_Try_except ?_
  refine wpAny_mono ((bd (wManyAs X.K i Wout D l) (X.pn ++ pins) (fun exc t1 => wpAny (model X.prog X.w) X.A (noteFrame exc X.env) (fun _ t2 => wpAny (model X.prog X.w) X.A (setFlight exc none) (fun _ t3 =>
      wpAny (model X.prog X.w) X.A (handleBy exc X.env (h0 :: hds)) (SP X pins D) X.xe t3) X.xe t2) X.xe t1) (fun u s2 flying => ?_) PassesOwn.looking).run [] s σ H D (I.toTry _) wish) (fun fl t1 done => ?_) fun exc t1 raised => raised
  · obtain ⟨a, B, sI, pins1, τ, G, cls, d, rfl, I1, stay, ups, sky, free, oss, bare, owe⟩ := flying
    have J : Inv X pins τ G sI := I1.ofTry okX
    have sky1 : Sky B (X.env :: X.outer) a (Zc cls d) X.env.locals s2.heap := by rw [← stk]; exact sky
    show wpAny (model X.prog X.w) X.A (noteFrame (.ref a) X.env) _ _ _
    refine Sky.land Zc.steady frs0 frm sky1 fun h3 fl3 up3 => ?_
    have J3 : Inv X pins τ G { s2 with heap := h3 } := J.landed stay fl3.1 (ups.trans up3) oss bare
    obtain ⟨o3, fs3, g3, z3, dt3⟩ := fl3.there
    have notIn : a ∉ frs (X.env :: X.outer) := fun m => by
      obtain ⟨_, o4, g4, no⟩ := fl3.2.2.1.mem m
      rw [g3] at g4
      cases g4
      exact no _ dt3
    have notLoc : a ≠ X.env.locals := fun z => notIn (List.mem_filterMap.mpr ⟨X.env, List.mem_cons_self, by rw [frm, z]⟩)
    have notFs : a ∉ X.fs := fun m => by
      obtain ⟨en, hen, q⟩ := List.mem_filterMap.mp m
      exact notIn (List.mem_filterMap.mpr ⟨en, List.mem_cons_of_mem _ hen, q⟩)
    have S3 := J3.suite g3 dt3 free notLoc notFs
    have walk : ∀ {hs1 : List ExceptHandler} {l1 : List (Value × (Addr → Value → Option Addr → TS))}, HdsAs X n hs1 l1 → wManyAs X.K i Wout D l1 cls d τ G →
        wpAny (model X.prog X.w) X.A (handleBy (.ref a) X.env hs1) (SP X pins D) X.xe { s2 with heap := h3 } := by
      intro hs1 l1 k
      induction k with
      | nil =>
        intro owe1
        refine wpAny_handleBy_nil ?_
        obtain ⟨q1, q2, q3, o5, fs5, tb5, ot5, ts5, g5, z5, dt5, one5, r5⟩ := id fl3
        unfold PySem.passOn
        refine wpAny_bind (wpAny_field g5 dt5 one5 ?_)
        rw [if_neg (show ¬ ((Value.ref tb5 == Value.none) = true) from by simp)]
        have up : wpAny (model X.prog X.w) X.A (setFlight (.ref a) X.env.frame) (fun _ t4 => wpAny (model X.prog X.w) X.A (throw (.ref a) : Sem Flow) (SP X pins D) X.xe t4) X.xe { s2 with heap := h3 } := by
          rw [frm]
          refine HandSPX.setFlight_upZ fl3 fun h4 fl4 up4 => wpAny_throw (out _ _ ?_)
          exact ⟨a, B, sI, pins, τ, G, cls, d, rfl, J, stay, (ups.trans up3).trans up4, .inr (.inr (by rw [stk]; exact fl4)), free, oss, bare, owe1⟩
        first | exact wpAny_bind (wpAny_pure (wpAny_bind up)) | exact wpAny_bind up
      | @cons y c ts st0 sts np hp hs2 l2 nm run more ih =>
        intro owe1
        obtain ⟨b, is1, yes1, no1⟩ := owe1
        refine wpAny_handleBy_cons (codeAny_handlers_test ?_) (by intro q; cases q)
        have looks : PySem.W.Looks (model X.prog X.w) h3 (typeOf (.ref a)) cls := fun A1 Q1 E1 t1 keep q => wpAny_typeOf_ref (keep _ _ g3) (by rw [z3.1]; exact q)
        have isIt := PySem.W.exm_one (M := model X.prog X.w) (J3.kIn) looks is1
        have named : ∀ {Q1 : Value → Shared → Prop} {E1 : Value → Shared → Prop}, Q1 c { s2 with heap := h3 } → wpAny (model X.prog X.w) (X.A.mark (some (.ref a))) (eval (.Name y np) X.env) Q1 E1 { s2 with heap := h3 } := fun {Q1 E1} q => by
          obtain ⟨gl, db, mm | ⟨mm, bv, nn⟩⟩ := nm
          · exact ld_glob (X := X.suite a ((a, o3) :: (X.pn ++ pins))) S3 gl mm q db
          · exact ld_blt (X := X.suite a ((a, o3) :: (X.pn ++ pins))) S3 gl mm bv q nn db
        refine named (isIt.here ?_)
        cases b with
        | false =>
          show wpAny _ X.A (handleBy (.ref a) X.env hs2) _ _ _
          exact ih (no1 rfl)
        | true =>
          refine codeAny_handlers_suite_as ?_
          refine HandSPX.lands_againZ fl3 fun h4 fl4 up4 => ?_
          have J4 : Inv X pins τ G { s2 with heap := h4 } := J.landed stay fl4.1 ((ups.trans up3).trans up4) oss bare
          obtain ⟨o4, fs4, g4, z4, dt4⟩ := fl4.there
          refine store_ok (X := X.suite a ((a, o4) :: (X.pn ++ pins))) (v := .ref a) (J4.suite g4 dt4 free notLoc notFs) nd at_ locN rfl (fun t5 S5 => ?_) (Or.inr loc)
          refine wpAny_mono ((run a o4 cls d (X.pn ++ pins) z4 ⟨_, dt4⟩).run [] t5 _ G _ S5 (yes1 rfl a free)) (fun fl t6 done => ?_) fun _ _ z => z.elim
          have forget : ∀ {σ6 : L2.St} {G6 : Hp} {Q1 : Shared → Prop}, Inv (X.suite a ((a, o4) :: (X.pn ++ pins))) [] σ6 G6 t6 → (∀ t7, Inv X pins (σ6.set i none) G6 t7 → Q1 t7) →
              wpAny (model X.prog X.w) X.A (do bindName X.env n .none; unbindBehindTheSuite X.env n hp) (fun _ t7 => Q1 t7) X.xe t6 := fun {σ6 G6 Q1} S6 q => gone_ok (S6.unsuite okX) nd at_ loc q
          cases fl with
          | next => obtain ⟨τ6, G6, S6, q6⟩ := done; exact forget S6 fun t7 J7 => ⟨_, _, J7, q6⟩
          | brk => obtain ⟨τ6, G6, S6, q6⟩ := done; exact forget S6 fun t7 J7 => ⟨_, _, J7, q6⟩
          | cont => obtain ⟨τ6, G6, S6, q6⟩ := done; exact forget S6 fun t7 J7 => ⟨_, _, J7, q6⟩
          | ret u => obtain ⟨v6, τ6, G6, S6, r6, q6⟩ := done; exact forget S6 fun t7 J7 => ⟨_, _, _, J7, r6, q6⟩
    exact walk hh owe
  · cases fl with
    | next => obtain ⟨τ, G, J, q⟩ := done; exact wpAny_execs_nil ⟨τ, G, J.ofTry okX, q⟩
    | brk => obtain ⟨τ, G, J, q⟩ := done; exact ⟨τ, G, J.ofTry okX, q⟩
    | cont => obtain ⟨τ, G, J, q⟩ := done; exact ⟨τ, G, J.ofTry okX, q⟩
    | ret u => obtain ⟨v, τ, G, J, rv, q⟩ := done; exact ⟨v, τ, G, J.ofTry okX, rv, q⟩
end
end Dl

set_option Elab.async false
set_option linter.all false
set_option maxRecDepth 100000
set_option maxHeartbeats 4000000
/-! Data layer: defs that may raise, raise, try with several clauses, the field of a caught exception -/
namespace Dl
open PySem PySem.Spec PyProof.Rows L2
section
variable {X : Cx} {M : List Addr} {σ : L2.St} {H H' : Hp} {e o : Expr} {es : List Expr} {x n : Str} {v : V} {pos p1 p2 p3 hp : Pos} {D : Ends} {rest body : List Stmt} {k i : Nat} {f C fI : Addr} {fd : FuncData} {ps : List Str} {W : WX} {Q : VK} {sp : Sp}
/-- x(e, ..), a def that may raise -/
theorem re_callX (F : FnOk X.prog X.w X.K X.mg X.base (L2.CX X.prog X.w) k f fd ps sp) (hr : Room k X.A) (tk : Takes X W) (hm : X.mg x = some (.ref f)) (hk : PySem.W.keepIn X.K (.ref f) = true) (hb : Binds X.K fd ps []) (ha : RA X (e :: es) σ H fun vs H1 => sp vs H1 Q fun cls d H2 => W cls d σ H2) (hg : Gl X x := by rfl)
    (hdb : (x == ("__debug__" : Str)) = false := by decide) (he : starEach (e :: es) X.env = (false, eval e X.env) :: starEach es X.env := by rfl) (hpl : (backTo pos (starEach es X.env)).any (·.1) = false := by rfl) : RE X (.Call (.Name x p1) (e :: es) [] pos) σ H Q :=
  ⟨_, pe_callS F hr hg hm hk hb (fun σ => passAt tk σ) ra_ hdb he hpl, ha⟩
/-- __init__(self, value) of an exception's class -/
def spXI (C : Addr) (fl : Str) : Sp := fun vs H Q _ => ∃ (a : Addr) (v : V), vs = [.ref a, v] ∧ H a = some (exo a C none) ∧ ∀ H2, Same H H2 → ∀ dx, H2 dx = none → dx ≠ a → Q .non (upd (upd H2 dx (exd dx [(fl, v)])) a (exo a C (some dx)))
/-- self.f = e, self a new exception -/
theorem rb_ost {m : Str} {a : Addr} {ap : Pos} (T : OexC X.K C) (no : PySem.W.findIn X.K (.ref C) m = some none) (he : XV X σ H e v) (ho : XV X σ H o (.ref a)) (ha : H a = some (exo a C none)) (q : ∀ H2, Same H H2 → ∀ dx, H2 dx = none → dx ≠ a → RB X rest D σ (upd (upd H2 dx (exd dx [(m, v)])) a (exo a C (some dx))))
    (hs : swapsWith e (some (.Attribute o m ap)) pos.line X.env = pure false := by rfl) : RB X (.Assign [.Attribute o m ap] e pos :: rest) D σ H :=
  ⟨_, pss_cons (ps_ost re_ re_ hs) rb_, he H (Same.refl H) _ fun H1 s1 => ho H1 s1 _ fun H2 s2 => ⟨a, C, rfl, T, no, .inl ⟨(s1.trans s2) _ _ ha, fun dx h1 h2 => q H2 (s1.trans s2) dx h1 h2⟩⟩⟩
/-- a class of exceptions with one field -/
structure XCls (P : Program) (w : World) (K : PySem.W.Frag) (mg : Str → Option Value) (base : Heap) (x fl : Str) (C fI : Addr) (fd : FuncData) : Prop where
  mgC : mg x = some (.ref C)
  T : OexC K C
  iC : PySem.W.findIn K (.ref C) "__init__" = some (some (.ref fI))
  tI : PySem.W.typeIn K (.ref fI) = some (.type "function")
  G : FnOk P w K mg base CX0 1 fI fd ["self", fl] (spXI C fl)
  b : Binds K fd ["self", fl] []
  xf : XfC K C
  no : PySem.W.findIn K (.ref C) fl = some none
  te : PySem.W.exmOne K (.ref C) (.ref C) = some true
theorem del_upd {H H2 : Hp} {a d : Addr} {fs : List (Str × V)} (ha : H a = none) (s : Same (upd H a (exo a C none)) H2) (hd : H2 d = none) (ne : d ≠ a) : Same H (upd (del (upd (upd H2 d (exd d fs)) a (exo a C (some d))) a) d (.xd fs)) := fun b o e => by
  have na : b ≠ a := fun z => by rw [z, ha] at e; cases e
  have e2 : H2 b = some o := s b o (by rw [upd_ne na]; exact e)
  have nd : b ≠ d := fun z => by rw [z, hd] at e2; cases e2
  rw [upd_ne nd, del_ne na, upd_ne na, upd_ne nd]
  exact e2
/-- raise C(e) -/
theorem rb_raise {fl : Str} (Y : XCls X.prog X.w X.K X.mg X.base x fl C fI fd) (hr : Room 2 X.A) (tk : Takes X W) (h : RE X e σ H fun v H1 => ∀ d H2, Same H1 H2 → H2 d = some (.xd [(fl, v)]) → W (.ref C) (some d) σ H2) (hc : X.calm = true := by rfl) (hg : Gl X x := by rfl)
    (hdb : (x == ("__debug__" : Str)) = false := by decide) (he : starEach [e] X.env = (false, eval e X.env) :: starEach [] X.env := by rfl) (hpl : (backTo pos (starEach [] X.env)).any (·.1) = false := by rfl) : RB X (.Raise (some (.Call (.Name x p1) [e] [] pos)) none p2 :: rest) D σ H :=
  ⟨_, pss_cons (ps_raise hc tk (pmk_oex Y.T Y.iC Y.tI Y.G hr Y.b .nil pass0 hg Y.mgC ra_ hdb he hpl)) rb_, ra_1 (re_mono h fun v H1 q => by
    refine ⟨by show 1 ≤ 1000; decide, fun a ha => ⟨a, v, rfl, upd_same, fun H2 s2 d h1 h2 => ⟨rfl, d, _, upd_same, by rw [upd_ne h2, upd_same], ?_, q d _ (del_upd ha s2 h1 h2) upd_same⟩⟩⟩
    cases e3 : H1 d with
    | none => rfl
    | some o =>
      have e4 := s2 d o (by rw [upd_ne h2]; exact e3)
      rw [h1] at e4
      cases e4) he⟩
/-! ### try -/
/-- the body of a try, what leaves it goes by W -/
def TB (X : Cx) (body : List Stmt) : WX → TS := fun W D σ H => ∀ (pn : List (Addr × Obj)) (xe : Value → Shared → Prop), Takes (X.tr pn xe) W → PassesOwn (model X.prog X.w) X.A X.env xe → RB (X.tr pn xe) body D σ H
/-- a clause's suite, the exception at a -/
def SB (X : Cx) (suite : List Stmt) : Addr → Value → Option Addr → TS := fun a cls d D σ H => ∀ (ob : Obj) (pn : List (Addr × Obj)), Zc cls d ob → (∃ fs, ob.data = .fields fs) → RB (X.suite a ((a, ob) :: pn)) suite D σ H
theorem tb_ {pn : List (Addr × Obj)} {xe : Value → Shared → Prop} (tk : Takes (X.tr pn xe) W) (po : PassesOwn (model X.prog X.w) X.A X.env xe) : PSs (X.tr pn xe) body (TB X body W) := ⟨fun pins s σ H D I h => by
  obtain ⟨t, ht, q⟩ := h pn xe tk po
  exact ht.run pins s σ H D I q⟩
theorem sb_ {suite : List Stmt} {a : Addr} {ob : Obj} {cls : Value} {d : Option Addr} {pn : List (Addr × Obj)} (z : Zc cls d ob) (hf : ∃ fs, ob.data = .fields fs) : PSs (X.suite a ((a, ob) :: pn)) suite (SB X suite a cls d) := ⟨fun pins s σ H D I h => by
  obtain ⟨t, ht, q⟩ := h ob pn z hf
  exact ht.run pins s σ H D I q⟩
/-- the clauses by their classes -/
inductive Cls (X : Cx) (n : Str) : List ExceptHandler → List (Value × (Addr → Value → Option Addr → TS)) → Prop
  | nil : Cls X n [] []
  | cons {y : Str} {c : Value} {st0 : Stmt} {sts : List Stmt} {np hp : Pos} {hs : List ExceptHandler} {l : List (Value × (Addr → Value → Option Addr → TS))} (nm : Names X y c) (more : Cls X n hs l) :
      Cls X n (.ExceptHandler (some (.Name y np)) (some n) (st0 :: sts) hp :: hs) ((c, SB X (st0 :: sts)) :: l)
theorem Cls.ok {hs : List ExceptHandler} {l : List (Value × (Addr → Value → Option Addr → TS))} (h : Cls X n hs l) : HdsAs X n hs l := by
  induction h with
  | nil => exact .nil
  | cons nm more ih => exact .cons nm (fun a ob cls d pn z hf => sb_ z hf) ih
theorem rb_tryAs {h0 : ExceptHandler} {hds : List ExceptHandler} {l : List (Value × (Addr → Value → Option Addr → TS))} {Wout : WX} (i : Nat) (hN : X.N.Nodup) (out : Takes X Wout) (hh : Cls X n (h0 :: hds) l) (h : TB X body (wManyAs X.K i Wout { D with nx := RB X rest D } l) { D with nx := RB X rest D } σ H)
    (hi : X.N[i]? = some n := by rfl) (loc : X.env.kindOf n = some .local := by rfl) (stk : X.stack = X.env :: X.outer := by rfl) (frm : X.env.frame = some X.env.locals := by rfl) : RB X (.Try body (h0 :: hds) [] [] pos :: rest) D σ H :=
  ⟨_, pss_cons (ps_try_manyAs (tb := TB X body) stk frm hN hi loc out (fun W pn xe tk po => tb_ tk po) hh.ok) rb_, h⟩
/-- e.f, e the caught exception -/
theorem xv_xf {a : Addr} {ob : Obj} {cls : Value} {d : Addr} {pn : List (Addr × Obj)} {fl : Str} {fs : List (Str × V)} (T : XfC X.K C) (no : PySem.W.findIn X.K (.ref C) fl = some none) (z : Zc cls (some d) ob) (hf : ∃ vs, ob.data = .fields vs) (hcl : cls = .ref C) (ho : XV (X.suite a ((a, ob) :: pn)) σ H e (.ref a)) (hd : H d = some (.xd fs)) (hl : fs.lookup fl = some v)
    (hb : attributeBase e fl X.env (eval e X.env) = eval e X.env := by rfl) : XV (X.suite a ((a, ob) :: pn)) σ H (.Attribute e fl pos) v := fun H1 s Q q =>
  ⟨_, pe_xf T no z hf re_ hb, ho H1 s _ fun H2 s2 => ⟨rfl, hcl, d, fs, v, rfl, (s.trans s2) _ _ hd, hl, q H2 s2⟩⟩
end
end Dl

set_option Elab.async false
set_option linter.all false
set_option maxRecDepth 100000
set_option maxHeartbeats 8000000
/-! Data layer: {i:02d}, whole numbers below sixty -/
namespace Dl
open PySem PySem.Spec PyProof.Rows L2 PySem.Builtin PySem.Builtin.Str PySem.Builtin.Int
def two (i : Int) : PySem.Str := if i < 10 then (⟨#[48]⟩ : PySem.Str) ++ PySem.Str.ofString (toString i) else PySem.Str.ofString (toString i)
def s02 : PySem.Str := "02d"
section
variable {prog : Program} {w : World} {A : Around} {E : Value → Shared → Prop} {s : Shared}
theorem field_02 {i : Int} {t : Tok} {Q : Value → Shared → Prop} (h0 : 0 ≤ i) (h1 : i < 60) (q : Q (.str (two i) (s.toks + 1)) { s with toks := s.toks + 1 + 1 }) : wpAny (model prog w) A (formatField (.int i t) s02) Q E s := by
  show wpAny _ _ (holding [.int i t] (pyFormat (.int i t) s02)) Q E s
  refine wpAny_holding ?_
  unfold pyFormat
  refine wpAny_bind (wpAny_mkStr ?_ (by decide))
  refine wpAny_bind (m := callSpecial? (.int i t) (PySem.Str.ofString "__format__") [.str s02 s.toks]) (wpAny_callSpecial?_slot (name := PySem.Str.ofString "__format__") (typeIs_int _ _ t) PyProof.Rows.slot_int_format ?_)
  refine wpAny_call (codeAny_call_builtin PyProof.Rows.slot_int_format.plain PyProof.Rows.entry_int_format (PyProof.Rows.slot_int_format.check _ _ _ _ _ _ _ _ (typeIs_int _ _ t) (PyProof.Rows.args_int_format _ _) ?_))
  unfold Builtin.«int.__format__»
  simp only [selfAndOne, noKeywords, Int.intOfSelf, asInt?, asStr?, List.isEmpty_nil, if_true, pure_bind, bind_pure, bind_assoc, Bool.false_eq_true, if_false, show (Value.str s02 s.toks == Value.none) = false from rfl]
  refine wpAny_bind (wpAny_typeNameOf (T := "str") (typeIs_str _ _ _) (by decide) fun _ => ?_)
  rw [if_neg (by decide), if_neg (by decide)]
  refine wpAny_bind (wpAny_typeNameOfCut_int ?_)
  have all : i = 0 ∨ i = 1 ∨ i = 2 ∨ i = 3 ∨ i = 4 ∨ i = 5 ∨ i = 6 ∨ i = 7 ∨ i = 8 ∨ i = 9 ∨ i = 10 ∨ i = 11 ∨ i = 12 ∨ i = 13 ∨ i = 14 ∨ i = 15 ∨ i = 16 ∨ i = 17 ∨ i = 18 ∨ i = 19 ∨ i = 20 ∨ i = 21 ∨ i = 22 ∨ i = 23 ∨ i = 24 ∨ i = 25 ∨ i = 26 ∨ i = 27 ∨ i = 28 ∨ i = 29 ∨ i = 30 ∨ i = 31 ∨ i = 32 ∨ i = 33 ∨ i = 34 ∨ i = 35 ∨ i = 36 ∨ i = 37 ∨ i = 38 ∨ i = 39 ∨ i = 40 ∨ i = 41 ∨ i = 42 ∨ i = 43 ∨ i = 44 ∨ i = 45 ∨ i = 46 ∨ i = 47 ∨ i = 48 ∨ i = 49 ∨ i = 50 ∨ i = 51 ∨ i = 52 ∨ i = 53 ∨ i = 54 ∨ i = 55 ∨ i = 56 ∨ i = 57 ∨ i = 58 ∨ i = 59 := by omega
  rcases all with rfl | rfl | rfl | rfl | rfl | rfl | rfl | rfl | rfl | rfl | rfl | rfl | rfl | rfl | rfl | rfl | rfl | rfl | rfl | rfl | rfl | rfl | rfl | rfl | rfl | rfl | rfl | rfl | rfl | rfl | rfl | rfl | rfl | rfl | rfl | rfl | rfl | rfl | rfl | rfl | rfl | rfl | rfl | rfl | rfl | rfl | rfl | rfl | rfl | rfl | rfl | rfl | rfl | rfl | rfl | rfl | rfl | rfl | rfl | rfl
  · refine wpAny_bind (m := retStr (two 0)) (wpAny_bind (wpAny_mkStr (wpAny_pure (wpAny_pure ?_)) (by decide +kernel)))
    dsimp only
    exact wpAny_bind (wpAny_isInstance (typeIs_str _ _ _) isSubtype_str_str (wpAny_pure q))
  · refine wpAny_bind (m := retStr (two 1)) (wpAny_bind (wpAny_mkStr (wpAny_pure (wpAny_pure ?_)) (by decide +kernel)))
    dsimp only
    exact wpAny_bind (wpAny_isInstance (typeIs_str _ _ _) isSubtype_str_str (wpAny_pure q))
  · refine wpAny_bind (m := retStr (two 2)) (wpAny_bind (wpAny_mkStr (wpAny_pure (wpAny_pure ?_)) (by decide +kernel)))
    dsimp only
    exact wpAny_bind (wpAny_isInstance (typeIs_str _ _ _) isSubtype_str_str (wpAny_pure q))
  · refine wpAny_bind (m := retStr (two 3)) (wpAny_bind (wpAny_mkStr (wpAny_pure (wpAny_pure ?_)) (by decide +kernel)))
    dsimp only
    exact wpAny_bind (wpAny_isInstance (typeIs_str _ _ _) isSubtype_str_str (wpAny_pure q))
  · refine wpAny_bind (m := retStr (two 4)) (wpAny_bind (wpAny_mkStr (wpAny_pure (wpAny_pure ?_)) (by decide +kernel)))
    dsimp only
    exact wpAny_bind (wpAny_isInstance (typeIs_str _ _ _) isSubtype_str_str (wpAny_pure q))
  · refine wpAny_bind (m := retStr (two 5)) (wpAny_bind (wpAny_mkStr (wpAny_pure (wpAny_pure ?_)) (by decide +kernel)))
    dsimp only
    exact wpAny_bind (wpAny_isInstance (typeIs_str _ _ _) isSubtype_str_str (wpAny_pure q))
  · refine wpAny_bind (m := retStr (two 6)) (wpAny_bind (wpAny_mkStr (wpAny_pure (wpAny_pure ?_)) (by decide +kernel)))
    dsimp only
    exact wpAny_bind (wpAny_isInstance (typeIs_str _ _ _) isSubtype_str_str (wpAny_pure q))
  · refine wpAny_bind (m := retStr (two 7)) (wpAny_bind (wpAny_mkStr (wpAny_pure (wpAny_pure ?_)) (by decide +kernel)))
    dsimp only
    exact wpAny_bind (wpAny_isInstance (typeIs_str _ _ _) isSubtype_str_str (wpAny_pure q))
  · refine wpAny_bind (m := retStr (two 8)) (wpAny_bind (wpAny_mkStr (wpAny_pure (wpAny_pure ?_)) (by decide +kernel)))
    dsimp only
    exact wpAny_bind (wpAny_isInstance (typeIs_str _ _ _) isSubtype_str_str (wpAny_pure q))
  · refine wpAny_bind (m := retStr (two 9)) (wpAny_bind (wpAny_mkStr (wpAny_pure (wpAny_pure ?_)) (by decide +kernel)))
    dsimp only
    exact wpAny_bind (wpAny_isInstance (typeIs_str _ _ _) isSubtype_str_str (wpAny_pure q))
  · refine wpAny_bind (m := retStr (two 10)) (wpAny_bind (wpAny_mkStr (wpAny_pure (wpAny_pure ?_)) (by decide +kernel)))
    dsimp only
    exact wpAny_bind (wpAny_isInstance (typeIs_str _ _ _) isSubtype_str_str (wpAny_pure q))
  · refine wpAny_bind (m := retStr (two 11)) (wpAny_bind (wpAny_mkStr (wpAny_pure (wpAny_pure ?_)) (by decide +kernel)))
    dsimp only
    exact wpAny_bind (wpAny_isInstance (typeIs_str _ _ _) isSubtype_str_str (wpAny_pure q))
  · refine wpAny_bind (m := retStr (two 12)) (wpAny_bind (wpAny_mkStr (wpAny_pure (wpAny_pure ?_)) (by decide +kernel)))
    dsimp only
    exact wpAny_bind (wpAny_isInstance (typeIs_str _ _ _) isSubtype_str_str (wpAny_pure q))
  · refine wpAny_bind (m := retStr (two 13)) (wpAny_bind (wpAny_mkStr (wpAny_pure (wpAny_pure ?_)) (by decide +kernel)))
    dsimp only
    exact wpAny_bind (wpAny_isInstance (typeIs_str _ _ _) isSubtype_str_str (wpAny_pure q))
  · refine wpAny_bind (m := retStr (two 14)) (wpAny_bind (wpAny_mkStr (wpAny_pure (wpAny_pure ?_)) (by decide +kernel)))
    dsimp only
    exact wpAny_bind (wpAny_isInstance (typeIs_str _ _ _) isSubtype_str_str (wpAny_pure q))
  · refine wpAny_bind (m := retStr (two 15)) (wpAny_bind (wpAny_mkStr (wpAny_pure (wpAny_pure ?_)) (by decide +kernel)))
    dsimp only
    exact wpAny_bind (wpAny_isInstance (typeIs_str _ _ _) isSubtype_str_str (wpAny_pure q))
  · refine wpAny_bind (m := retStr (two 16)) (wpAny_bind (wpAny_mkStr (wpAny_pure (wpAny_pure ?_)) (by decide +kernel)))
    dsimp only
    exact wpAny_bind (wpAny_isInstance (typeIs_str _ _ _) isSubtype_str_str (wpAny_pure q))
  · refine wpAny_bind (m := retStr (two 17)) (wpAny_bind (wpAny_mkStr (wpAny_pure (wpAny_pure ?_)) (by decide +kernel)))
    dsimp only
    exact wpAny_bind (wpAny_isInstance (typeIs_str _ _ _) isSubtype_str_str (wpAny_pure q))
  · refine wpAny_bind (m := retStr (two 18)) (wpAny_bind (wpAny_mkStr (wpAny_pure (wpAny_pure ?_)) (by decide +kernel)))
    dsimp only
    exact wpAny_bind (wpAny_isInstance (typeIs_str _ _ _) isSubtype_str_str (wpAny_pure q))
  · refine wpAny_bind (m := retStr (two 19)) (wpAny_bind (wpAny_mkStr (wpAny_pure (wpAny_pure ?_)) (by decide +kernel)))
    dsimp only
    exact wpAny_bind (wpAny_isInstance (typeIs_str _ _ _) isSubtype_str_str (wpAny_pure q))
  · refine wpAny_bind (m := retStr (two 20)) (wpAny_bind (wpAny_mkStr (wpAny_pure (wpAny_pure ?_)) (by decide +kernel)))
    dsimp only
    exact wpAny_bind (wpAny_isInstance (typeIs_str _ _ _) isSubtype_str_str (wpAny_pure q))
  · refine wpAny_bind (m := retStr (two 21)) (wpAny_bind (wpAny_mkStr (wpAny_pure (wpAny_pure ?_)) (by decide +kernel)))
    dsimp only
    exact wpAny_bind (wpAny_isInstance (typeIs_str _ _ _) isSubtype_str_str (wpAny_pure q))
  · refine wpAny_bind (m := retStr (two 22)) (wpAny_bind (wpAny_mkStr (wpAny_pure (wpAny_pure ?_)) (by decide +kernel)))
    dsimp only
    exact wpAny_bind (wpAny_isInstance (typeIs_str _ _ _) isSubtype_str_str (wpAny_pure q))
  · refine wpAny_bind (m := retStr (two 23)) (wpAny_bind (wpAny_mkStr (wpAny_pure (wpAny_pure ?_)) (by decide +kernel)))
    dsimp only
    exact wpAny_bind (wpAny_isInstance (typeIs_str _ _ _) isSubtype_str_str (wpAny_pure q))
  · refine wpAny_bind (m := retStr (two 24)) (wpAny_bind (wpAny_mkStr (wpAny_pure (wpAny_pure ?_)) (by decide +kernel)))
    dsimp only
    exact wpAny_bind (wpAny_isInstance (typeIs_str _ _ _) isSubtype_str_str (wpAny_pure q))
  · refine wpAny_bind (m := retStr (two 25)) (wpAny_bind (wpAny_mkStr (wpAny_pure (wpAny_pure ?_)) (by decide +kernel)))
    dsimp only
    exact wpAny_bind (wpAny_isInstance (typeIs_str _ _ _) isSubtype_str_str (wpAny_pure q))
  · refine wpAny_bind (m := retStr (two 26)) (wpAny_bind (wpAny_mkStr (wpAny_pure (wpAny_pure ?_)) (by decide +kernel)))
    dsimp only
    exact wpAny_bind (wpAny_isInstance (typeIs_str _ _ _) isSubtype_str_str (wpAny_pure q))
  · refine wpAny_bind (m := retStr (two 27)) (wpAny_bind (wpAny_mkStr (wpAny_pure (wpAny_pure ?_)) (by decide +kernel)))
    dsimp only
    exact wpAny_bind (wpAny_isInstance (typeIs_str _ _ _) isSubtype_str_str (wpAny_pure q))
  · refine wpAny_bind (m := retStr (two 28)) (wpAny_bind (wpAny_mkStr (wpAny_pure (wpAny_pure ?_)) (by decide +kernel)))
    dsimp only
    exact wpAny_bind (wpAny_isInstance (typeIs_str _ _ _) isSubtype_str_str (wpAny_pure q))
  · refine wpAny_bind (m := retStr (two 29)) (wpAny_bind (wpAny_mkStr (wpAny_pure (wpAny_pure ?_)) (by decide +kernel)))
    dsimp only
    exact wpAny_bind (wpAny_isInstance (typeIs_str _ _ _) isSubtype_str_str (wpAny_pure q))
  · refine wpAny_bind (m := retStr (two 30)) (wpAny_bind (wpAny_mkStr (wpAny_pure (wpAny_pure ?_)) (by decide +kernel)))
    dsimp only
    exact wpAny_bind (wpAny_isInstance (typeIs_str _ _ _) isSubtype_str_str (wpAny_pure q))
  · refine wpAny_bind (m := retStr (two 31)) (wpAny_bind (wpAny_mkStr (wpAny_pure (wpAny_pure ?_)) (by decide +kernel)))
    dsimp only
    exact wpAny_bind (wpAny_isInstance (typeIs_str _ _ _) isSubtype_str_str (wpAny_pure q))
  · refine wpAny_bind (m := retStr (two 32)) (wpAny_bind (wpAny_mkStr (wpAny_pure (wpAny_pure ?_)) (by decide +kernel)))
    dsimp only
    exact wpAny_bind (wpAny_isInstance (typeIs_str _ _ _) isSubtype_str_str (wpAny_pure q))
  · refine wpAny_bind (m := retStr (two 33)) (wpAny_bind (wpAny_mkStr (wpAny_pure (wpAny_pure ?_)) (by decide +kernel)))
    dsimp only
    exact wpAny_bind (wpAny_isInstance (typeIs_str _ _ _) isSubtype_str_str (wpAny_pure q))
  · refine wpAny_bind (m := retStr (two 34)) (wpAny_bind (wpAny_mkStr (wpAny_pure (wpAny_pure ?_)) (by decide +kernel)))
    dsimp only
    exact wpAny_bind (wpAny_isInstance (typeIs_str _ _ _) isSubtype_str_str (wpAny_pure q))
  · refine wpAny_bind (m := retStr (two 35)) (wpAny_bind (wpAny_mkStr (wpAny_pure (wpAny_pure ?_)) (by decide +kernel)))
    dsimp only
    exact wpAny_bind (wpAny_isInstance (typeIs_str _ _ _) isSubtype_str_str (wpAny_pure q))
  · refine wpAny_bind (m := retStr (two 36)) (wpAny_bind (wpAny_mkStr (wpAny_pure (wpAny_pure ?_)) (by decide +kernel)))
    dsimp only
    exact wpAny_bind (wpAny_isInstance (typeIs_str _ _ _) isSubtype_str_str (wpAny_pure q))
  · refine wpAny_bind (m := retStr (two 37)) (wpAny_bind (wpAny_mkStr (wpAny_pure (wpAny_pure ?_)) (by decide +kernel)))
    dsimp only
    exact wpAny_bind (wpAny_isInstance (typeIs_str _ _ _) isSubtype_str_str (wpAny_pure q))
  · refine wpAny_bind (m := retStr (two 38)) (wpAny_bind (wpAny_mkStr (wpAny_pure (wpAny_pure ?_)) (by decide +kernel)))
    dsimp only
    exact wpAny_bind (wpAny_isInstance (typeIs_str _ _ _) isSubtype_str_str (wpAny_pure q))
  · refine wpAny_bind (m := retStr (two 39)) (wpAny_bind (wpAny_mkStr (wpAny_pure (wpAny_pure ?_)) (by decide +kernel)))
    dsimp only
    exact wpAny_bind (wpAny_isInstance (typeIs_str _ _ _) isSubtype_str_str (wpAny_pure q))
  · refine wpAny_bind (m := retStr (two 40)) (wpAny_bind (wpAny_mkStr (wpAny_pure (wpAny_pure ?_)) (by decide +kernel)))
    dsimp only
    exact wpAny_bind (wpAny_isInstance (typeIs_str _ _ _) isSubtype_str_str (wpAny_pure q))
  · refine wpAny_bind (m := retStr (two 41)) (wpAny_bind (wpAny_mkStr (wpAny_pure (wpAny_pure ?_)) (by decide +kernel)))
    dsimp only
    exact wpAny_bind (wpAny_isInstance (typeIs_str _ _ _) isSubtype_str_str (wpAny_pure q))
  · refine wpAny_bind (m := retStr (two 42)) (wpAny_bind (wpAny_mkStr (wpAny_pure (wpAny_pure ?_)) (by decide +kernel)))
    dsimp only
    exact wpAny_bind (wpAny_isInstance (typeIs_str _ _ _) isSubtype_str_str (wpAny_pure q))
  · refine wpAny_bind (m := retStr (two 43)) (wpAny_bind (wpAny_mkStr (wpAny_pure (wpAny_pure ?_)) (by decide +kernel)))
    dsimp only
    exact wpAny_bind (wpAny_isInstance (typeIs_str _ _ _) isSubtype_str_str (wpAny_pure q))
  · refine wpAny_bind (m := retStr (two 44)) (wpAny_bind (wpAny_mkStr (wpAny_pure (wpAny_pure ?_)) (by decide +kernel)))
    dsimp only
    exact wpAny_bind (wpAny_isInstance (typeIs_str _ _ _) isSubtype_str_str (wpAny_pure q))
  · refine wpAny_bind (m := retStr (two 45)) (wpAny_bind (wpAny_mkStr (wpAny_pure (wpAny_pure ?_)) (by decide +kernel)))
    dsimp only
    exact wpAny_bind (wpAny_isInstance (typeIs_str _ _ _) isSubtype_str_str (wpAny_pure q))
  · refine wpAny_bind (m := retStr (two 46)) (wpAny_bind (wpAny_mkStr (wpAny_pure (wpAny_pure ?_)) (by decide +kernel)))
    dsimp only
    exact wpAny_bind (wpAny_isInstance (typeIs_str _ _ _) isSubtype_str_str (wpAny_pure q))
  · refine wpAny_bind (m := retStr (two 47)) (wpAny_bind (wpAny_mkStr (wpAny_pure (wpAny_pure ?_)) (by decide +kernel)))
    dsimp only
    exact wpAny_bind (wpAny_isInstance (typeIs_str _ _ _) isSubtype_str_str (wpAny_pure q))
  · refine wpAny_bind (m := retStr (two 48)) (wpAny_bind (wpAny_mkStr (wpAny_pure (wpAny_pure ?_)) (by decide +kernel)))
    dsimp only
    exact wpAny_bind (wpAny_isInstance (typeIs_str _ _ _) isSubtype_str_str (wpAny_pure q))
  · refine wpAny_bind (m := retStr (two 49)) (wpAny_bind (wpAny_mkStr (wpAny_pure (wpAny_pure ?_)) (by decide +kernel)))
    dsimp only
    exact wpAny_bind (wpAny_isInstance (typeIs_str _ _ _) isSubtype_str_str (wpAny_pure q))
  · refine wpAny_bind (m := retStr (two 50)) (wpAny_bind (wpAny_mkStr (wpAny_pure (wpAny_pure ?_)) (by decide +kernel)))
    dsimp only
    exact wpAny_bind (wpAny_isInstance (typeIs_str _ _ _) isSubtype_str_str (wpAny_pure q))
  · refine wpAny_bind (m := retStr (two 51)) (wpAny_bind (wpAny_mkStr (wpAny_pure (wpAny_pure ?_)) (by decide +kernel)))
    dsimp only
    exact wpAny_bind (wpAny_isInstance (typeIs_str _ _ _) isSubtype_str_str (wpAny_pure q))
  · refine wpAny_bind (m := retStr (two 52)) (wpAny_bind (wpAny_mkStr (wpAny_pure (wpAny_pure ?_)) (by decide +kernel)))
    dsimp only
    exact wpAny_bind (wpAny_isInstance (typeIs_str _ _ _) isSubtype_str_str (wpAny_pure q))
  · refine wpAny_bind (m := retStr (two 53)) (wpAny_bind (wpAny_mkStr (wpAny_pure (wpAny_pure ?_)) (by decide +kernel)))
    dsimp only
    exact wpAny_bind (wpAny_isInstance (typeIs_str _ _ _) isSubtype_str_str (wpAny_pure q))
  · refine wpAny_bind (m := retStr (two 54)) (wpAny_bind (wpAny_mkStr (wpAny_pure (wpAny_pure ?_)) (by decide +kernel)))
    dsimp only
    exact wpAny_bind (wpAny_isInstance (typeIs_str _ _ _) isSubtype_str_str (wpAny_pure q))
  · refine wpAny_bind (m := retStr (two 55)) (wpAny_bind (wpAny_mkStr (wpAny_pure (wpAny_pure ?_)) (by decide +kernel)))
    dsimp only
    exact wpAny_bind (wpAny_isInstance (typeIs_str _ _ _) isSubtype_str_str (wpAny_pure q))
  · refine wpAny_bind (m := retStr (two 56)) (wpAny_bind (wpAny_mkStr (wpAny_pure (wpAny_pure ?_)) (by decide +kernel)))
    dsimp only
    exact wpAny_bind (wpAny_isInstance (typeIs_str _ _ _) isSubtype_str_str (wpAny_pure q))
  · refine wpAny_bind (m := retStr (two 57)) (wpAny_bind (wpAny_mkStr (wpAny_pure (wpAny_pure ?_)) (by decide +kernel)))
    dsimp only
    exact wpAny_bind (wpAny_isInstance (typeIs_str _ _ _) isSubtype_str_str (wpAny_pure q))
  · refine wpAny_bind (m := retStr (two 58)) (wpAny_bind (wpAny_mkStr (wpAny_pure (wpAny_pure ?_)) (by decide +kernel)))
    dsimp only
    exact wpAny_bind (wpAny_isInstance (typeIs_str _ _ _) isSubtype_str_str (wpAny_pure q))
  · refine wpAny_bind (m := retStr (two 59)) (wpAny_bind (wpAny_mkStr (wpAny_pure (wpAny_pure ?_)) (by decide +kernel)))
    dsimp only
    exact wpAny_bind (wpAny_isInstance (typeIs_str _ _ _) isSubtype_str_str (wpAny_pure q))
end
section
variable {X : Cx} {M : List Addr} {σ : L2.St} {H : Hp} {e : Expr} {pos p1 p2 : Pos} {j : Nat}
def tFmt2 (te : TE) : TE := fun σ H Q => te σ H fun x H1 => ∃ i : Int, x = .int i ∧ 0 ≤ i ∧ i < 60 ∧ Q (.str (two i)) H1
theorem pe_fmt2 {te : TE} (he : PE X e te) : PE X (.FormattedValue e (-1) (some (.JoinedStr [.Constant (.str s02) j p1] p2)) pos) (tFmt2 te) := by
  refine ⟨fun pins s σ H Q I h => ?_⟩
  refine wpAny_FormattedValue_spec (thn (he.run pins s σ H _ I h) fun v s1 hv => ?_)
  obtain ⟨x, H1, I1, r1, i, rfl, h0, h1, q⟩ := hv
  obtain ⟨t, rfl⟩ := r1
  refine wpAny_mono ((pe_joined1 (X := X) pe_str).run pins s1 σ H1 (fun v H2 => v = .str s02 ∧ H2 = H1) I1 ⟨rfl, rfl⟩) (fun u s2 hu => ?_) fun _ _ z => z
  obtain ⟨y, H2, I2, r2, rfl, rfl⟩ := hu
  obtain ⟨t2, rfl⟩ := r2
  exact ⟨s02, t2, rfl, field_02 h0 h1 ⟨.str (two i), H2, I2.tok _, ⟨_, rfl⟩, q⟩⟩
end
end Dl

set_option Elab.async false
set_option linter.all false
set_option maxRecDepth 100000
set_option maxHeartbeats 4000000
/-! Data layer: texts -/
namespace Dl
open PySem PySem.Spec PyProof.Rows L2
/-- the texts of one sign -/
def sg (c : Nat) : Str := ⟨#[c]⟩
section
variable {X : Cx} {M : List Addr} {σ : L2.St} {H H' : Hp} {e a b c o elt tg iter : Expr} {ifs : List Expr} {scope : Scope} {own : List (Str × Nat)} {es : List Expr} {d d1 d2 : PyData} {ds ds2 : List PyData} {x y z : Str} {v : V} {pos p1 p2 p3 : Pos}
theorem xd_addS (ha : XD X M σ H a (.str x)) (hb : XD X M σ H b (.str y)) (hl : x.length + y.length ≤ 100000) : XD X M σ H (.BinOp a .Add b pos) (.str (x ++ y)) :=
  xd_bin op_add_str ha hb fun H1 v w s hv hw Q q => ⟨x, y, dp_str hv, dp_str hw, small_sz hl, q _ H1 (Same.refl _) (.str _)⟩
theorem xd_lenStr (hm : X.mg "len" = none) (ha : XD X M σ H e (.str x)) (hl : x.length ≤ 100000) (hg : Gl X "len" := by rfl) (he : starEach [e] X.env = (false, eval e X.env) :: starEach [] X.env := by rfl) (hpl : (backTo pos (starEach [] X.env)).any (·.1) = false := by rfl) : XD X M σ H (.Call (.Name "len" p1) [e] [] pos) (.int x.length) :=
  xd_B call_len_str (xa_cons ha xa_nil he) (fun H1 vs s h Q q => by
    cases h with
    | cons h1 h2 =>
      cases h2
      exact ⟨x, by rw [dp_str h1], small_sz hl, q _ _ (Same.refl _) (.int _)⟩) hm PySem.boot_len hg (by decide) (by decide) he hpl
theorem xd_ixS {n : Int} {c : Nat} (hs : PlainIx b) (ha : XD X M σ H a (.str x)) (hb : XD X M σ H b (.int n)) (hl : x.length ≤ 100000) (h : atI x.cps.toList n = some c) : XD X M σ H (.Subscript a b pos) (.str (sg c)) := fun H1 s Q q =>
  ⟨_, pe_ix ix_str re_ re_ hs, ha H1 s _ fun v H2 s2 hv => hb H2 (s.trans s2) _ fun w H3 s3 hw => ⟨x, n, c, dp_str hv, dp_int hw, small_sz hl, h, q _ H3 (s2.trans s3) (.str _)⟩⟩
theorem xd_cutS {lo hi : Option Expr} {m n : Option Int} (ha : XD X M σ H a (.str x)) (hl : XO X σ H lo m) (hu : XO X σ H hi n) (hz : x.length ≤ 100000) : XD X M σ H (.Subscript a (.Slice lo hi none p2) pos) (.str (cutS x m n)) := fun H1 s Q q =>
  ⟨_, pe_slice sl_str re_ ro_ ro_, ha H1 s _ fun v H2 s2 hv => hl H2 (s.trans s2) _ fun H3 s3 => hu H3 ((s.trans s2).trans s3) _ fun H4 s4 => ⟨x, dp_str hv, small_sz hz, q _ H4 (s2.trans (s3.trans s4)) (.str _)⟩⟩
theorem xt_inSg {c : Nat} (ha : XD X M σ H a (.str (sg c))) (hb : XD X M σ H b (.str x)) (hm : behindInMarks .In b = false := by rfl) : XT X σ H (.Compare a [.In] [b] pos) (decide (c ∈ x.cps.toList)) :=
  xt_cmp op_inS ha hb (fun H1 v w s hv hw Q q => ⟨c, x, dp_str hv, dp_str hw, q H1 (Same.refl _)⟩) hm
theorem xd_inSg {c : Nat} (ha : XD X M σ H a (.str (sg c))) (hb : XD X M σ H b (.str x)) (hm : behindInMarks .In b = false := by rfl) : XD X M σ H (.Compare a [.In] [b] pos) (.bool (decide (c ∈ x.cps.toList))) :=
  xd_cmp op_inS ha hb (fun H1 v w s hv hw Q q => ⟨c, x, dp_str hv, dp_str hw, q _ H1 (Same.refl _) (.bl _)⟩) hm
theorem xt_notInSg {c : Nat} (ha : XD X M σ H a (.str (sg c))) (hb : XD X M σ H b (.str x)) (hm : behindInMarks .NotIn b = false := by rfl) : XT X σ H (.Compare a [.NotIn] [b] pos) (!decide (c ∈ x.cps.toList)) :=
  xt_cmp op_notInS ha hb (fun H1 v w s hv hw Q q => ⟨c, x, dp_str hv, dp_str hw, q H1 (Same.refl _)⟩) hm
theorem dec_str {m n : Str} : decide (V.str m = V.str n) = decide (m = n) := by
  by_cases h : m = n
  · subst h; simp
  · rw [decide_eq_false h, decide_eq_false fun z => h (V.str.inj z)]
theorem xt_neS (ha : XD X M σ H a (.str x)) (hb : XD X M σ H b (.str y)) : XT X σ H (.Compare a [.NotEq] [b] pos) (!decide (x = y)) :=
  xt_cmp op_ne ha hb fun H1 v w s hv hw Q q => by
    rw [dp_str hv, dp_str hw]
    exact ⟨rfl, by rw [dec_str]; exact q H1 (Same.refl _)⟩
/-- int(text) -/
theorem xd_intS {n : Int} (hm : X.mg "int" = none) (ha : XD X M σ H e (.str x)) (hn : PySem.intText? x = some n) (hl : x.length ≤ 640) (hg : Gl X "int" := by rfl) (he : starEach [e] X.env = (false, eval e X.env) :: starEach [] X.env := by rfl) (hpl : (backTo pos (starEach [] X.env)).any (·.1) = false := by rfl) :
    XD X M σ H (.Call (.Name "int" p1) [e] [] pos) (.int n) := fun H1 s Q q =>
  re_Ty call_int_str (ra_1 (ha H1 s _ fun v H2 s2 hv => ⟨x, n, by rw [dp_str hv], hn, hl, q _ H2 s2 (.int _)⟩) he) hm (by decide +kernel) hg (by decide) (by decide) he hpl
/-- str(int) -/
theorem xd_strI {n : Int} (hm : X.mg "str" = none) (ha : XD X M σ H e (.int n)) (hl : n.natAbs.log2 < 1920) (hg : Gl X "str" := by rfl) (he : starEach [e] X.env = (false, eval e X.env) :: starEach [] X.env := by rfl) (hpl : (backTo pos (starEach [] X.env)).any (·.1) = false := by rfl) :
    XD X M σ H (.Call (.Name "str" p1) [e] [] pos) (.str (Str.ofString (toString n))) := fun H1 s Q q =>
  re_Ty call_str_int (ra_1 (ha H1 s _ fun v H2 s2 hv => ⟨n, by rw [dp_int hv], hl, q _ H2 s2 (.str _)⟩) he) hm (by decide +kernel) hg (by decide) (by decide) he hpl
/-- [elt for tg in text if ..] -/
theorem xl_compS (f : Nat → Option PyData) (L : Live M H) (hN : X.N.Nodup) (hit : XD X M σ H iter (.str x)) (ok : BlkOk X.N X.env.scope scope own) (hz : x.length ≤ 100000)
    (hst : ∀ p c H1, c ∈ x.cps.toList → H p = none → Same H H1 → Live (p :: M) H1 → BG X scope tg (.str (sg c)) (wipe σ (own.map (·.2))) H1 fun σ2 H2 => wipe σ2 (own.map (·.2)) = wipe σ (own.map (·.2)) ∧ BT X scope ifs σ2 H2 fun k H3 =>
      Same H1 H3 ∧ ((k = true ∧ ∃ d', f c = some d' ∧ BE X scope elt σ2 H3 fun y H4 => Same H3 H4 ∧ Dq X.K (hid (p :: M) H4) y d') ∨ (k = false ∧ f c = none)))
    (hc : X.calm = true := by rfl) (hs : ∀ x, foldedSetIterable iter X.env x = pure x := by intro _; rfl) : XL X M σ H (.ListComp elt [⟨tg, iter, ifs, 0⟩] scope pos) (x.cps.toList.filterMap f) := fun H1 s1 Q q =>
  ⟨_, pe_lc (own := own) hc hN (pi_str re_) ok (fun _ _ _ _ _ => bg_) (fun _ _ _ _ _ => bt_) (fun _ _ _ _ _ => be_) hs, hit H1 s1 _ fun v H2 s2 hv => by
    have L2' : Live M H2 := L.mono (s1.trans s2)
    have ev := dp_str hv
    subst ev
    refine ⟨x, rfl, fun p hp => ?_⟩
    have hp0 : H p = none := (s1.trans s2).free hp
    have hsz : x.cps.toList.length = x.cps.size := by simp
    have hzz : x.cps.size ≤ 100000 := hz
    refine ⟨fun i m Hx => m + i = x.cps.size ∧ Same H2 Hx ∧ ∃ acc, Hx p = some (.lst acc) ∧ DqAll X.K (hid (p :: M) Hx) acc ((x.cps.toList.take i).filterMap f), ⟨x.cps.size, rfl, same_new hp, [], upd_same, by simpa using DqAll.nil⟩, fun i m Hx w => ?_⟩
    obtain ⟨hmi, sx, acc, hacc, hda⟩ := w
    by_cases hlt : i < x.cps.size
    · refine .inr ⟨hlt, fun Hy => Same H2 Hy ∧ ∃ acc, Hy p = some (.lst acc) ∧ DqAll X.K (hid (p :: M) Hy) acc ((x.cps.toList.take (i + 1)).filterMap f), fun Hy hy => ⟨m - 1, by omega, by omega, hy⟩, fun v Hy hyl => ?_⟩
      obtain ⟨rfl, c, hc1, rfl⟩ := hyl
      have hc2 : x.cps.toList[i]? = some c := by rw [Array.getElem?_toList]; exact hc1
      have etake : x.cps.toList.take (i + 1) = x.cps.toList.take i ++ [c] := by rw [List.take_add_one, hc2]; rfl
      have Lp : Live (p :: M) Hy := fun b hb => by
        rcases List.mem_cons.mp hb with z | hb
        · subst z; rw [hacc]; simp
        · exact L2'.mono sx b hb
      refine bg_mono (hst p c Hy (List.mem_of_getElem? hc2) hp0 ((s1.trans s2).trans sx) Lp) fun σ2 Ha ⟨hw, hbt⟩ => ⟨hw, bt_mono hbt fun k Hb ⟨sb, hk⟩ => ?_⟩
      rcases hk with ⟨hk, d', hf, hbe⟩ | ⟨hk, hf⟩
      · subst hk
        refine iteT (be_mono hbe fun y Hc ⟨sc, hy⟩ => ?_)
        have sd := sb.trans sc
        refine ⟨acc, sd _ _ hacc, ?_, fun b o e => ?_, acc ++ [y], upd_same, ?_⟩
        · have h1 : ((x.cps.toList.take i).filterMap f).length ≤ (x.cps.toList.take i).length := List.length_filterMap_le ..
          have h2 : (x.cps.toList.take i).length ≤ i := by rw [List.length_take]; omega
          have h4 : 100000 < sizeLine := by decide
          rw [dpa_len hda]
          omega
        · rw [upd_ne (ne_of_none e hp)]
          exact sd _ _ (sx _ _ e)
        · rw [hid_upd_ne, etake, List.filterMap_append]
          have e2 : [c].filterMap f = [d'] := by simp [hf]
          rw [e2]
          exact dpa_app (hda.up (hid_mono sd)) (.cons hy .nil)
      · subst hk
        refine iteF ⟨sx.trans sb, acc, sb _ _ hacc, ?_⟩
        rw [etake, List.filterMap_append]
        have e2 : [c].filterMap f = [] := by simp [hf]
        rw [e2, List.append_nil]
        exact hda.up (hid_mono sb)
    · have ei : x.cps.toList.take i = x.cps.toList := List.take_of_length_le (by omega)
      rw [ei] at hda
      refine .inl ⟨by show x.cps.size ≤ i; omega, q p acc Hx (s2.trans sx) (s2.free hp) hacc (hda.up fun b o e => ?_)⟩
      have n1 : b ∉ p :: M := fun z => by unfold hid at e; rw [if_pos z] at e; cases e
      rw [hid_of (fun z => n1 (List.mem_cons_of_mem _ z))]
      exact hid_le _ _ e⟩
/-- all([..]) -/
theorem bools_v {K : PySem.W.Frag} {H : Hp} : ∀ {bs : List Bool} {xs : List V}, DqAll K H xs (bs.map PyData.bool) → xs = bs.map V.bl
  | [], _, h => by cases h; rfl
  | n :: ns, _, h => by
    cases h with
    | cons a b => rw [dp_bl a, bools_v b]; rfl
end
/-- the number of two digits -/
theorem two_digits : ∀ i : Fin 10, ∀ j : Fin 10, PySem.intText? ⟨#[48 + i.val, 48 + j.val]⟩ = some ((10 * i.val + j.val : Nat) : Int) := by decide +kernel
end Dl

set_option Elab.async false
set_option linter.all false
set_option maxRecDepth 100000
set_option maxHeartbeats 4000000
namespace Zn
open PySem PySem.Spec PyProof.Rows L2 Dl
/-! k02: things of any kind; is_whole, need_integer, day_of, time_of -/
def top (i : Nat) : Stmt := PySem.Challenge.pw_everyzone_k02_names_days_and_times.main.body.getD i (.Pass ⟨0, 0, 0, 0⟩)
abbrev sXInt : Stmt := inClass (top 2) 0
abbrev sXTime : Stmt := inClass (top 3) 0
abbrev sXText : Stmt := inClass (top 4) 0
abbrev sWhole : Stmt := top 12
abbrev sIsInt : Stmt := top 13
abbrev sIsName : Stmt := top 14
abbrev sIsTime : Stmt := top 15
abbrev sIsTT : Stmt := top 16
abbrev sNeed : Stmt := top 17
abbrev sNeedT : Stmt := top 18
abbrev sDayOf : Stmt := top 19
abbrev sTimeOf : Stmt := top 20
abbrev sReadOf : Stmt := top 21
abbrev sTimeText : Stmt := top 22
abbrev sTimeFrom : Stmt := top 23
/-- built-in names that the module leaves alone -/
structure Nm (mg : Str → Option Value) : Prop where
  isi : mg "isinstance" = none
  int : mg "int" = none
  bool : mg "bool" = none
  str : mg "str" = none
  len : mg "len" = none
  min : mg "min" = none
  max : mg "max" = none
  rep : mg "repr" = none
  rng : mg "range" = none
  all : mg "all" = none
/-- a def of the module -/
structure Df (K : PySem.W.Frag) (mg : Str → Option Value) (x : Str) (st : Stmt) (ps : List Str) (f : Addr) (fd : FuncData) : Prop where
  F : Fun K x x st f fd
  g : mg x = some (.ref f)
  b : Binds K fd ps []
/-- a value of one of these types -/
def tys : List String := ["NoneType", "bool", "int", "str", "list", "tuple", "dict"]
structure Th (K : PySem.W.Frag) (H : Hp) (v : V) (T : String) : Prop where
  ty : ∀ H1, Same H H1 → TyX K H1 v (.type T)
  t : T ∈ tys
  i : ∀ n, v = .int n → T = "int"
  j : T = "int" → ∃ n, v = .int n
  k : ∀ x, v = .str x → T = "str"
  l : T = "str" → ∃ x, v = .str x
theorem Th.up {K : PySem.W.Frag} {H H1 : Hp} {v : V} {T : String} (h : Th K H v T) (s : Same H H1) : Th K H1 v T := ⟨fun H2 s2 => h.ty H2 (s.trans s2), h.t, h.i, h.j, h.k, h.l⟩
theorem th_int {K : PySem.W.Frag} {H : Hp} {n : Int} : Th K H (.int n) "int" := ⟨fun _ _ => .base (.int n), by decide, fun _ _ => rfl, fun _ => ⟨n, rfl⟩, fun _ z => V.noConfusion z, fun z => absurd z (by decide)⟩
theorem th_str {K : PySem.W.Frag} {H : Hp} {x : Str} : Th K H (.str x) "str" := ⟨fun _ _ => .base (.str x), by decide, fun _ z => V.noConfusion z, fun z => absurd z (by decide), fun _ _ => rfl, fun _ => ⟨x, rfl⟩⟩
def intT (T : String) : Bool := decide (T = "int") || decide (T = "bool")
theorem kt_int {T : String} (h : T ∈ tys) : kitB T "int" = some (intT T) := by
  simp only [tys, List.mem_cons, List.not_mem_nil, or_false] at h
  rcases h with e | e | e | e | e | e | e <;> rw [e] <;> decide +kernel
theorem kt_bool {T : String} (h : T ∈ tys) : kitB T "bool" = some (decide (T = "bool")) := by
  simp only [tys, List.mem_cons, List.not_mem_nil, or_false] at h
  rcases h with e | e | e | e | e | e | e <;> rw [e] <;> decide +kernel
theorem kt_str {T : String} (h : T ∈ tys) : kitB T "str" = some (decide (T = "str")) := by
  simp only [tys, List.mem_cons, List.not_mem_nil, or_false] at h
  rcases h with e | e | e | e | e | e | e <;> rw [e] <;> decide +kernel
theorem whole_T (T : String) : (intT T && !decide (T = "bool")) = decide (T = "int") := by
  unfold intT
  by_cases a : T = "bool"
  · subst a; decide
  · rw [decide_eq_false a]; simp
section
variable {X : Cx} {M : List Addr} {σ : L2.St} {H : Hp} {a : Expr} {v : V} {pos p1 p2 : Pos}
/-- isinstance(a, T), a of the type T' -/
theorem xd_isTy {T T' : String} {r : Bool} {nm : Str} (hk : kitB T' T = some r) (hm : X.mg "isinstance" = none) (hmT : X.mg nm = none) (hvT : bootBuiltins nm = some (.type T)) (ha : XV X σ H a v) (hty : ∀ H1, Same H H1 → TyX X.K H1 v (.type T')) (hg : Gl X "isinstance" := by rfl) (hgT : Gl X nm := by rfl) (hnT : nm ≠ "__name__" := by decide) (hdT : (nm == ("__debug__" : Str)) = false := by decide)
    (he : starEach [a, .Name nm p2] X.env = (false, eval a X.env) :: starEach [.Name nm p2] X.env := by rfl) (he2 : starEach [.Name nm p2] X.env = (false, eval (.Name nm p2) X.env) :: starEach [] X.env := by rfl) (hpl : (backTo pos (starEach [.Name nm p2] X.env)).any (·.1) = false := by rfl) :
    XD X M σ H (.Call (.Name "isinstance" p1) [a, .Name nm p2] [] pos) (.bool r) := fun H1 s Q q =>
  re_B call_isi (ra_cons (ha H1 s _ fun H2 s2 => ra_1 (xv_bltn (v := .ty T) hmT hvT rfl hgT hnT hdT H2 (Same.refl _) _ fun H3 s3 =>
    ⟨v, .ty T, _, _, r, rfl, .ty T, hty H3 ((s.trans s2).trans s3), kit_ty hk, q _ H3 (s2.trans s3) (.bl _)⟩) he2) he) hm (by decide +kernel) hg (by decide) (by decide) he hpl
end
section
variable {P : Program} {w : World} {K : PySem.W.Frag} {mg : Str → Option Value} {base : Heap}
/-- a promise that no exception is wanted of holds where none may leave -/
theorem fn0 {k : Nat} {f : Addr} {fd : FuncData} {ps : List Str} {sp : Sp} (F : FnOk P w K mg base (L2.CX P w) k f fd ps sp) : FnOk P w K mg base CX0 k f fd ps (fun vs H Q _ => sp vs H Q fun _ _ _ => False) where
  len := fun vs H Q E h => F.len vs H Q _ h
  run := fun A outer s H args us vs Q E hr e0 hb r h => codeAny_mono (F.run A outer s H args us vs Q (fun _ _ _ => False) hr e0 hb r h) fun r' s' z => by
    cases r' with
    | ok fl => cases fl <;> exact z
    | error e =>
      obtain ⟨a, B, H', cls, d, _, _, _, _, _, _, _, q⟩ := z
      exact q.elim
def spWh (K : PySem.W.Frag) : Sp := fun vs H Q _ => ∃ (v : V) (T : String), vs = [v] ∧ Th K H v T ∧ ∀ H1, Same H H1 → Q (.bl (decide (T = "int"))) H1
theorem scWhole : FnScope ["value"] ["value"] (defScope sWhole) := ⟨rfl, rfl, rfl, by decide +kernel, rfl, by decide +kernel, by decide +kernel⟩
theorem ok_whole {f : Addr} {fd : FuncData} (T : Nm mg) (F : Df K mg "is_whole" sWhole ["value"] f fd) : FnOk P w K mg base CX0 1 f fd ["value"] (spWh K) := by
  refine F.F.ok scWhole (fun vs H Q E h => ?_) (fun cdv A outer s H vs Q E hr h => ?_)
  · obtain ⟨v, T', rfl, _⟩ := h; rfl
  · obtain ⟨v, T', rfl, ht, q⟩ := h
    refine rb_ret (M := []) (xd_and2 (xd_isTy (kt_int ht.t) T.isi T.int (by decide +kernel) (xv_name 0 rfl) ht.ty) fun _ => xd_not (xd_isTy (kt_bool ht.t) T.isi T.bool (by decide +kernel) (xv_name 0 rfl) ht.ty)) fun v1 H1 s1 hv1 => ?_
    rw [dp_bl hv1, whole_T]
    exact q H1 s1
/-- the class's __init__ -/
theorem scXI : FnScope ["self", "value"] ["self", "value"] (defScope sXInt) := ⟨rfl, rfl, rfl, by decide +kernel, rfl, by decide +kernel, by decide +kernel⟩
theorem ok_xint {f C : Addr} {fd : FuncData} (T : OexC K C) (no : PySem.W.findIn K (.ref C) "value" = some none) (F : Fun K "__init__" "InvalidInteger.__init__" sXInt f fd) : FnOk P w K mg base CX0 1 f fd ["self", "value"] (spXI C "value") := by
  refine F.ok scXI (fun vs H Q E h => ?_) (fun cdv A outer s H vs Q E hr h => ?_)
  · obtain ⟨a, v, rfl, _⟩ := h; rfl
  · obtain ⟨a, v, rfl, ha, q⟩ := h
    exact rb_ost T no (xv_name 1 rfl) (xv_name 0 rfl) ha fun H2 s2 dx h1 h2 => rb_nil (q H2 s2 dx h1 h2)
end
end Zn

set_option Elab.async false
set_option linter.all false
set_option maxRecDepth 100000
set_option maxHeartbeats 4000000
namespace Zn
open PySem PySem.Spec PyProof.Rows L2 Dl
/-! k02: need_integer, day_of, time_of, is_integer, is_time, need_time, reading_of -/
section
variable {P : Program} {w : World} {K : PySem.W.Frag} {mg : Str → Option Value} {base : Heap} {CI CT CX' : Addr}
/-- the exception of the class C with the very value v comes out -/
def Out (E : XK) (C : Addr) (v : V) (H : Hp) : Prop := ∀ d H1, Same H H1 → H1 d = some (.xd [(("value" : Str), v)]) → E (.ref C) (some d) H1
theorem Out.up {E : XK} {C : Addr} {v : V} {H H1 : Hp} (h : Out E C v H) (s : Same H H1) : Out E C v H1 := fun d H2 s2 e => h d H2 (s.trans s2) e
def spNeedI (K : PySem.W.Frag) (C : Addr) : Sp := fun vs H Q E => ∃ (v : V) (T : String), vs = [v] ∧ Th K H v T ∧ (T = "int" → ∀ H1, Same H H1 → Q .non H1) ∧ (T ≠ "int" → Out E C v H)
theorem scNeed : FnScope ["value"] ["value"] (defScope sNeed) := ⟨rfl, rfl, rfl, by decide +kernel, rfl, by decide +kernel, by decide +kernel⟩
theorem ok_needI {f fW fI : Addr} {fd fdW fdI : FuncData} (Y : XCls P w K mg base "InvalidInteger" "value" CI fI fdI) (GW : FnOk P w K mg base CX0 1 fW fdW ["value"] (spWh K)) (FW : Df K mg "is_whole" sWhole ["value"] fW fdW) (F : Df K mg "need_integer" sNeed ["value"] f fd) : FnOk P w K mg base (L2.CX P w) 3 f fd ["value"] (spNeedI K CI) := by
  refine F.F.okX scNeed (fun vs H Q E h => ?_) (fun cdv A outer s H vs Q E hr h => ?_)
  · obtain ⟨v, T, rfl, _⟩ := h; rfl
  · obtain ⟨v, T, rfl, ht, q1, q2⟩ := h
    have hr1 := hr.mono (show 1 ≤ 2 by decide)
    have tk : Takes (cxOf (L2.CX P w) P w K mg base ["value"] "need_integer" (defScope sNeed) f cdv A outer s H E) (fun cls d _ H => E cls d H) := takes_of rfl rfl rfl rfl
    show RB (cxOf (L2.CX P w) P w K mg base ["value"] "need_integer" (defScope sNeed) f cdv A outer s H E) (defBody sNeed) _ _ H
    refine rb_ifR ⟨_, pt_not rt_, _, pt_val re_ (by intro _; rfl), re_call GW hr1 FW.g FW.F.kp FW.b (ra_1 (XV.go (xv_name 0 rfl) fun H1 s1 => ⟨v, T, rfl, ht.up s1, fun H2 s2 => ⟨_, rfl, ?_⟩⟩))⟩
    by_cases c : T = "int"
    · rw [decide_eq_true c]
      exact iteF (rb_nil (rb_nil (q1 c H2 (s1.trans s2))))
    · rw [decide_eq_false c]
      exact iteT (rb_raise Y hr tk (XV.go (xv_name 0 rfl) fun H3 s3 d H4 s4 e => q2 c d H4 (((s1.trans s2).trans s3).trans s4) e))
/-- day_of, time_of: f of the number, or the exception -/
def spOf (K : PySem.W.Frag) (C : Addr) (g : Int → Int) : Sp := fun vs H Q E => ∃ (v : V) (T : String), vs = [v] ∧ Th K H v T ∧ (T = "int" → ∃ n : Int, v = .int n ∧ ∀ H1, Same H H1 → Q (.int (g n)) H1) ∧ (T ≠ "int" → Out E C v H)
theorem scDayOf : FnScope ["reading"] ["reading"] (defScope sDayOf) := ⟨rfl, rfl, rfl, by decide +kernel, rfl, by decide +kernel, by decide +kernel⟩
theorem scTimeOf : FnScope ["reading"] ["reading"] (defScope sTimeOf) := ⟨rfl, rfl, rfl, by decide +kernel, rfl, by decide +kernel, by decide +kernel⟩
theorem cdivN {m n : Int} (h : 0 < n) (h2 : n.natAbs < 2 ^ 200) : CDivW m n := wide_div h h2 (by decide) (by decide)
theorem ok_dayOf {f fN : Addr} {fd fdN : FuncData} (hD : ∃ t, mg "DAY_LENGTH" = some (.int 1440 t)) (GN : FnOk P w K mg base (L2.CX P w) 3 fN fdN ["value"] (spNeedI K CI)) (FN : Df K mg "need_integer" sNeed ["value"] fN fdN) (F : Df K mg "day_of" sDayOf ["reading"] f fd) : FnOk P w K mg base (L2.CX P w) 4 f fd ["reading"] (spOf K CI fun n => n / 1440) := by
  obtain ⟨tk0, hD⟩ := hD
  refine F.F.okX scDayOf (fun vs H Q E h => ?_) (fun cdv A outer s H vs Q E hr h => ?_)
  · obtain ⟨v, T, rfl, _⟩ := h; rfl
  · obtain ⟨v, T, rfl, ht, q1, q2⟩ := h
    have tk : Takes (cxOf (L2.CX P w) P w K mg base ["reading"] "day_of" (defScope sDayOf) f cdv A outer s H E) (fun cls d _ H => E cls d H) := takes_of rfl rfl rfl rfl
    show RB (cxOf (L2.CX P w) P w K mg base ["reading"] "day_of" (defScope sDayOf) f cdv A outer s H E) (defBody sDayOf) _ _ H
    refine rb_exprR (re_callX GN hr tk FN.g FN.F.kp FN.b (ra_1 (XV.go (xv_name 0 rfl) fun H1 s1 => ⟨v, T, rfl, ht.up s1, fun c H2 s2 => ?_, fun c => (q2 c).up s1⟩)))
    obtain ⟨n, rfl, q⟩ := q1 c
    exact rb_ret (M := []) (xd_bin (M := []) op_fdivW (xv_name 0 rfl).int (xv_glob (v := .int 1440) hD ⟨tk0, rfl⟩).int fun H3 v w s3 hv hw Q q => ⟨n, 1440, dp_int hv, dp_int hw, cdivN (by decide) (by decide), q _ H3 (Same.refl _) (.int _)⟩) fun v3 H3 s3 hv3 => by
      rw [dp_int hv3]; exact q H3 ((s1.trans s2).trans s3)
theorem ok_timeOf {f fN : Addr} {fd fdN : FuncData} (hD : ∃ t, mg "DAY_LENGTH" = some (.int 1440 t)) (GN : FnOk P w K mg base (L2.CX P w) 3 fN fdN ["value"] (spNeedI K CI)) (FN : Df K mg "need_integer" sNeed ["value"] fN fdN) (F : Df K mg "time_of" sTimeOf ["reading"] f fd) : FnOk P w K mg base (L2.CX P w) 4 f fd ["reading"] (spOf K CI fun n => n % 1440) := by
  obtain ⟨tk0, hD⟩ := hD
  refine F.F.okX scTimeOf (fun vs H Q E h => ?_) (fun cdv A outer s H vs Q E hr h => ?_)
  · obtain ⟨v, T, rfl, _⟩ := h; rfl
  · obtain ⟨v, T, rfl, ht, q1, q2⟩ := h
    have tk : Takes (cxOf (L2.CX P w) P w K mg base ["reading"] "time_of" (defScope sTimeOf) f cdv A outer s H E) (fun cls d _ H => E cls d H) := takes_of rfl rfl rfl rfl
    show RB (cxOf (L2.CX P w) P w K mg base ["reading"] "time_of" (defScope sTimeOf) f cdv A outer s H E) (defBody sTimeOf) _ _ H
    refine rb_exprR (re_callX GN hr tk FN.g FN.F.kp FN.b (ra_1 (XV.go (xv_name 0 rfl) fun H1 s1 => ⟨v, T, rfl, ht.up s1, fun c H2 s2 => ?_, fun c => (q2 c).up s1⟩)))
    obtain ⟨n, rfl, q⟩ := q1 c
    exact rb_ret (M := []) (xd_binI op_mod (xv_name 0 rfl).int (xv_glob (v := .int 1440) hD ⟨tk0, rfl⟩).int (by decide)) fun v3 H3 s3 hv3 => by
      rw [dp_int hv3]; exact q H3 ((s1.trans s2).trans s3)
/-! is_integer, is_time -/
/-- l <= x <= h, as a value -/
theorem xd_chainV {X : Cx} {M : List Addr} {σ : L2.St} {H : Hp} {a b c : Expr} {pos : Pos} {op op' : CmpOp} {g g' : Int → Int → Bool} {l m n : Int} (ho : OpR X (compareOp op) (rI0 fun i j => .bl (g i j))) (ho' : OpR X (compareOp op') (rI0 fun i j => .bl (g' i j))) (ha : XD X M σ H a (.int l)) (hb : XD X M σ H b (.int m)) (hc : XD X M σ H c (.int n))
    (hm : lastMarks [op, op'] [b, c] = false := by with_unfolding_all rfl) : XD X M σ H (.Compare a [op, op'] [b, c] pos) (.bool (g l m && g' m n)) := fun H1 s Q q =>
  ⟨_, pe_chain ho ho' re_ re_ re_ hm, ha H1 s _ fun v H2 s2 hv => hb H2 (s.trans s2) _ fun u H3 s3 hu => ⟨l, m, dp_int hv, dp_int hu, g l m, rfl, by
    cases e : g l m with
    | false =>
      rw [e] at q
      exact iteF (q _ H3 (s2.trans s3) (.bl _))
    | true =>
      rw [e] at q
      exact iteT (hc H3 ((s.trans s2).trans s3) _ fun y H4 s4 hy => ⟨m, n, dp_int hu, dp_int hy, q _ H4 ((s2.trans s3).trans s4) (.bl _)⟩)⟩⟩
def spIsInt (K : PySem.W.Frag) : Sp := fun vs H Q _ => ∃ (v : V) (T : String) (lo hi : Int), vs = [v, .int lo, .int hi] ∧ Th K H v T ∧ (T = "int" → ∃ n : Int, v = .int n ∧ ∀ H1, Same H H1 → Q (.bl (decide (lo ≤ n) && decide (n ≤ hi))) H1) ∧ (T ≠ "int" → ∀ H1, Same H H1 → Q (.bl false) H1)
theorem scIsInt : FnScope ["value", "low", "high"] ["value", "low", "high"] (defScope sIsInt) := ⟨rfl, rfl, rfl, by decide +kernel, rfl, by decide +kernel, by decide +kernel⟩
theorem xd_whole {X : Cx} {M : List Addr} {σ : L2.St} {H : Hp} {e : Expr} {pos p1 : Pos} {v : V} {T : String} {f : Addr} {fd : FuncData} (G : FnOk X.prog X.w X.K X.mg X.base CX0 1 f fd ["value"] (spWh X.K)) (hr : Room 1 X.A) (FF : Df X.K X.mg "is_whole" sWhole ["value"] f fd) (ho : XV X σ H e v) (ht : Th X.K H v T) (hg : Gl X "is_whole" := by rfl)
    (he : starEach [e] X.env = (false, eval e X.env) :: starEach [] X.env := by rfl) (hpl : (backTo pos (starEach [] X.env)).any (·.1) = false := by rfl) : XD X M σ H (.Call (.Name "is_whole" p1) [e] [] pos) (.bool (decide (T = "int"))) := fun H1 s Q q =>
  re_call G hr FF.g FF.F.kp FF.b (ra_1 (ho H1 s _ fun H2 s2 => ⟨v, T, rfl, ht.up (s.trans s2), fun H3 s3 => q _ H3 (s2.trans s3) (.bl _)⟩) he) hg (by decide) he hpl
theorem ok_isInt {f fW : Addr} {fd fdW : FuncData} (GW : FnOk P w K mg base CX0 1 fW fdW ["value"] (spWh K)) (FW : Df K mg "is_whole" sWhole ["value"] fW fdW) (F : Df K mg "is_integer" sIsInt ["value", "low", "high"] f fd) : FnOk P w K mg base CX0 2 f fd ["value", "low", "high"] (spIsInt K) := by
  refine F.F.ok scIsInt (fun vs H Q E h => ?_) (fun cdv A outer s H vs Q E hr h => ?_)
  · obtain ⟨v, T, lo, hi, rfl, _⟩ := h; rfl
  · obtain ⟨v, T, lo, hi, rfl, ht, q1, q2⟩ := h
    by_cases c : T = "int"
    · obtain ⟨n, rfl, q⟩ := q1 c
      refine rb_ret (M := []) (xd_andT ((xd_whole GW hr FW (xv_name 0 rfl) ht).to (by rw [decide_eq_true c])) (xd_one (xd_chainV op_le op_le (xv_name 1 rfl).int (xv_name 0 rfl).int (xv_name 2 rfl).int))) fun v1 H1 s1 hv1 => ?_
      rw [dp_bl hv1]; exact q H1 s1
    · refine rb_ret (M := []) (xd_andF ((xd_whole GW hr FW (xv_name 0 rfl) ht).to (by rw [decide_eq_false c]))) fun v1 H1 s1 hv1 => ?_
      rw [dp_bl hv1]; exact q2 c H1 s1
def timeB (n : Int) : Bool := decide ((0 : Int) ≤ n) && decide (n ≤ 1440 - 1)
def spIsTime (K : PySem.W.Frag) : Sp := fun vs H Q _ => ∃ (v : V) (T : String), vs = [v] ∧ Th K H v T ∧ (T = "int" → ∃ n : Int, v = .int n ∧ ∀ H1, Same H H1 → Q (.bl (timeB n)) H1) ∧ (T ≠ "int" → ∀ H1, Same H H1 → Q (.bl false) H1)
theorem scIsTime : FnScope ["value"] ["value"] (defScope sIsTime) := ⟨rfl, rfl, rfl, by decide +kernel, rfl, by decide +kernel, by decide +kernel⟩
theorem ok_isTime {f fI : Addr} {fd fdI : FuncData} (hD : ∃ t, mg "DAY_LENGTH" = some (.int 1440 t)) (GI : FnOk P w K mg base CX0 2 fI fdI ["value", "low", "high"] (spIsInt K)) (FI : Df K mg "is_integer" sIsInt ["value", "low", "high"] fI fdI) (F : Df K mg "is_time" sIsTime ["value"] f fd) : FnOk P w K mg base CX0 3 f fd ["value"] (spIsTime K) := by
  obtain ⟨tk, hD⟩ := hD
  refine F.F.ok scIsTime (fun vs H Q E h => ?_) (fun cdv A outer s H vs Q E hr h => ?_)
  · obtain ⟨v, T, rfl, _⟩ := h; rfl
  · obtain ⟨v, T, rfl, ht, q1, q2⟩ := h
    refine rb_retR (re_call GI hr FI.g FI.F.kp FI.b (ra_cons (XV.go (xv_name 0 rfl) fun H1 s1 => ra_cons (XV.go xv_int fun H2 s2 => ra_1 (XD.go (M := []) (xd_sub (xv_glob (v := .int 1440) hD ⟨tk, rfl⟩).int xd_int) fun v3 H3 s3 hv3 => ?_)))))
    rw [dp_int hv3]
    have s13 := (s1.trans s2).trans s3
    exact ⟨v, T, 0, 1440 - 1, rfl, ht.up s13, fun c => by
      obtain ⟨n, rfl, q⟩ := q1 c
      exact ⟨n, rfl, fun H4 s4 => q H4 (s13.trans s4)⟩, fun c H4 s4 => q2 c H4 (s13.trans s4)⟩
/-! need_time, reading_of -/
def okTime (v : V) : Prop := ∃ n : Int, v = .int n ∧ 0 ≤ n ∧ n ≤ 1439
def spNeedT (K : PySem.W.Frag) (C : Addr) : Sp := fun vs H Q E => ∃ (v : V) (T : String), vs = [v] ∧ Th K H v T ∧ (T = "int" → ∃ n : Int, v = .int n) ∧ (okTime v → ∀ H1, Same H H1 → Q .non H1) ∧ (¬ okTime v → Out E C v H)
theorem scNeedT : FnScope ["value"] ["value"] (defScope sNeedT) := ⟨rfl, rfl, rfl, by decide +kernel, rfl, by decide +kernel, by decide +kernel⟩
theorem time_ok {n : Int} : timeB n = true ↔ okTime (.int n) := by
  unfold timeB okTime
  rw [Bool.and_eq_true, decide_eq_true_eq, decide_eq_true_eq]
  constructor
  · rintro ⟨a, b⟩; exact ⟨n, rfl, a, by omega⟩
  · rintro ⟨m, e, a, b⟩
    cases e
    exact ⟨a, by omega⟩
end
end Zn

set_option Elab.async false
set_option linter.all false
set_option maxRecDepth 100000
set_option maxHeartbeats 4000000
namespace Zn
open PySem PySem.Spec PyProof.Rows L2 Dl
/-! k02: need_time, reading_of, time_text -/
theorem two_len : ∀ i : Fin 60, (two (i.val : Int)).length = 2 := by decide +kernel
theorem two_len' {i : Int} (h0 : 0 ≤ i) (h1 : i < 60) : (two i).length = 2 := by
  have e := two_len ⟨i.toNat, by omega⟩
  have e2 : ((i.toNat : Nat) : Int) = i := Int.toNat_of_nonneg h0
  rw [← e2]
  exact e
def ttext (t : Int) : Str := ((Str.empty ++ two (t / 60)) ++ (":" : Str)) ++ two (t % 60)
section
variable {P : Program} {w : World} {K : PySem.W.Frag} {mg : Str → Option Value} {base : Heap} {CI CT : Addr}
theorem ok_needT {f fI fX : Addr} {fd fdI fdX : FuncData} (Y : XCls P w K mg base "InvalidTime" "value" CT fX fdX) (GI : FnOk P w K mg base CX0 3 fI fdI ["value"] (spIsTime K)) (FI : Df K mg "is_time" sIsTime ["value"] fI fdI) (F : Df K mg "need_time" sNeedT ["value"] f fd) : FnOk P w K mg base (L2.CX P w) 4 f fd ["value"] (spNeedT K CT) := by
  refine F.F.okX scNeedT (fun vs H Q E h => ?_) (fun cdv A outer s H vs Q E hr h => ?_)
  · obtain ⟨v, T, rfl, _⟩ := h; rfl
  · obtain ⟨v, T, rfl, ht, qi, q1, q2⟩ := h
    have hr2 := hr.mono (show 2 ≤ 3 by decide)
    have tk : Takes (cxOf (L2.CX P w) P w K mg base ["value"] "need_time" (defScope sNeedT) f cdv A outer s H E) (fun cls d _ H => E cls d H) := takes_of rfl rfl rfl rfl
    show RB (cxOf (L2.CX P w) P w K mg base ["value"] "need_time" (defScope sNeedT) f cdv A outer s H E) (defBody sNeedT) _ _ H
    refine rb_ifR ⟨_, pt_not rt_, _, pt_val re_ (by intro _; rfl), re_call GI hr FI.g FI.F.kp FI.b (ra_1 (XV.go (xv_name 0 rfl) fun H1 s1 => ⟨v, T, rfl, ht.up s1, fun c => ?_, fun c H2 s2 => ⟨false, rfl, iteT (rb_raise Y hr2 tk (XV.go (xv_name 0 rfl) fun H3 s3 d H4 s4 e => q2 ?_ d H4 (((s1.trans s2).trans s3).trans s4) e))⟩⟩))⟩
    · obtain ⟨n, rfl⟩ := qi c
      refine ⟨n, rfl, fun H2 s2 => ⟨_, rfl, ?_⟩⟩
      cases e : timeB n with
      | true => exact iteF (rb_nil (rb_nil (q1 (time_ok.mp e) H2 (s1.trans s2))))
      | false => exact iteT (rb_raise Y hr2 tk (XV.go (xv_name 0 rfl) fun H3 s3 d H4 s4 e2 => q2 (fun z => by rw [time_ok.mpr z] at e; cases e) d H4 (((s1.trans s2).trans s3).trans s4) e2))
    · rintro ⟨n, rfl, _, _⟩
      exact c (ht.i n rfl)
def spReadOf (K : PySem.W.Frag) (CI CT : Addr) : Sp := fun vs H Q E => ∃ (v u : V) (T U : String), vs = [v, u] ∧ Th K H v T ∧ Th K H u U ∧ (T ≠ "int" → Out E CI v H) ∧ (T = "int" → ¬ okTime u → Out E CT u H) ∧ (∀ d t : Int, v = .int d → u = .int t → 0 ≤ t → t ≤ 1439 → ∀ H1, Same H H1 → Q (.int (d * 1440 + t)) H1)
theorem scReadOf : FnScope ["day", "time"] ["day", "time"] (defScope sReadOf) := ⟨rfl, rfl, rfl, by decide +kernel, rfl, by decide +kernel, by decide +kernel⟩
theorem ok_readOf {f fN fT : Addr} {fd fdN fdT : FuncData} (hD : ∃ t, mg "DAY_LENGTH" = some (.int 1440 t)) (GN : FnOk P w K mg base (L2.CX P w) 3 fN fdN ["value"] (spNeedI K CI)) (FN : Df K mg "need_integer" sNeed ["value"] fN fdN) (GT : FnOk P w K mg base (L2.CX P w) 4 fT fdT ["value"] (spNeedT K CT)) (FT : Df K mg "need_time" sNeedT ["value"] fT fdT)
    (F : Df K mg "reading_of" sReadOf ["day", "time"] f fd) : FnOk P w K mg base (L2.CX P w) 5 f fd ["day", "time"] (spReadOf K CI CT) := by
  obtain ⟨tk0, hD⟩ := hD
  refine F.F.okX scReadOf (fun vs H Q E h => ?_) (fun cdv A outer s H vs Q E hr h => ?_)
  · obtain ⟨v, u, T, U, rfl, _⟩ := h; rfl
  · obtain ⟨v, u, T, U, rfl, ht, hu, q1, q2, q3⟩ := h
    have hr3 := hr.mono (show 3 ≤ 4 by decide)
    have tk : Takes (cxOf (L2.CX P w) P w K mg base ["day", "time"] "reading_of" (defScope sReadOf) f cdv A outer s H E) (fun cls d _ H => E cls d H) := takes_of rfl rfl rfl rfl
    show RB (cxOf (L2.CX P w) P w K mg base ["day", "time"] "reading_of" (defScope sReadOf) f cdv A outer s H E) (defBody sReadOf) _ _ H
    refine rb_exprR (re_callX GN hr3 tk FN.g FN.F.kp FN.b (ra_1 (XV.go (xv_name 0 rfl) fun H1 s1 => ⟨v, T, rfl, ht.up s1, fun c H2 s2 => ?_, fun c => (q1 c).up s1⟩)))
    refine rb_exprR (re_callX GT hr tk FT.g FT.F.kp FT.b (ra_1 (XV.go (xv_name 1 rfl) fun H3 s3 => ⟨u, U, rfl, hu.up ((s1.trans s2).trans s3), hu.j, fun c2 H4 s4 => ?_, fun c2 => (q2 c c2).up ((s1.trans s2).trans s3)⟩)))
    obtain ⟨d, rfl⟩ := ht.j c
    obtain ⟨t, rfl, t0, t1⟩ := c2
    exact rb_ret (M := []) (xd_add (xd_mul (xv_name 0 rfl).int (xv_glob (v := .int 1440) hD ⟨tk0, rfl⟩).int (.inr (by decide))) (xv_name 1 rfl).int) fun v5 H5 s5 hv5 => by
      rw [dp_int hv5]; exact q3 d t rfl rfl t0 t1 H5 ((((s1.trans s2).trans s3).trans s4).trans s5)
def spTText (K : PySem.W.Frag) (C : Addr) : Sp := fun vs H Q E => ∃ (v : V) (T : String), vs = [v] ∧ Th K H v T ∧ (∀ t : Int, v = .int t → 0 ≤ t → t ≤ 1439 → ∀ H1, Same H H1 → Q (.str (ttext t)) H1) ∧ (¬ okTime v → Out E C v H)
theorem scTText : FnScope ["time", "hours", "minutes"] ["time"] (defScope sTimeText) := ⟨rfl, rfl, rfl, by decide +kernel, rfl, by decide +kernel, by decide +kernel⟩
theorem ok_ttext {f fT : Addr} {fd fdT : FuncData} (hH : ∃ t, mg "HOUR_LENGTH" = some (.int 60 t)) (GT : FnOk P w K mg base (L2.CX P w) 4 fT fdT ["value"] (spNeedT K CT)) (FT : Df K mg "need_time" sNeedT ["value"] fT fdT)
    (F : Df K mg "time_text" sTimeText ["time"] f fd) : FnOk P w K mg base (L2.CX P w) 5 f fd ["time"] (spTText K CT) := by
  obtain ⟨tk0, hH⟩ := hH
  refine F.F.okX scTText (fun vs H Q E h => ?_) (fun cdv A outer s H vs Q E hr h => ?_)
  · obtain ⟨v, T, rfl, _⟩ := h; rfl
  · obtain ⟨v, T, rfl, ht, q1, q2⟩ := h
    have tk : Takes (cxOf (L2.CX P w) P w K mg base ["time", "hours", "minutes"] "time_text" (defScope sTimeText) f cdv A outer s H E) (fun cls d _ H => E cls d H) := takes_of rfl rfl rfl rfl
    show RB (cxOf (L2.CX P w) P w K mg base ["time", "hours", "minutes"] "time_text" (defScope sTimeText) f cdv A outer s H E) (defBody sTimeText) _ _ H
    refine rb_exprR (re_callX GT hr tk FT.g FT.F.kp FT.b (ra_1 (XV.go (xv_name 0 rfl) fun H1 s1 => ⟨v, T, rfl, ht.up s1, ht.j, fun c H2 s2 => ?_, fun c => (q2 c).up s1⟩)))
    obtain ⟨t, rfl, t0, t1⟩ := c
    refine rb_set 1 (M := []) (xd_bin (M := []) (d := .int (t / 60)) op_fdivW (xv_name 0 rfl).int (xv_glob (v := .int 60) hH ⟨tk0, rfl⟩).int fun H3 v w s3 hv hw Q q => ⟨t, 60, dp_int hv, dp_int hw, cdivN (by decide) (by decide), q _ H3 (Same.refl _) (.int _)⟩) (fun v3 H3 s3 hv3 => ?_) scTText.nd
    have e3 := dp_int hv3
    subst e3
    refine rb_set 2 (M := []) (xd_binI op_mod (xv_name 0 rfl).int (xv_glob (v := .int 60) hH ⟨tk0, rfl⟩).int (by decide)) (fun v4 H4 s4 hv4 => ?_) scTText.nd
    have e4 := dp_int hv4
    subst e4
    have a1 := two_len' (i := t / 60) (by omega) (by omega)
    have a2 := two_len' (i := t % 60) (by omega) (by omega)
    have l1 : (Str.empty ++ two (t / 60)).length = 2 := by rw [Str.empty_append]; exact a1
    refine rb_retR ⟨_, pe_joined (.cons (pe_fmt2 re_) (.cons pe_str (.cons (pe_fmt2 re_) .nil))), XV.go (xv_name 1 rfl) fun H5 s5 => ⟨t / 60, rfl, by omega, by omega, _, rfl, by rw [l1]; decide, _, rfl, ?_, XV.go (xv_name 2 rfl) fun H6 s6 => ⟨t % 60, rfl, by omega, by omega, _, rfl, ?_, ?_⟩⟩⟩
    · rw [Str.length_append, l1]; decide
    · rw [Str.length_append, Str.length_append, l1, a2]; decide
    · exact q1 t rfl t0 t1 H6 (((((s1.trans s2).trans s3).trans s4).trans s5).trans s6)
end
end Zn

set_option Elab.async false
set_option linter.all false
set_option maxRecDepth 100000
set_option maxHeartbeats 4000000
namespace Dl
open PySem PySem.Spec PyProof.Rows L2
section
variable {X : Cx} {M : List Addr} {σ : L2.St} {H : Hp} {e a b : Expr} {pos p1 p2 : Pos} {k1 k2 : Bool}
theorem xd_all {bs : List Bool} (hm : X.mg "all" = none) (ha : XD X M σ H e (.list (bs.map PyData.bool))) (hc : X.calm = true := by rfl) (hg : Gl X "all" := by rfl)
    (he : starEach [e] X.env = (false, eval e X.env) :: starEach [] X.env := by rfl) (hpl : (backTo p2 (starEach [] X.env)).any (·.1) = false := by rfl) : XD X M σ H (.Call (.Name "all" p1) [e] [] p2) (.bool (bs.all id)) := fun H1 s1 Q q =>
  re_B (cr_all hc) (ra_1 (ha H1 s1 _ fun v H2 s2 hv => by
    obtain ⟨a, xs, rfl, ha, hx⟩ := dp_lst hv
    have ex := bools_v hx
    subst ex
    exact ⟨a, bs, rfl, SqL.of (hid_le _ _ ha), q _ H2 s2 (.bl _)⟩) he) hm (by decide +kernel) hg (by decide) (by decide) he hpl
theorem xd_or2 (ha : XD X M σ H a (.bool k1)) (hb : XD X M σ H b (.bool k2)) : XD X M σ H (.BoolOp .Or [a, b] pos) (.bool (k1 || k2)) := by
  cases k1 with
  | true => exact xd_orT ha
  | false => exact xd_orF ha (xd_one hb)
end
end Dl
namespace Zn
open PySem PySem.Spec PyProof.Rows L2 Dl
/-! k02: is_name, is_time_text, time_from -/
def letS : Str := "abcdefghijklmnopqrstuvwxyz"
def digS : Str := "0123456789"
def lets : List Nat := letS.cps.toList
def digs : List Nat := digS.cps.toList
def nameB (x : Str) : Bool := (decide ((1 : Int) ≤ x.length) && decide ((x.length : Int) ≤ 8)) && ((match x.cps.toList.head? with | some c => decide (c ∈ lets) | none => false) && x.cps.toList.all fun c => decide (c ∈ lets) || decide (c ∈ digs))
theorem all_map (x : List Nat) (g : Nat → Bool) : x.filterMap (fun c => some (PyData.bool (g c))) = (x.map g).map PyData.bool := by
  induction x with
  | nil => rfl
  | cons c x ih => rw [List.filterMap_cons, List.map_cons, List.map_cons, ← ih]
theorem all_id (x : List Nat) (g : Nat → Bool) : (x.map g).all id = x.all g := by rw [List.all_map]; rfl
section
variable {P : Program} {w : World} {K : PySem.W.Frag} {mg : Str → Option Value} {base : Heap} {CT : Addr}
def spName (K : PySem.W.Frag) : Sp := fun vs H Q _ => ∃ (v : V) (T : String), vs = [v] ∧ Th K H v T ∧ (∀ x, v = .str x → x.length ≤ 1000 ∧ ∀ H1, Same H H1 → Q (.bl (nameB x)) H1) ∧ (T ≠ "str" → ∀ H1, Same H H1 → Q (.bl false) H1)
theorem scIsName : FnScope ["value", "sign"] ["value"] (defScope sIsName) := ⟨rfl, rfl, rfl, by decide +kernel, rfl, by decide +kernel, by decide +kernel⟩
theorem ok_isName {f : Addr} {fd : FuncData} (T : Nm mg) (hN : ∃ t, mg "LONGEST_NAME" = some (.int 8 t)) (hL : ∃ t, mg "LETTERS" = some (.str letS t)) (hD : ∃ t, mg "DIGITS" = some (.str digS t)) (F : Df K mg "is_name" sIsName ["value"] f fd) : FnOk P w K mg base CX0 1 f fd ["value"] (spName K) := by
  obtain ⟨t1, hN⟩ := hN
  obtain ⟨t2, hL⟩ := hL
  obtain ⟨t3, hD⟩ := hD
  refine F.F.ok scIsName (fun vs H Q E h => ?_) (fun cdv A outer s H vs Q E hr h => ?_)
  · obtain ⟨v, T', rfl, _⟩ := h; rfl
  · obtain ⟨v, T', rfl, ht, q1, q2⟩ := h
    by_cases c : T' = "str"
    · obtain ⟨x, rfl⟩ := ht.l c
      obtain ⟨hz, q⟩ := q1 x rfl
      refine rb_if (k := !(decide ((1 : Int) ≤ x.length) && decide ((x.length : Int) ≤ 8))) ((xt_or2 (k1 := false) ((xt_not (xt_val (M := []) (k := true) (xd_isTy (by rw [kt_str ht.t, decide_eq_true c]) T.isi T.str (by decide +kernel) (xv_name 0 rfl) ht.ty))).to rfl) fun _ => xt_not (xt_chainI (M := []) op_le op_le xd_int (xd_lenStr T.len (xd_name 0 rfl (.str x)) (by omega)) (xv_glob (v := .int 8) hN ⟨t1, rfl⟩).int)).to (Bool.false_or _)) (fun e H1 s1 => ?_) (fun e H1 s1 => rb_nil ?_)
      · have e0 : nameB x = false := by
          unfold nameB
          cases z : (decide ((1 : Int) ≤ x.length) && decide ((x.length : Int) ≤ 8)) with
          | true => rw [z] at e; cases e
          | false => rfl
        exact rb_ret (M := []) xd_bl fun v2 H2 s2 hv2 => by rw [dp_bl hv2, ← e0]; exact q H2 (s1.trans s2)
      · have e1 : (decide ((1 : Int) ≤ x.length) && decide ((x.length : Int) ≤ 8)) = true := by simpa using e
        have hlen : 1 ≤ x.length := by
          rw [Bool.and_eq_true] at e1
          have := of_decide_eq_true e1.1
          omega
        obtain ⟨c0, cs, hcs⟩ : ∃ c0 cs, x.cps.toList = c0 :: cs := by
          cases z : x.cps.toList with
          | nil =>
            have hz0 : x.length = 0 := by show x.cps.size = 0; rw [← Array.length_toList, z]; rfl
            omega
          | cons c0 cs => exact ⟨c0, cs, rfl⟩
        refine rb_ret (M := []) (d := .bool (decide (c0 ∈ lets) && x.cps.toList.all fun c => decide (c ∈ lets) || decide (c ∈ digs))) (xd_and2 (xd_inSg (xd_ixS (c := c0) (fun _ _ => rfl) (xd_name 0 rfl (.str x)) xd_int (by omega) (by rw [hcs]; unfold atI ixN; simp)) ((xv_glob (v := .str letS) hL ⟨t2, rfl⟩).dd (.str _))) fun _ => (xd_all T.all (XL.dd ((xl_compS (own := [("sign", 1)]) (fun c => some (PyData.bool (decide (c ∈ lets) || decide (c ∈ digs)))) Live.nil scIsName.nd (xd_name 0 rfl (.str x))
          (blkOk_by (own := [("sign", 1)]) (N := ["value", "sign"]) (sc := defScope sIsName) (by decide +kernel)) (by omega) (fun p c H2 hc hp s2 Lp => ?comp)).to (all_map _ _)) Live.nil)).to (by rw [all_id])) fun v3 H3 s3 hv3 => ?_
        case comp =>
          intro s0 H0 C0 cl fp
          refine rg_name 1 ⟨rfl, bt_nil ⟨Same.refl _, .inl ⟨rfl, _, rfl, fun s0 H0 C0 cl fp => ?_⟩⟩⟩ scIsName.nd
          exact XD.go (xd_or2 (xd_inSg (xd_name 1 rfl (.str _)) ((xv_glob (v := .str letS) hL ⟨t2, rfl⟩).dd (.str _))) (xd_inSg (xd_name 1 rfl (.str _)) ((xv_glob (v := .str digS) hD ⟨t3, rfl⟩).dd (.str _)))) fun v H4 s4 hv4 => ⟨s4, hv4⟩
        have e2 : nameB x = (decide (c0 ∈ lets) && x.cps.toList.all fun c => decide (c ∈ lets) || decide (c ∈ digs)) := by
          unfold nameB
          rw [e1, hcs]
          rfl
        rw [dp_bl hv3, ← e2]
        exact q H3 (s1.trans s3)
    · refine rb_ifT ((xt_or2 (k1 := true) (k2 := false) ((xt_not (xt_val (M := []) (k := false) (xd_isTy (by rw [kt_str ht.t, decide_eq_false c]) T.isi T.str (by decide +kernel) (xv_name 0 rfl) ht.ty))).to rfl) fun z => absurd z (by decide)).to rfl) fun H1 s1 => ?_
      exact rb_ret (M := []) xd_bl fun v2 H2 s2 hv2 => by rw [dp_bl hv2]; exact q2 c H2 (s1.trans s2)
end
end Zn

set_option Elab.async false
set_option linter.all false
set_option maxRecDepth 100000
set_option maxHeartbeats 4000000
namespace Zn
open PySem PySem.Spec PyProof.Rows L2 Dl
/-! k02: is_time_text, time_from -/
def num2 (a b : Nat) : Int := 10 * ((a : Int) - 48) + ((b : Int) - 48)
/-- the time of a text HH:MM -/
def ttV (x : Str) : Option Int := match x.cps.toList with
  | [a, b, c, d, e] => if c = 58 ∧ (a ∈ digs ∧ b ∈ digs ∧ d ∈ digs ∧ e ∈ digs) ∧ (num2 a b < 24 ∧ num2 d e < 60) then some (num2 a b * 60 + num2 d e) else none
  | _ => none
theorem dig_at {a : Nat} (h : a ∈ digs) : ∃ i : Fin 10, a = 48 + i.val := by
  have e : digs = [48, 49, 50, 51, 52, 53, 54, 55, 56, 57] := by decide +kernel
  rw [e] at h
  simp only [List.mem_cons, List.not_mem_nil, or_false] at h
  rcases h with h | h | h | h | h | h | h | h | h | h <;> rw [h]
  · exact ⟨0, rfl⟩
  · exact ⟨1, rfl⟩
  · exact ⟨2, rfl⟩
  · exact ⟨3, rfl⟩
  · exact ⟨4, rfl⟩
  · exact ⟨5, rfl⟩
  · exact ⟨6, rfl⟩
  · exact ⟨7, rfl⟩
  · exact ⟨8, rfl⟩
  · exact ⟨9, rfl⟩
theorem int_two {a b : Nat} (ha : a ∈ digs) (hb : b ∈ digs) : PySem.intText? ⟨#[a, b]⟩ = some (num2 a b) := by
  obtain ⟨i, rfl⟩ := dig_at ha
  obtain ⟨j, rfl⟩ := dig_at hb
  rw [two_digits i j]
  unfold num2
  congr 1
  omega
theorem five {x : Str} (h : x.length = 5) : ∃ a b c d e, x = ⟨#[a, b, c, d, e]⟩ := by
  obtain ⟨arr⟩ := x
  obtain ⟨l⟩ := arr
  have hl : l.length = 5 := h
  match l, hl with
  | [a, b, c, d, e], _ => exact ⟨a, b, c, d, e, rfl⟩
theorem cut_lo {a b c d e : Nat} : cutS ⟨#[a, b, c, d, e]⟩ none (some 2) = ⟨#[a, b]⟩ := rfl
theorem cut_hi {a b c d e : Nat} : cutS ⟨#[a, b, c, d, e]⟩ (some 3) none = ⟨#[d, e]⟩ := rfl
theorem cat4 {a b d e : Nat} : (⟨#[a, b]⟩ : Str) ++ ⟨#[d, e]⟩ = ⟨#[a, b, d, e]⟩ := rfl
section
variable {P : Program} {w : World} {K : PySem.W.Frag} {mg : Str → Option Value} {base : Heap} {CX' : Addr}
def spTT (K : PySem.W.Frag) : Sp := fun vs H Q _ => ∃ (v : V) (T : String), vs = [v] ∧ Th K H v T ∧ (∀ x, v = .str x → x.length ≤ 1000 ∧ ∀ H1, Same H H1 → Q (.bl (ttV x).isSome) H1) ∧ (T ≠ "str" → ∀ H1, Same H H1 → Q (.bl false) H1)
theorem scTT : FnScope ["value", "sign"] ["value"] (defScope sIsTT) := ⟨rfl, rfl, rfl, by decide +kernel, rfl, by decide +kernel, by decide +kernel⟩
theorem xt_or3T1 {X : Cx} {σ : L2.St} {H : Hp} {a b c : Expr} {pos : Pos} (ha : XT X σ H a true) : XT X σ H (.BoolOp .Or [a, b, c] pos) true := (xw_orT ha).t
theorem xt_or3 {X : Cx} {σ : L2.St} {H : Hp} {a b c : Expr} {pos : Pos} {k1 k2 k3 : Bool} (ha : XT X σ H a k1) (hb : k1 = false → XT X σ H b k2) (hc : k1 = false → k2 = false → XT X σ H c k3) : XT X σ H (.BoolOp .Or [a, b, c] pos) (k1 || (k2 || k3)) := by
  cases k1 with
  | true => exact (xw_orT ha).t
  | false =>
    cases k2 with
    | true => exact (xw_orF ha (xw_orT (hb rfl))).t
    | false => exact (xw_orF ha (xw_orF (hb rfl) (xw_or1 (hc rfl rfl)))).t
theorem ok_isTT {f : Addr} {fd : FuncData} (T : Nm mg) (hD : ∃ t, mg "DIGITS" = some (.str digS t)) (hH : ∃ t, mg "DAY_HOURS" = some (.int 24 t)) (hM : ∃ t, mg "HOUR_LENGTH" = some (.int 60 t)) (F : Df K mg "is_time_text" sIsTT ["value"] f fd) : FnOk P w K mg base CX0 1 f fd ["value"] (spTT K) := by
  obtain ⟨t1, hD⟩ := hD
  obtain ⟨t2, hH⟩ := hH
  obtain ⟨t3, hM⟩ := hM
  refine F.F.ok scTT (fun vs H Q E h => ?_) (fun cdv A outer s H vs Q E hr h => ?_)
  · obtain ⟨v, T', rfl, _⟩ := h; rfl
  · obtain ⟨v, T', rfl, ht, q1, q2⟩ := h
    by_cases c : T' = "str"
    · obtain ⟨x, rfl⟩ := ht.l c
      obtain ⟨hz, q⟩ := q1 x rfl
      by_cases h5 : x.length = 5
      · obtain ⟨a, b, m, d, e, rfl⟩ := five h5
        refine rb_if (k := !decide (m = 58)) ((xt_or3 (k1 := false) (k2 := false) ((xt_not (xt_val (M := []) (k := true) (xd_isTy (by rw [kt_str ht.t, decide_eq_true c]) T.isi T.str (by decide +kernel) (xv_name 0 rfl) ht.ty))).to rfl) (fun _ => (xt_neI (M := []) (xd_lenStr T.len (xd_name 0 rfl (.str _)) (by omega)) xd_int).to rfl) fun _ _ => xt_neS (M := []) (x := sg m) (y := ":") (xd_ixS (c := m) (fun _ _ => rfl) (xd_name 0 rfl (.str _)) xd_int (by omega) rfl) xd_str).to ?_) (fun ek H1 s1 => ?_) (fun ek H1 s1 => rb_nil ?_)
        · show (!decide (sg m = ":")) = !decide (m = 58)
          congr 1
          by_cases z : m = 58
          · subst z; decide +kernel
          · rw [decide_eq_false z, decide_eq_false fun y => z (by
              have y2 : sg m = sg 58 := y
              unfold sg at y2
              injection y2 with y3
              simpa using y3)]
        · have e0 : (ttV ⟨#[a, b, m, d, e]⟩).isSome = false := by
            have z : ¬ m = 58 := by simpa using ek
            show (if m = 58 ∧ _ ∧ _ then some _ else none).isSome = false
            rw [if_neg fun y => z y.1]
            rfl
          exact rb_ret (M := []) xd_bl fun v2 H2 s2 hv2 => by rw [dp_bl hv2, ← e0]; exact q H2 (s1.trans s2)
        · have em : m = 58 := by simpa using ek
          have hcut : ∀ {Hx : Hp} {p1 p2 p3 p4 p5 p6 p7 p8 p9 : Pos} {j1 j2 : Nat}, XD (cxOf CX0 P w K mg base ["value", "sign"] "is_time_text" (defScope sIsTT) f cdv A outer s H E).nox [] [some (.str ⟨#[a, b, m, d, e]⟩), none] Hx (.BinOp (.Subscript (.Name "value" p1) (.Slice none (some (.Constant (.int 2) j1 p2)) none p3) p4) .Add (.Subscript (.Name "value" p5) (.Slice (some (.Constant (.int 3) j2 p6)) none none p7) p8) p9) (.str ⟨#[a, b, d, e]⟩) :=
            (xd_addS (xd_cutS (xd_name 0 rfl (.str ⟨#[a, b, m, d, e]⟩)) xo_none (xo_some (M := []) xd_int) (by show 5 ≤ 100000; decide)) (xd_cutS (xd_name 0 rfl (.str ⟨#[a, b, m, d, e]⟩)) (xo_some (M := []) xd_int) xo_none (by show 5 ≤ 100000; decide)) (by show 2 + 2 ≤ 100000; decide)).to rfl
          refine rb_if (k := !([a, b, d, e].all fun c => decide (c ∈ digs))) ((xt_not (xt_val (M := []) (k := [a, b, d, e].all fun c => decide (c ∈ digs)) ((xd_all T.all (XL.dd ((xl_compS (own := [("sign", 1)]) (x := ⟨#[a, b, d, e]⟩) (fun c => some (PyData.bool (decide (c ∈ digs)))) Live.nil scTT.nd hcut
            (blkOk_by (own := [("sign", 1)]) (N := ["value", "sign"]) (sc := defScope sIsTT) (by decide +kernel)) (by show 4 ≤ 100000; decide) (fun p c H2 hc hp s2 Lp => ?comp)).to (all_map _ _)) Live.nil)).to (by rw [all_id])))).to rfl) (fun ed H2 s2 => ?_) (fun ed H2 s2 => rb_nil ?_)
          case comp =>
            intro s0 H0 C0 cl fp
            refine rg_name 1 ⟨rfl, bt_nil ⟨Same.refl _, .inl ⟨rfl, _, rfl, fun s0 H0 C0 cl fp => ?_⟩⟩⟩ scTT.nd
            exact XD.go (xd_inSg (xd_name 1 rfl (.str _)) ((xv_glob (v := .str digS) hD ⟨t1, rfl⟩).dd (.str _))) fun v H4 s4 hv4 => ⟨s4, hv4⟩
          · have e0 : (ttV ⟨#[a, b, m, d, e]⟩).isSome = false := by
              show (if m = 58 ∧ (a ∈ digs ∧ b ∈ digs ∧ d ∈ digs ∧ e ∈ digs) ∧ _ then some _ else none).isSome = false
              rw [if_neg fun y => ?_]
              · rfl
              · obtain ⟨_, ⟨y1, y2, y3, y4⟩, _⟩ := y
                simp [y1, y2, y3, y4] at ed
            exact rb_ret (M := []) xd_bl fun v2 H3 s3 hv3 => by rw [dp_bl hv3, ← e0]; exact q H3 ((s1.trans s2).trans s3)
          · have dg : a ∈ digs ∧ b ∈ digs ∧ d ∈ digs ∧ e ∈ digs := by simpa using ed
            obtain ⟨da, db, dd', de⟩ := dg
            refine rb_ret (M := []) (xd_and2 (xd_cmpI op_lt (xd_intS T.int (xd_cutS (xd_name 0 rfl (.str _)) xo_none (xo_some (M := []) xd_int) (by omega)) (by rw [cut_lo]; exact int_two da db) (by show 2 ≤ 640; decide)) (xv_glob (v := .int 24) hH ⟨t2, rfl⟩).int) fun _ => xd_cmpI op_lt (xd_intS T.int (xd_cutS (xd_name 0 rfl (.str _)) (xo_some (M := []) xd_int) xo_none (by omega)) (by rw [cut_hi]; exact int_two dd' de) (by show 2 ≤ 640; decide)) (xv_glob (v := .int 60) hM ⟨t3, rfl⟩).int) fun v3 H3 s3 hv3 => ?_
            have e0 : (ttV ⟨#[a, b, m, d, e]⟩).isSome = (decide (num2 a b < 24) && decide (num2 d e < 60)) := by
              show (if m = 58 ∧ (a ∈ digs ∧ b ∈ digs ∧ d ∈ digs ∧ e ∈ digs) ∧ (num2 a b < 24 ∧ num2 d e < 60) then some _ else none).isSome = _
              by_cases z : num2 a b < 24 ∧ num2 d e < 60
              · rw [if_pos ⟨em, ⟨da, db, dd', de⟩, z⟩, decide_eq_true z.1, decide_eq_true z.2]; rfl
              · rw [if_neg fun y => z y.2.2]
                by_cases z1 : num2 a b < 24
                · rw [decide_eq_true z1, decide_eq_false fun y => z ⟨z1, y⟩]; rfl
                · rw [decide_eq_false z1]; rfl
            rw [dp_bl hv3, ← e0]
            exact q H3 ((s1.trans s2).trans s3)
      · have e0 : (ttV x).isSome = false := by
          unfold ttV
          split
          · rename_i a b m d e hx
            exfalso
            refine h5 ?_
            show x.cps.size = 5
            rw [← Array.length_toList, hx]; rfl
          · rfl
        refine rb_ifT ((xt_or3 (k1 := false) (k2 := true) (k3 := true) ((xt_not (xt_val (M := []) (k := true) (xd_isTy (by rw [kt_str ht.t, decide_eq_true c]) T.isi T.str (by decide +kernel) (xv_name 0 rfl) ht.ty))).to rfl) (fun _ => (xt_neI (M := []) (xd_lenStr T.len (xd_name 0 rfl (.str _)) (by omega)) xd_int).to (by rw [decide_eq_false (by omega)]; rfl)) fun _ z => absurd z (by decide)).to rfl) fun H1 s1 => ?_
        exact rb_ret (M := []) xd_bl fun v2 H2 s2 hv2 => by rw [dp_bl hv2, ← e0]; exact q H2 (s1.trans s2)
    · refine rb_ifT ((xt_or3 (k1 := true) (k2 := false) (k3 := false) ((xt_not (xt_val (M := []) (k := false) (xd_isTy (by rw [kt_str ht.t, decide_eq_false c]) T.isi T.str (by decide +kernel) (xv_name 0 rfl) ht.ty))).to rfl) (fun z => absurd z (by decide)) fun z _ => absurd z (by decide)).to rfl) fun H1 s1 => ?_
      exact rb_ret (M := []) xd_bl fun v2 H2 s2 hv2 => by rw [dp_bl hv2]; exact q2 c H2 (s1.trans s2)
end
end Zn

set_option Elab.async false
set_option linter.all false
set_option maxRecDepth 100000
set_option maxHeartbeats 4000000
namespace Zn
open PySem PySem.Spec PyProof.Rows L2 Dl
section
variable {X : Cx} {M : List Addr} {σ : L2.St} {H H' : Hp} {e a b o ie : Expr} {d : PyData} {ds : List PyData} {pos p1 p2 p3 : Pos} {D : Ends} {rest : List Stmt} {v : V} {xs : List V}
/-! ### lists by the values themselves -/
theorem xv_lenS {p : Addr} (hm : X.mg "len" = none) (ha : XV X σ H e (.ref p)) (hS : SqL X.K H p xs) (hg : Gl X "len" := by rfl) (he : starEach [e] X.env = (false, eval e X.env) :: starEach [] X.env := by rfl) (hpl : (backTo pos (starEach [] X.env)).any (·.1) = false := by rfl) :
    XV X σ H (.Call (.Name "len" p1) [e] [] pos) (.int xs.length) := fun H1 s Q q =>
  re_B call_len_seq (ra_1 (ha H1 s _ fun H2 s2 => ⟨p, xs, rfl, .inl ((s.trans s2).seq hS), q H2 s2⟩) he) hm PySem.boot_len hg (by decide) (by decide) he hpl
theorem xv_ixS {p : Addr} {n : Int} (hs : PlainIx b) (ha : XV X σ H a (.ref p)) (hS : SqL X.K H p xs) (hb : XV X σ H b (.int n)) (h : atI xs n = some v) : XV X σ H (.Subscript a b pos) v := fun H1 s Q q =>
  ⟨_, pe_ix ix_list re_ re_ hs, ha H1 s _ fun H2 s2 => hb H2 (s.trans s2) _ fun H3 s3 => ⟨p, xs, n, v, rfl, rfl, ((s.trans s2).trans s3).seq hS, h, q H3 (s2.trans s3)⟩⟩
/-- o[i] = e -/
theorem rb_setIx {l : Addr} {n : Int} {j : Nat} (hl : H l = some (.lst xs)) (he : XD X M σ H e d) (ho : XV X σ H o (.ref l)) (hi : XV X σ H ie (.int n)) (hj : ixN xs.length n = some j) (k : ∀ v H1, Same H H1 → Dq X.K (hid M H1) v d → RB X rest D σ (upd H1 l (.lst (xs.set j v))))
    (hs : swapsWithSole [.Subscript o ie p1] e pos.line X.env = pure false := by rfl) (hw : swappedStores [.Subscript o ie p1] e X.env = pure none := by rfl) (h1 : (assignEach [.Subscript o ie p1] X.env).map (·.2) = [assign (.Subscript o ie p1) X.env] := by rfl)
    (hg : PG X (.Subscript o ie p1) (gSub (RE X o) (RE X ie) rSetL) := by exact pg_sub re_ re_ set_list) : RB X (.Assign [.Subscript o ie p1] e pos :: rest) D σ H :=
  rb_asgR (he.go fun v H1 s1 hv => ⟨_, hg, ho H1 s1 _ fun H2 s2 => hi H2 (s1.trans s2) _ fun H3 s3 => ⟨l, xs, n, j, rfl, rfl, ((s1.trans s2).trans s3) _ _ hl, hj, k v H3 ((s1.trans s2).trans s3) (hv.up (hid_mono (s2.trans s3)))⟩⟩) hs hw h1
theorem xd_pow {m n : Int} (ha : XD X M σ H a (.int m)) (hb : XD X M σ H b (.int n)) (hc : CPow m n) : XD X M σ H (.BinOp a .Pow b pos) (.int (m ^ n.toNat)) := xd_binI op_pow ha hb hc
theorem xd_mod {m n : Int} (ha : XD X M σ H a (.int m)) (hb : XD X M σ H b (.int n)) (hc : 0 < n) : XD X M σ H (.BinOp a .Mod b pos) (.int (m % n)) := xd_binI op_mod ha hb hc
theorem xd_div {m n : Int} (ha : XD X M σ H a (.int m)) (hb : XD X M σ H b (.int n)) (hc : CDivW m n) : XD X M σ H (.BinOp a .FloorDiv b pos) (.int (m / n)) := xd_binI op_fdivW ha hb hc
end
abbrev sCell : Stmt := top 25
abbrev sBag : Stmt := top 26
abbrev sTake : Stmt := top 27
/-- the bag: a great rest, a seed, a count up to n -/
def BagAt (H : Hp) (b : Addr) (n : Nat) : Prop := ∃ (g m c : Int), H b = some (.lst [.int g, .int m, .int c]) ∧ 0 ≤ m ∧ m < 2147483648 ∧ 0 ≤ c ∧ c ≤ n
theorem BagAt.up {H H' : Hp} {b : Addr} {n n' : Nat} (h : BagAt H b n) (s : Same H H') (hn : n ≤ n') : BagAt H' b n' := by
  obtain ⟨g, m, c, h1, h2, h3, h4, h5⟩ := h
  exact ⟨g, m, c, s _ _ h1, h2, h3, h4, by omega⟩
/-- all but b stands -/
def SameB (b : Addr) (H H' : Hp) : Prop := ∀ a o, a ≠ b → H a = some o → H' a = some o
theorem SameB.of {b : Addr} {H H' : Hp} (s : Same H H') : SameB b H H' := fun a o _ e => s a o e
theorem SameB.trans {b : Addr} {H H1 H2 : Hp} (s : SameB b H H1) (t : SameB b H1 H2) : SameB b H H2 := fun a o n e => t a o n (s a o n e)
theorem SameB.upd {b : Addr} {H H' : Hp} {o : HO} (s : SameB b H H') : SameB b H (upd H' b o) := fun a u n e => by rw [upd_ne n]; exact s a u n e
theorem SameB.hid {b : Addr} {M : List Addr} {H H' : Hp} (s : SameB b H H') (h : b ∈ M) : Same (hid M H) (hid M H') := fun a o e => by
  have n : a ∉ M := fun z => by unfold Dl.hid at e; rw [if_pos z] at e; cases e
  have nb : a ≠ b := fun z => n (z ▸ h)
  rw [hid_of n]
  exact s a o nb (hid_le _ _ e)
theorem SameB.live {b : Addr} {M : List Addr} {H H' : Hp} (s : SameB b H H') (L : Live M H) (hb : H' b ≠ none) : Live M H' := fun a ha z => by
  by_cases e : a = b
  · subst e; exact hb z
  · cases q : H a with
    | none => exact L a ha q
    | some o => rw [s a o e q] at z; cases z
theorem BagAt.some {H : Hp} {b : Addr} {n : Nat} (h : BagAt H b n) : H b ≠ none := by
  obtain ⟨g, m, c, h1, _⟩ := h
  rw [h1]; simp
def spCell (K : PySem.W.Frag) : Sp := fun vs H Q _ => ∃ (a : Addr) (ns : List Int) (j : Nat), vs = [.ref a, .int j] ∧ SqL K H a (ns.map V.int) ∧ ∀ (n : Int) H1, Same H H1 → Q (.int n) H1
def spBag : Sp := fun vs H Q _ => ∃ (n : Int), vs = [.int n] ∧ ∀ b H1, Same H H1 → H b = none → BagAt H1 b 0 → Q (.ref b) H1
def spTake : Sp := fun vs H Q _ => ∃ (b : Addr) (many : Int) (n : Nat), vs = [.ref b, .int many] ∧ 0 < many ∧ many.natAbs < 2 ^ 200 ∧ n ≤ 1000000 ∧ BagAt H b n ∧
  ∀ (r : Int) H1, 0 ≤ r → r < many → SameB b H H1 → BagAt H1 b (n + 1) → Q (.int r) H1
section
variable {P : Program} {w : World} {K : PySem.W.Frag} {mg : Str → Option Value} {base : Heap}
theorem scCell : FnScope ["_law_script", "_law_k"] ["_law_script", "_law_k"] (defScope sCell) := ⟨rfl, rfl, rfl, by decide +kernel, rfl, by decide +kernel, by decide +kernel⟩
theorem ok_cell {f : Addr} {fd : FuncData} (T : Nm mg) (F : Df K mg "_law_cell" sCell ["_law_script", "_law_k"] f fd) : FnOk P w K mg base CX0 1 f fd ["_law_script", "_law_k"] (spCell K) := by
  refine F.F.ok scCell (fun vs H Q E h => ?_) (fun cdv A outer s H vs Q E hr h => ?_)
  · obtain ⟨a, ns, j, rfl, _⟩ := h; rfl
  · obtain ⟨a, ns, j, rfl, hS, q⟩ := h
    refine rb_if (xt_cmpI (M := []) op_lt (xv_name 1 rfl).int (xv_lenS T.len (xv_name 0 rfl) hS).int) (fun e H1 s1 => ?_) (fun e H1 s1 => rb_nil ?_)
    · have hj : j < ns.length := by
        have z := of_decide_eq_true e
        rw [List.length_map] at z
        omega
      have ha : atI (ns.map V.int) ((j : Nat) : Int) = some (V.int ns[j]) := atI_nat (by rw [List.getElem?_map, List.getElem?_eq_getElem hj]; rfl)
      exact rb_retR (XV.go (xv_ixS (fun _ _ => rfl) (xv_name 0 rfl) (s1.seq hS) (xv_name 1 rfl) ha) fun H2 s2 => q _ H2 (s1.trans s2))
    · exact rb_ret (M := []) (xd_add (xd_mul xd_int (xv_name 1 rfl).int (.inl ⟨by decide, by decide⟩)) xd_int) fun v H2 s2 hv => by
        rw [dp_int hv]
        exact q _ H2 (s1.trans s2)
theorem scBag : FnScope ["_law_cell_here"] ["_law_cell_here"] (defScope sBag) := ⟨rfl, rfl, rfl, by decide +kernel, rfl, by decide +kernel, by decide +kernel⟩
theorem ok_bag {f : Addr} {fd : FuncData} (T : Nm mg) (F : Df K mg "_law_box" sBag ["_law_cell_here"] f fd) : FnOk P w K mg base CX0 1 f fd ["_law_cell_here"] spBag := by
  refine F.F.ok scBag (fun vs H Q E h => ?_) (fun cdv A outer s H vs Q E hr h => ?_)
  · obtain ⟨n, rfl, _⟩ := h; rfl
  · obtain ⟨n, rfl, q⟩ := h
    refine rb_retR (XL.go (M := []) (xl_lst Live.nil (xa_cons (xd_max T.max (xa_cons xd_int (xa_cons (xd_sub (xv_name 0 rfl).int (xd_pow xd_int xd_int ⟨by decide, by decide, by decide⟩)) xa_nil))) (xa_cons (xd_mod (xv_name 0 rfl).int xd_int (by decide)) (xa_cons xd_int xa_nil)))) fun p xs H1 s1 hp h1 hx => ?_)
    cases hx with
    | cons a1 hx => cases hx with
      | cons a2 hx => cases hx with
        | cons a3 hx =>
          cases hx
          rw [dp_int a1, dp_int a2, dp_int a3] at h1
          exact q p H1 s1 hp ⟨_, _, _, h1, by omega, by omega, by decide, by decide⟩
theorem scTake : FnScope ["_law_box_here", "_law_many", "_law_digit", "_law_mixed"] ["_law_box_here", "_law_many"] (defScope sTake) := ⟨rfl, rfl, rfl, by decide +kernel, rfl, by decide +kernel, by decide +kernel⟩
theorem cdiv0 {m n : Int} (h : 0 < n) (h2 : n.natAbs < 2 ^ 200) : CDivW m n := wide_div h h2 (by decide) (by decide)
theorem ok_take {f : Addr} {fd : FuncData} (F : Df K mg "_law_take" sTake ["_law_box_here", "_law_many"] f fd) : FnOk P w K mg base CX0 1 f fd ["_law_box_here", "_law_many"] spTake := by
  refine F.F.ok scTake (fun vs H Q E h => ?_) (fun cdv A outer s H vs Q E hr h => ?_)
  · obtain ⟨b, many, n, rfl, _⟩ := h; rfl
  · obtain ⟨b, many, n, rfl, hm, hm2, hn, ⟨g, m, c, hb, m0, m1, c0, c1⟩, q⟩ := h
    have at0 : ∀ {x y z : V}, atI [x, y, z] 0 = some x := fun {x y z} => rfl
    have at1 : ∀ {x y z : V}, atI [x, y, z] 1 = some y := fun {x y z} => rfl
    have at2 : ∀ {x y z : V}, atI [x, y, z] 2 = some z := fun {x y z} => rfl
    refine rb_if (xt_cmpI (M := []) op_gt (xv_ixS (fun _ _ => rfl) (xv_name 0 rfl) (SqL.of hb) xv_int at0).int xd_int) (fun e H1 s1 => ?_) (fun e H1 s1 => rb_nil ?_)
    · have hb1 := s1 _ _ hb
      refine rb_set 2 (M := []) (xd_mod (xv_ixS (fun _ _ => rfl) (xv_name 0 rfl) (SqL.of hb1) xv_int at0).int (xv_name 1 rfl).int hm) (fun v H2 s2 hv => ?_) scTake.nd
      have ev := dp_int hv
      subst ev
      have hb2 := s2 _ _ hb1
      refine rb_setIx (M := []) (n := 0) (j := 0) hb2 (xd_div (xv_ixS (fun _ _ => rfl) (xv_name 0 rfl) (SqL.of hb2) xv_int at0).int (xv_name 1 rfl).int (cdiv0 hm hm2)) (xv_name 0 rfl) xv_int rfl fun v H3 s3 hv => ?_
      have ev := dp_int hv
      subst ev
      refine rb_retR (XV.go (xv_name 2 rfl) fun H4 s4 => q _ H4 (Int.emod_nonneg _ (by omega)) (Int.emod_lt_of_pos _ hm) ((((SameB.of s1).trans (.of s2)).trans (.of s3)).upd.trans (.of s4)) ⟨g / many, m, c, s4 _ _ upd_same, m0, m1, c0, by omega⟩)
    · have hb1 := s1 _ _ hb
      refine rb_setIx (M := []) (n := 2) (j := 2) hb1 (xd_add (xv_ixS (fun _ _ => rfl) (xv_name 0 rfl) (SqL.of hb1) xv_int at2).int xd_int) (xv_name 0 rfl) xv_int rfl fun v H2 s2 hv => ?_
      have ev := dp_int hv
      subst ev
      have hb3 : upd H2 b (.lst [V.int g, V.int m, V.int (c + 1)]) b = some (.lst [V.int g, V.int m, V.int (c + 1)]) := upd_same
      have sB : SameB b H (upd H2 b (.lst [V.int g, V.int m, V.int (c + 1)])) := ((SameB.of s1).trans (.of s2)).upd
      show RB _ _ _ _ (upd H2 b (.lst [V.int g, V.int m, V.int (c + 1)]))
      generalize upd H2 b (.lst [V.int g, V.int m, V.int (c + 1)]) = H3 at hb3 sB
      refine rb_set 3 (M := []) (xd_mod (xd_pow (xd_add (xd_add (xv_ixS (fun _ _ => rfl) (xv_name 0 rfl) (SqL.of hb3) xv_int at1).int (xd_mul xd_int (xv_ixS (fun _ _ => rfl) (xv_name 0 rfl) (SqL.of hb3) xv_int at2).int (.inl ⟨by decide, by decide⟩))) xd_int) xd_int ⟨by decide, by decide, by omega⟩) xd_int (by decide)) (fun v H4 s4 hv => ?_) scTake.nd
      have ev := dp_int hv
      subst ev
      generalize hx : ((m + 179424691 * (c + 1) + 563) ^ (5 : Int).toNat % 2147483647 : Int) = x1
      have x0 : 0 ≤ x1 := by rw [← hx]; exact Int.emod_nonneg _ (by decide)
      have x2 : x1 < 2147483647 := by rw [← hx]; exact Int.emod_lt_of_pos _ (by decide)
      have hb4 := s4 _ _ hb3
      refine rb_set 3 (M := []) (xd_mod (xd_pow (xd_add (xv_name 3 rfl).int (xd_mul xd_int (xv_ixS (fun _ _ => rfl) (xv_name 0 rfl) (SqL.of hb4) xv_int at2).int (.inl ⟨by decide, by decide⟩))) xd_int ⟨by decide, by decide, by omega⟩) xd_int (by decide)) (fun v H5 s5 hv => ?_) scTake.nd
      have ev := dp_int hv
      subst ev
      refine rb_ret (M := []) (xd_mod (xd_div (xv_name 3 rfl).int xd_int (cdiv0 (by decide) (by decide))) (xv_name 1 rfl).int hm) fun v H6 s6 hv => ?_
      rw [dp_int hv]
      exact q _ H6 (Int.emod_nonneg _ (by omega)) (Int.emod_lt_of_pos _ hm) (((sB.trans (.of s4)).trans (.of s5)).trans (.of s6)) ⟨g, m, c + 1, s6 _ _ (s5 _ _ hb4), m0, m1, by omega, by omega⟩
end
end Zn

set_option Elab.async false
set_option linter.all false
set_option maxRecDepth 100000
set_option maxHeartbeats 8000000
namespace Zn
open PySem PySem.Spec PyProof.Rows L2 Dl
/-! ### plans -/
section
variable {X : Cx} {M : List Addr} {σ : L2.St} {H H' : Hp} {e a b o ie : Expr} {es : List Expr} {d : PyData} {ds : List PyData} {pos p1 p2 p3 : Pos} {D : Ends} {rest : List Stmt} {v : V} {xs : List V} {Q : VK}
theorem re_bin {op : Operator} {r : R2} (ho : OpR X (binaryOp op) r) (h : RE X a σ H fun x H1 => RE X b σ H1 fun y H2 => r x y H2 Q) : RE X (.BinOp a op b pos) σ H Q := ⟨_, pe_op ho re_ re_, h⟩
theorem re_addI (h : RE X a σ H fun x H1 => ∃ i, x = .int i ∧ RE X b σ H1 fun y H2 => ∃ j, y = .int j ∧ Q (.int (i + j)) H2) : RE X (.BinOp a .Add b pos) σ H Q :=
  re_bin op_add (re_mono h fun x H1 ⟨i, ei, h1⟩ => re_mono h1 fun y H2 ⟨j, ej, q⟩ => ⟨i, j, ei, ej, q⟩)
theorem re_subI (h : RE X a σ H fun x H1 => ∃ i, x = .int i ∧ RE X b σ H1 fun y H2 => ∃ j, y = .int j ∧ Q (.int (i - j)) H2) : RE X (.BinOp a .Sub b pos) σ H Q :=
  re_bin op_sub (re_mono h fun x H1 ⟨i, ei, h1⟩ => re_mono h1 fun y H2 ⟨j, ej, q⟩ => ⟨i, j, ei, ej, q⟩)
theorem re_mulI (h : RE X a σ H fun x H1 => ∃ i, x = .int i ∧ (-(2 ^ 64) < i ∧ i < 2 ^ 64) ∧ RE X b σ H1 fun y H2 => ∃ j, y = .int j ∧ Q (.int (i * j)) H2) : RE X (.BinOp a .Mult b pos) σ H Q :=
  re_bin op_mul (re_mono h fun x H1 ⟨i, ei, hi, h1⟩ => re_mono h1 fun y H2 ⟨j, ej, q⟩ => ⟨i, j, ei, ej, .inl hi, q⟩)
theorem at_menu {ms : List Int} {r : Int} (h0 : 0 ≤ r) (h1 : r.toNat < ms.length) : atI (ms.map V.int) r = some (V.int (ms[r.toNat])) := by
  have h : atI (ms.map V.int) ((r.toNat : Nat) : Int) = some (V.int (ms[r.toNat])) := atI_nat (by rw [List.getElem?_map, List.getElem?_eq_getElem h1]; rfl)
  rw [Int.toNat_of_nonneg h0] at h
  exact h
/-- [ints][e] -/
theorem re_menu {esl : List Expr} {n : Nat} (hs : PlainIx b) (hn : n ≤ 1000) (h : RA X esl σ H fun vs H1 => ∃ ms : List Int, vs = ms.map V.int ∧ ms.length = n ∧ ∀ l, H1 l = none → RE X b σ (upd H1 l (.lst vs)) fun y H3 => ∃ r : Int, y = .int r ∧ 0 ≤ r ∧ r < n ∧ H3 l = some (.lst vs) ∧ ∀ z, z ∈ ms → Q (.int z) H3) :
    RE X (.Subscript (.List esl p1) b pos) σ H Q :=
  ⟨_, pe_ix ix_list (pe_lst ra_) re_ hs, ra_mono h fun vs H1 ⟨ms, e1, e2, k⟩ => ⟨by rw [e1, List.length_map, e2]; exact Nat.le_trans hn (by decide), fun l hl => re_mono (k l hl) fun y H3 ⟨r, ey, r0, r1, h3, q⟩ => by
    subst ey
    have hlt : r.toNat < ms.length := by omega
    exact ⟨l, vs, r, .int (ms[r.toNat]), rfl, rfl, SqL.of h3, by rw [e1]; exact at_menu r0 hlt, q _ (List.getElem_mem hlt)⟩⟩⟩
theorem ra_int {n : Int} {Q : List V → Hp → Prop} (h : XV X σ H e (.int n)) (k : ∀ H1, Same H H1 → RA X es σ H1 fun vs H2 => Q (.int n :: vs) H2) (hs : starEach (e :: es) X.env = (false, eval e X.env) :: starEach es X.env := by rfl) : RA X (e :: es) σ H Q := ra_cons (h.go fun H1 s => k H1 s) hs
theorem re_int {n : Int} (h : XV X σ H e (.int n)) (k : ∀ H1, Same H H1 → Q (.int n) H1) : RE X e σ H Q := h.go k
end
/-- a draw -/
theorem re_take {X : Cx} {σ : L2.St} {H : Hp} {o e : Expr} {pos p1 : Pos} {Q : VK} {k n : Nat} {f b : Addr} {fd : FuncData} {many : Int} (G : FnOk X.prog X.w X.K X.mg X.base CX0 k f fd ["_law_box_here", "_law_many"] spTake) (F : Df X.K X.mg "_law_take" sTake ["_law_box_here", "_law_many"] f fd) (hr : Room k X.A)
    (ho : XV X σ H o (.ref b)) (he : XV X σ H e (.int many)) (hB : BagAt H b n) (q : ∀ (r : Int) H1, 0 ≤ r → r < many → SameB b H H1 → BagAt H1 b (n + 1) → Q (.int r) H1) (h0 : 0 < many := by decide) (h1 : many.natAbs < 2 ^ 200 := by decide) (hn : n ≤ 1000000 := by omega) (hg : Gl X "_law_take" := by rfl)
    (hs : starEach [o, e] X.env = (false, eval o X.env) :: starEach [e] X.env := by rfl) (hs2 : starEach [e] X.env = (false, eval e X.env) :: starEach [] X.env := by rfl) (hpl : (backTo pos (starEach [e] X.env)).any (·.1) = false := by rfl) : RE X (.Call (.Name "_law_take" p1) [o, e] [] pos) σ H Q :=
  re_call G hr F.g F.F.kp F.b (ra_cons (ho.go fun H1 s1 => ra_1 ((he.up s1).go fun H2 s2 => ⟨b, many, n, rfl, h0, h1, hn, hB.up (s1.trans s2) (Nat.le_refl _), fun r H3 r0 r1 sB hB3 => q r H3 r0 r1 ((SameB.of (s1.trans s2)).trans sB) hB3⟩) hs2) hs) hg (by decide) hs hpl
theorem sameB_new {b l : Addr} {H : Hp} {o : HO} (h : H l = none) : SameB b H (upd H l o) := SameB.of (same_new h)
theorem bag_new {H : Hp} {b l : Addr} {n : Nat} {o : HO} (h : BagAt H b n) (hl : H l = none) : BagAt (upd H l o) b n := h.up (same_new hl) (Nat.le_refl _)
theorem bag_sameB {H H' : Hp} {b : Addr} {n : Nat} (h : BagAt H b n) (s : Same H H') : BagAt H' b n := h.up s (Nat.le_refl _)
theorem at_any {vs : List V} {r : Int} (h0 : 0 ≤ r) (h1 : r.toNat < vs.length) : atI vs r = some (vs[r.toNat]) := by
  obtain ⟨n, rfl⟩ : ∃ n : Nat, r = (n : Int) := ⟨r.toNat, by omega⟩
  have h2 : n < vs.length := by omega
  unfold atI
  rw [show ixN vs.length (n : Int) = some n by unfold ixN; simp; omega]
  simp [h2]
theorem day_len {ds : List Int} {r : Int} (h0 : 0 ≤ r) (h1 : r < ds.length) : ∃ v, atI (ds.map V.int) r = some (V.int v) ∧ v ∈ ds := by
  have h : r.toNat < ds.length := by omega
  exact ⟨ds[r.toNat], at_menu h0 h, List.getElem_mem h⟩
section
variable {X : Cx} {M : List Addr} {σ : L2.St} {H : Hp} {a b c e e2 e3 e4 e5 o : Expr} {pos apos p1 p2 py spos : Pos} {C f : Addr} {fd : FuncData} {off n : Int} {k : Nat} {D : Ends} {rest : List Stmt} {x : Str} {scope : Scope} {own : List (Str × Nat)} {elt tg : Expr} {Q : VK} {esl : List Expr}
theorem rb_setCR (i : Nat) (hm : X.mg "range" = none) (hN : X.N.Nodup) (ok : BlkOk X.N X.env.scope scope own) (h : tLc (iRng1 (RA X [a])) (BG X scope tg) (BT X scope []) (BE X scope elt) (own.map (·.2)) σ H fun v H1 => RB X rest D (σ.set i (some v)) H1)
    (hi : X.N[i]? = some x := by rfl) (hx : X.env.scope.names.lookup x = some .local := by rfl) (hsw : swapsWith (.ListComp elt [⟨tg, .Call (.Name "range" p1) [a] [] p2, [], 0⟩] scope pos) (some (.Name x py)) spos.line X.env = pure true := by exact sw_true rfl rfl rfl rfl)
    (hc : X.calm = true := by rfl) (hg : Gl X "range" := by rfl) (he : starEach [a] X.env = [(false, eval a X.env)] := by rfl) (hs : ∀ x, foldedSetIterable (.Call (.Name "range" p1) [a] [] p2) X.env x = pure x := by intro _; rfl) : RB X (.Assign [.Name x py] (.ListComp elt [⟨tg, .Call (.Name "range" p1) [a] [] p2, [], 0⟩] scope pos) spos :: rest) D σ H :=
  ⟨_, pss_cons (ps_setLc (own := own) hc hN hi hx hsw (pi_range1 hg hm ra_ he) ok (fun _ _ _ _ _ => bg_) (fun _ _ _ _ _ => bt_) (fun _ _ _ _ _ => be_) hs) rb_, h⟩
theorem re_lcR (hm : X.mg "range" = none) (hN : X.N.Nodup) (ok : BlkOk X.N X.env.scope scope own) (h : tLc (iRng1 (RA X [a])) (BG X scope tg) (BT X scope []) (BE X scope elt) (own.map (·.2)) σ H Q)
    (hc : X.calm = true := by rfl) (hg : Gl X "range" := by rfl) (he : starEach [a] X.env = [(false, eval a X.env)] := by rfl) (hs : ∀ x, foldedSetIterable (.Call (.Name "range" p1) [a] [] p2) X.env x = pure x := by intro _; rfl) : RE X (.ListComp elt [⟨tg, .Call (.Name "range" p1) [a] [] p2, [], 0⟩] scope pos) σ H Q :=
  ⟨_, pe_lc (own := own) hc hN (pi_range1 hg hm ra_ he) ok (fun _ _ _ _ _ => bg_) (fun _ _ _ _ _ => bt_) (fun _ _ _ _ _ => be_) hs, h⟩
theorem re_menuV {vs : List V} (hs : PlainIx b) (hn : vs.length ≤ 1000) (h : RA X esl σ H fun ws H1 => ws = vs ∧ ∀ l, H1 l = none → RE X b σ (upd H1 l (.lst vs)) fun y H3 => ∃ r : Int, y = .int r ∧ 0 ≤ r ∧ r < vs.length ∧ H3 l = some (.lst vs) ∧ ∀ z, z ∈ vs → Q z H3) :
    RE X (.Subscript (.List esl p1) b pos) σ H Q :=
  ⟨_, pe_ix ix_list (pe_lst ra_) re_ hs, ra_mono h fun ws H1 ⟨e1, k⟩ => by
    subst e1
    exact ⟨Nat.le_trans hn (by decide), fun l hl => re_mono (k l hl) fun y H3 ⟨r, ey, r0, r1, h3, q⟩ => by
      subst ey
      have hlt : r.toNat < ws.length := by omega
      refine ⟨l, ws, r, ws[r.toNat], rfl, rfl, SqL.of h3, ?_, q _ (List.getElem_mem hlt)⟩
      exact at_any r0 hlt⟩⟩
theorem rb_forE {tg : Expr} {body : List Stmt} (h : RE X e σ H fun v H1 => ∃ ds, Dq X.K (hid M H1) v (.list ds) ∧ ∃ Pv : Nat → L2.St → Hp → Prop, Pv 0 σ H1 ∧ (∀ k σ' H', Pv k σ' H' → Same (hid M H1) (hid M H')) ∧
      (∀ k d, ds[k]? = some d → ∀ σ' H' v, Pv k σ' H' → Dq X.K (hid M H') v d → RG X tg v σ' H' fun σ2 H2 => RB X body { D with nx := Pv (k + 1), ct := Pv (k + 1), bk := RB X rest D } σ2 H2) ∧ ∀ σ' H', Pv ds.length σ' H' → RB X rest D σ' H')
    (hp : PassesOwn (model X.prog X.w) X.A X.env X.xe := by exact PassesOwn.never) (hc : X.calm = true := by rfl) (hs : ∀ x, foldedSetIterable e X.env x = pure x := by intro _; rfl) : RB X (.For tg e body [] pos :: rest) D σ H :=
  ⟨_, pss_cons (ps_for hp hc (pi_list re_) rg_ rb_ hs) rb_, re_mono h fun v H1 ⟨ds, hv, Pv, h0, hk, hst, hd⟩ => by
    obtain ⟨a, xs, rfl, ha, hx⟩ := dp_lst hv
    refine ⟨a, rfl, ⟨xs, SqL.of (hid_le _ _ ha)⟩, for_list (xs := xs) Pv h0 (fun i σ' H' _ p => SqL.of (hid_le _ _ (hk i σ' H' p _ _ ha))) (fun i x σ' H' hi p => ?_) (by rw [dpa_len hx]; exact hd)⟩
    obtain ⟨d, h1, h2⟩ := dpa_get' hx hi
    exact hst i d h1 σ' H' x p (h2.up (hk i σ' H' p))⟩
end
end Zn

set_option Elab.async false
set_option linter.all false
set_option maxRecDepth 100000
set_option maxHeartbeats 4000000
namespace Zn
open PySem PySem.Spec PyProof.Rows L2 Dl
/-! k02: time_from; the law's own name_due, time_due -/
abbrev sNDue : Stmt := top 28
abbrev sTDue : Stmt := top 31
def bothS : Str := "abcdefghijklmnopqrstuvwxyz0123456789"
theorem both_eq : bothS.cps.toList = lets ++ digs := by decide +kernel
theorem tt_some {x : Str} {t : Int} (h : ttV x = some t) : ∃ a b d e : Nat, x = ⟨#[a, b, 58, d, e]⟩ ∧ a ∈ digs ∧ b ∈ digs ∧ d ∈ digs ∧ e ∈ digs ∧ num2 a b < 24 ∧ num2 d e < 60 ∧ t = num2 a b * 60 + num2 d e := by
  unfold ttV at h
  split at h
  · rename_i a b c d e hx
    split at h
    · rename_i z
      obtain ⟨rfl, ⟨h1, h2, h3, h4⟩, h5, h6⟩ := z
      refine ⟨a, b, d, e, ?_, h1, h2, h3, h4, h5, h6, (Option.some.inj h).symm⟩
      obtain ⟨arr⟩ := x
      obtain ⟨l⟩ := arr
      have hx' : l = [a, b, 58, d, e] := hx
      rw [hx']
    · cases h
  · cases h
section
variable {P : Program} {w : World} {K : PySem.W.Frag} {mg : Str → Option Value} {base : Heap} {C : Addr}
def spTF (K : PySem.W.Frag) (C : Addr) : Sp := fun vs H Q E => ∃ (v : V) (T : String), vs = [v] ∧ Th K H v T ∧ (∀ x, v = .str x → x.length ≤ 1000) ∧ (∀ x t, v = .str x → ttV x = some t → ∀ H1, Same H H1 → Q (.int t) H1) ∧ ((∀ x, v = .str x → ttV x = none) → Out E C v H)
theorem scTF : FnScope ["text"] ["text"] (defScope sTimeFrom) := ⟨rfl, rfl, rfl, by decide +kernel, rfl, by decide +kernel, by decide +kernel⟩
theorem ok_tf {f fI fX : Addr} {fd fdI fdX : FuncData} (T : Nm mg) (hM : ∃ t, mg "HOUR_LENGTH" = some (.int 60 t)) (Y : XCls P w K mg base "InvalidText" "value" C fX fdX) (GI : FnOk P w K mg base CX0 1 fI fdI ["value"] (spTT K)) (FI : Df K mg "is_time_text" sIsTT ["value"] fI fdI) (F : Df K mg "time_from" sTimeFrom ["text"] f fd) : FnOk P w K mg base (L2.CX P w) 3 f fd ["text"] (spTF K C) := by
  obtain ⟨t3, hM⟩ := hM
  refine F.F.okX scTF (fun vs H Q E h => ?_) (fun cdv A outer s H vs Q E hr h => ?_)
  · obtain ⟨v, T', rfl, _⟩ := h; rfl
  · obtain ⟨v, T', rfl, ht, hz, q1, q2⟩ := h
    have hr1 := hr.mono (show 1 ≤ 2 by decide)
    have tk : Takes (cxOf (L2.CX P w) P w K mg base ["text"] "time_from" (defScope sTimeFrom) f cdv A outer s H E) (fun cls d _ H => E cls d H) := takes_of rfl rfl rfl rfl
    show RB (cxOf (L2.CX P w) P w K mg base ["text"] "time_from" (defScope sTimeFrom) f cdv A outer s H E) (defBody sTimeFrom) _ _ H
    refine rb_ifR ⟨_, pt_not rt_, _, pt_val re_ (by intro _; rfl), re_call GI hr1 FI.g FI.F.kp FI.b (ra_1 (XV.go (xv_name 0 rfl) fun H1 s1 => ⟨v, T', rfl, ht.up s1, fun x hx => ⟨hz x hx, fun H2 s2 => ⟨_, rfl, ?_⟩⟩, fun c H2 s2 => ⟨false, rfl, iteT (rb_raise Y hr tk (XV.go (xv_name 0 rfl) fun H3 s3 d H4 s4 e => q2 (fun x hx => absurd (ht.k x hx) c) d H4 (((s1.trans s2).trans s3).trans s4) e))⟩⟩))⟩
    subst hx
    cases e : ttV x with
    | none => exact iteT (rb_raise Y hr tk (XV.go (xv_name 0 rfl) fun H3 s3 d H4 s4 e2 => q2 (fun y hy => by cases hy; exact e) d H4 (((s1.trans s2).trans s3).trans s4) e2))
    | some t =>
      refine iteF (rb_nil ?_)
      obtain ⟨a, b, d, e', rfl, h1, h2, h3, h4, h5, h6, rfl⟩ := tt_some e
      refine rb_ret (M := []) (xd_add (xd_mul (xd_intS T.int (xd_cutS (xd_name 0 rfl (.str _)) xo_none (xo_some (M := []) xd_int) (by show 5 ≤ 100000; decide)) (by rw [cut_lo]; exact int_two h1 h2) (by show 2 ≤ 640; decide)) (xv_glob (v := .int 60) hM ⟨t3, rfl⟩).int (.inr (by decide))) (xd_intS T.int (xd_cutS (xd_name 0 rfl (.str _)) (xo_some (M := []) xd_int) xo_none (by show 5 ≤ 100000; decide)) (by rw [cut_hi]; exact int_two h3 h4) (by show 2 ≤ 640; decide))) fun v3 H3 s3 hv3 => ?_
      rw [dp_int hv3]
      exact q1 _ _ rfl e H3 ((s1.trans s2).trans s3)
theorem scNDue : FnScope ["_law_thing", "_law_sign"] ["_law_thing"] (defScope sNDue) := ⟨rfl, rfl, rfl, by decide +kernel, rfl, by decide +kernel, by decide +kernel⟩
theorem fm_out (x : List Nat) : x.filterMap (fun c => if c ∈ bothS.cps.toList then (none : Option PyData) else some (.str (sg c))) = [] ↔ (x.all fun c => decide (c ∈ lets) || decide (c ∈ digs)) = true := by
  rw [List.all_eq_true]
  constructor
  · intro h c hc
    refine Classical.byContradiction fun n => ?_
    have n2 : ¬ c ∈ bothS.cps.toList := fun z => n (by
      rw [both_eq] at z
      rcases List.mem_append.mp z with z | z
      · rw [decide_eq_true z]; rfl
      · rw [decide_eq_true z]; exact Bool.or_true _)
    have m : PyData.str (sg c) ∈ x.filterMap (fun c => if c ∈ bothS.cps.toList then (none : Option PyData) else some (.str (sg c))) := List.mem_filterMap.mpr ⟨c, hc, if_neg n2⟩
    rw [h] at m
    simp at m
  · intro h
    refine List.filterMap_eq_nil_iff.mpr fun c hc => if_pos ?_
    have z := h c hc
    rw [both_eq]
    rw [Bool.or_eq_true, decide_eq_true_eq, decide_eq_true_eq] at z
    exact List.mem_append.mpr z
theorem eqv_nilL (ds : List PyData) : PyData.eqv (.list ds) (.list []) = decide (ds = []) := by
  cases ds with
  | nil => simp [PyData.eqv, PyData.eqvAll]
  | cons d ds => simp [PyData.eqv, PyData.eqvAll]
end
end Zn

set_option Elab.async false
set_option linter.all false
set_option maxRecDepth 100000
set_option maxHeartbeats 4000000
namespace Zn
open PySem PySem.Spec PyProof.Rows L2 Dl
/-! k02: the law's own name_due, time_due -/
theorem lay_strs : ∀ {ds : List PyData}, (∀ d ∈ ds, ∃ z : Str, d = .str z ∧ PyData.strOk z = true) → PyData.canLayAll0 ds = true ∧ PyData.depthAll ds = 0
  | [], _ => ⟨rfl, rfl⟩
  | d :: ds, h => by
    obtain ⟨z, rfl, hz⟩ := h d (List.mem_cons_self ..)
    obtain ⟨a, b⟩ := lay_strs (ds := ds) fun e he => h e (List.mem_cons_of_mem _ he)
    refine ⟨?_, ?_⟩
    · simp only [PyData.canLayAll0, PyData.canLay0, a, hz, Bool.and_self]
    · simp only [PyData.depthAll, PyData.depth, b]; rfl
theorem shaped_strs {ds : List PyData} (h : ∀ d ∈ ds, ∃ z : Str, d = .str z ∧ PyData.strOk z = true) : SeqAt.shaped (.list ds) = true := by
  obtain ⟨a, b⟩ := lay_strs h
  unfold SeqAt.shaped
  simp only [PyData.canLay0, PyData.depth, a, b]
  decide
theorem shaped_nil0 : SeqAt.shaped (.list []) = true := by decide +kernel
theorem ok_sg {x : Str} {c : Nat} (h : PyData.strOk x = true) (hc : c ∈ x.cps.toList) : PyData.strOk (sg c) = true := by
  unfold PyData.strOk at *
  rw [← Array.all_toList, List.all_eq_true] at h
  have := h c hc
  simpa [sg] using this
theorem strs_in {x : Str} {y : List Nat} (h : PyData.strOk x = true) : ∀ d ∈ x.cps.toList.filterMap (fun c => if c ∈ y then (none : Option PyData) else some (.str (sg c))), ∃ z : Str, d = .str z ∧ PyData.strOk z = true := fun d hd => by
  obtain ⟨c, m, e⟩ := List.mem_filterMap.mp hd
  split at e
  · cases e
  · exact ⟨sg c, (Option.some.inj e).symm, ok_sg h m⟩
section
variable {P : Program} {w : World} {K : PySem.W.Frag} {mg : Str → Option Value} {base : Heap} {C : Addr}
/-- is_name's promise, of texts that can be laid -/
def spNameS (K : PySem.W.Frag) : Sp := fun vs H Q _ => ∃ (v : V) (T : String), vs = [v] ∧ Th K H v T ∧ (∀ x, v = .str x → x.length ≤ 1000 ∧ PyData.strOk x = true ∧ ∀ H1, Same H H1 → Q (.bl (nameB x)) H1) ∧ (T ≠ "str" → ∀ H1, Same H H1 → Q (.bl false) H1)
theorem ok_ndue {f : Addr} {fd : FuncData} (T : Nm mg) (F : Df K mg "_law_name_due" sNDue ["_law_thing"] f fd) : FnOk P w K mg base CX0 1 f fd ["_law_thing"] (spNameS K) := by
  refine F.F.ok scNDue (fun vs H Q E h => ?_) (fun cdv A outer s H vs Q E hr h => ?_)
  · obtain ⟨v, T', rfl, _⟩ := h; rfl
  · obtain ⟨v, T', rfl, ht, q1, q2⟩ := h
    by_cases c : T' = "str"
    · obtain ⟨x, rfl⟩ := ht.l c
      obtain ⟨hz, hok, q⟩ := q1 x rfl
      by_cases hl : (decide ((1 : Int) ≤ x.length) && decide ((x.length : Int) ≤ 8)) = true
      · obtain ⟨c0, cs, hcs⟩ : ∃ c0 cs, x.cps.toList = c0 :: cs := by
          cases z : x.cps.toList with
          | nil =>
            have hz0 : x.length = 0 := by show x.cps.size = 0; rw [← Array.length_toList, z]; rfl
            rw [Bool.and_eq_true] at hl
            have := of_decide_eq_true hl.1
            omega
          | cons c0 cs => exact ⟨c0, cs, rfl⟩
        refine rb_if (k := !decide (c0 ∈ lets)) ((xt_or3 (k1 := false) (k2 := false) ((xt_not (xt_val (M := []) (k := true) (xd_isTy (by rw [kt_str ht.t, decide_eq_true c]) T.isi T.str (by decide +kernel) (xv_name 0 rfl) ht.ty))).to rfl) (fun _ => (xt_not (xt_chainI (M := []) op_le op_le xd_int (xd_lenStr T.len (xd_name 0 rfl (.str x)) (by omega)) xd_int)).to (by rw [hl]; rfl)) fun _ _ => xt_notInSg (M := []) (c := c0) (x := letS) (xd_ixS (c := c0) (fun _ _ => rfl) (xd_name 0 rfl (.str x)) xd_int (by omega) (by rw [hcs]; unfold atI ixN; simp)) xd_str).to rfl) (fun ek H1 s1 => ?_) (fun ek H1 s1 => rb_nil ?_)
        · have e0 : nameB x = false := by
            unfold nameB
            rw [hcs]
            show (_ && (decide (c0 ∈ lets) && _)) = false
            have z : decide (c0 ∈ lets) = false := by simpa using ek
            rw [z, Bool.false_and, Bool.and_false]
          exact rb_ret (M := []) xd_bl fun v2 H2 s2 hv2 => by rw [dp_bl hv2, ← e0]; exact q H2 (s1.trans s2)
        · have z : decide (c0 ∈ lets) = true := by simpa using ek
          refine rb_ret (M := []) (d := .bool (decide (x.cps.toList.filterMap (fun c => if c ∈ bothS.cps.toList then (none : Option PyData) else some (.str (sg c))) = []))) ((xd_eqD hr.units (XL.dd (xl_compS (own := [("_law_sign", 1)]) (fun c => if c ∈ bothS.cps.toList then (none : Option PyData) else some (.str (sg c))) Live.nil scNDue.nd (xd_name 0 rfl (.str x))
            (blkOk_by (own := [("_law_sign", 1)]) (N := ["_law_thing", "_law_sign"]) (sc := defScope sNDue) (by decide +kernel)) (by omega) (fun p c H2 hc hp s2 Lp => ?comp)) Live.nil) (xd_lst Live.nil xa_nil) (shaped_strs (strs_in hok)) shaped_nil0).to (by rw [eqv_nilL])) fun v3 H3 s3 hv3 => ?_
          case comp =>
            intro s0 H0 C0 cl fp
            refine rg_name 1 ⟨rfl, bt_one (k := !decide (c ∈ bothS.cps.toList)) (fun s0 H0 C0 cl fp => xt_notInSg (M := []) (x := bothS) (xd_name 1 rfl (.str _)) xd_str) fun H4 s4 => ⟨s4, ?_⟩⟩ scNDue.nd
            by_cases m : c ∈ bothS.cps.toList
            · exact .inr ⟨by rw [decide_eq_true m]; rfl, if_pos m⟩
            · exact .inl ⟨by rw [decide_eq_false m]; rfl, _, if_neg m, fun s0 H0 C0 cl fp => XV.go (xv_name 1 rfl) fun H5 s5 => ⟨s5, .str (sg c)⟩⟩
          have e2 : nameB x = decide (x.cps.toList.filterMap (fun c => if c ∈ bothS.cps.toList then (none : Option PyData) else some (.str (sg c))) = []) := by
            have e3 : nameB x = (x.cps.toList.all fun c => decide (c ∈ lets) || decide (c ∈ digs)) := by
              unfold nameB
              rw [hl, Bool.true_and]
              conv => lhs; rw [hcs]
              show (decide (c0 ∈ lets) && _) = _
              rw [z, Bool.true_and, hcs]
            rw [e3]
            by_cases y : (x.cps.toList.all fun c => decide (c ∈ lets) || decide (c ∈ digs)) = true
            · rw [y, decide_eq_true ((fm_out _).mpr y)]
            · rw [Bool.not_eq_true] at y
              rw [y, decide_eq_false fun z2 => by rw [(fm_out _).mp z2] at y; cases y]
          rw [dp_bl hv3, ← e2]
          exact q H3 (s1.trans s3)
      · have hl2 : (decide ((1 : Int) ≤ x.length) && decide ((x.length : Int) ≤ 8)) = false := by simpa using hl
        have e0 : nameB x = false := by unfold nameB; rw [hl2]; rfl
        refine rb_ifT ((xt_or3 (k1 := false) (k2 := true) (k3 := true) ((xt_not (xt_val (M := []) (k := true) (xd_isTy (by rw [kt_str ht.t, decide_eq_true c]) T.isi T.str (by decide +kernel) (xv_name 0 rfl) ht.ty))).to rfl) (fun _ => (xt_not (xt_chainI (M := []) op_le op_le xd_int (xd_lenStr T.len (xd_name 0 rfl (.str x)) (by omega)) xd_int)).to (by rw [hl2]; rfl)) fun _ z => absurd z (by decide)).to rfl) fun H1 s1 => ?_
        exact rb_ret (M := []) xd_bl fun v2 H2 s2 hv2 => by rw [dp_bl hv2, ← e0]; exact q H2 (s1.trans s2)
    · refine rb_ifT ((xt_or3 (k1 := true) (k2 := false) (k3 := false) ((xt_not (xt_val (M := []) (k := false) (xd_isTy (by rw [kt_str ht.t, decide_eq_false c]) T.isi T.str (by decide +kernel) (xv_name 0 rfl) ht.ty))).to rfl) (fun z => absurd z (by decide)) fun z _ => absurd z (by decide)).to rfl) fun H1 s1 => ?_
      exact rb_ret (M := []) xd_bl fun v2 H2 s2 hv2 => by rw [dp_bl hv2]; exact q2 c H2 (s1.trans s2)
end
end Zn

set_option Elab.async false
set_option linter.all false
set_option maxRecDepth 100000
set_option maxHeartbeats 4000000
namespace Zn
open PySem PySem.Spec PyProof.Rows L2 Dl
/-! k02: the law's own time_due -/
def tdV : Option Int → V
  | some t => .int t
  | none => .non
theorem sg_colon {m : Nat} : decide (sg m = (":" : Str)) = decide (m = 58) := by
  by_cases z : m = 58
  · subst z; decide +kernel
  · rw [decide_eq_false z, decide_eq_false fun y => z (by
      have y2 : sg m = sg 58 := y
      unfold sg at y2
      injection y2 with y3
      simpa using y3)]
theorem fm_dig (l : List Nat) : l.filterMap (fun c => if c ∈ digS.cps.toList then (none : Option PyData) else some (.str (sg c))) = [] ↔ (l.all fun c => decide (c ∈ digs)) = true := by
  rw [List.all_eq_true, List.filterMap_eq_nil_iff]
  constructor
  · intro h c hc
    have z := h c hc
    by_cases y : c ∈ digS.cps.toList
    · exact decide_eq_true y
    · rw [if_neg y] at z; cases z
  · intro h c hc
    exact if_pos (of_decide_eq_true (h c hc))
theorem ok_four {a b m d e : Nat} (h : PyData.strOk ⟨#[a, b, m, d, e]⟩ = true) : PyData.strOk ⟨#[a, b, d, e]⟩ = true := by
  unfold PyData.strOk at *
  rw [← Array.all_toList] at *
  simp only [List.all_cons, Bool.and_eq_true, List.all_nil] at *
  exact ⟨h.1, h.2.1, h.2.2.2.1, h.2.2.2.2.1, trivial⟩
section
variable {P : Program} {w : World} {K : PySem.W.Frag} {mg : Str → Option Value} {base : Heap} {C : Addr}
def spTDue (K : PySem.W.Frag) : Sp := fun vs H Q _ => ∃ (x : Str), vs = [.str x] ∧ x.length ≤ 1000 ∧ PyData.strOk x = true ∧ ∀ H1, Same H H1 → Q (tdV (ttV x)) H1
theorem scTDue : FnScope ["_law_line_here", "_law_found", "_law_sign"] ["_law_line_here"] (defScope sTDue) := ⟨rfl, rfl, rfl, by decide +kernel, rfl, by decide +kernel, by decide +kernel⟩
theorem ok_tdue {f : Addr} {fd : FuncData} (T : Nm mg) (F : Df K mg "_law_time_due" sTDue ["_law_line_here"] f fd) : FnOk P w K mg base CX0 1 f fd ["_law_line_here"] (spTDue K) := by
  refine F.F.ok scTDue (fun vs H Q E h => ?_) (fun cdv A outer s H vs Q E hr h => ?_)
  · obtain ⟨x, rfl, _⟩ := h; rfl
  · obtain ⟨x, rfl, hz, hok, q⟩ := h
    by_cases h5 : x.length = 5
    · obtain ⟨a, b, m, d, e, rfl⟩ := five h5
      refine rb_if (k := !decide (m = 58)) ((xt_or2 (k1 := false) ((xt_neI (M := []) (xd_lenStr T.len (xd_name 0 rfl (.str _)) (by omega)) xd_int).to rfl) (fun _ => xt_neS (M := []) (x := sg m) (y := ":") (xd_ixS (c := m) (fun _ _ => rfl) (xd_name 0 rfl (.str _)) xd_int (by omega) rfl) xd_str)).to (by rw [Bool.false_or, sg_colon])) (fun ek H1 s1 => ?_) (fun ek H1 s1 => rb_nil ?_)
      · have e0 : ttV ⟨#[a, b, m, d, e]⟩ = none := by
          have z : ¬ m = 58 := by simpa using ek
          show (if m = 58 ∧ _ ∧ _ then some _ else none) = none
          rw [if_neg fun y => z y.1]
        rw [e0] at q
        exact rb_ret (M := []) xd_non fun v2 H2 s2 hv2 => by rw [dp_non hv2]; exact q H2 (s1.trans s2)
      · have em : m = 58 := by simpa using ek
        have hcut : ∀ {Hx : Hp} {p1 p2 p3 p4 p5 p6 p7 p8 p9 : Pos} {j1 j2 : Nat}, XD (cxOf CX0 P w K mg base ["_law_line_here", "_law_found", "_law_sign"] "_law_time_due" (defScope sTDue) f cdv A outer s H E).nox [] [some (.str ⟨#[a, b, m, d, e]⟩), none, none] Hx (.BinOp (.Subscript (.Name "_law_line_here" p1) (.Slice none (some (.Constant (.int 2) j1 p2)) none p3) p4) .Add (.Subscript (.Name "_law_line_here" p5) (.Slice (some (.Constant (.int 3) j2 p6)) none none p7) p8) p9) (.str ⟨#[a, b, d, e]⟩) :=
          (xd_addS (xd_cutS (xd_name 0 rfl (.str ⟨#[a, b, m, d, e]⟩)) xo_none (xo_some (M := []) xd_int) (by show 5 ≤ 100000; decide)) (xd_cutS (xd_name 0 rfl (.str ⟨#[a, b, m, d, e]⟩)) (xo_some (M := []) xd_int) xo_none (by show 5 ≤ 100000; decide)) (by show 2 + 2 ≤ 100000; decide)).to rfl
        refine rb_if (k := !([a, b, d, e].all fun c => decide (c ∈ digs))) ((xt_neD (M := []) hr.units (XL.dd (xl_compS (own := [("_law_sign", 2)]) (x := ⟨#[a, b, d, e]⟩) (fun c => if c ∈ digS.cps.toList then (none : Option PyData) else some (.str (sg c))) Live.nil scTDue.nd hcut
            (blkOk_by (own := [("_law_sign", 2)]) (N := ["_law_line_here", "_law_found", "_law_sign"]) (sc := defScope sTDue) (by decide +kernel)) (by show 4 ≤ 100000; decide) (fun p c H2 hc hp s2 Lp => ?comp)) Live.nil) (xd_lst Live.nil xa_nil) (shaped_strs (strs_in (ok_four hok))) shaped_nil0).to (by
              rw [eqv_nilL]
              congr 1
              by_cases y : ([a, b, d, e].all fun c => decide (c ∈ digs)) = true
              · rw [y, decide_eq_true ((fm_dig _).mpr y)]
              · rw [Bool.not_eq_true] at y
                rw [y, decide_eq_false fun z2 => by rw [(fm_dig _).mp z2] at y; cases y])) (fun ed H2 s2 => ?_) (fun ed H2 s2 => rb_nil ?_)
        case comp =>
          intro s0 H0 C0 cl fp
          refine rg_name 2 ⟨rfl, bt_one (k := !decide (c ∈ digS.cps.toList)) (fun s0 H0 C0 cl fp => xt_notInSg (M := []) (x := digS) (xd_name 2 rfl (.str _)) xd_str) fun H4 s4 => ⟨s4, ?_⟩⟩ scTDue.nd
          by_cases mm : c ∈ digS.cps.toList
          · exact .inr ⟨by rw [decide_eq_true mm]; rfl, if_pos mm⟩
          · exact .inl ⟨by rw [decide_eq_false mm]; rfl, _, if_neg mm, fun s0 H0 C0 cl fp => XV.go (xv_name 2 rfl) fun H5 s5 => ⟨s5, .str (sg c)⟩⟩
        · have e0 : ttV ⟨#[a, b, m, d, e]⟩ = none := by
            show (if m = 58 ∧ (a ∈ digs ∧ b ∈ digs ∧ d ∈ digs ∧ e ∈ digs) ∧ _ then some _ else none) = none
            rw [if_neg fun y => ?_]
            obtain ⟨_, ⟨y1, y2, y3, y4⟩, _⟩ := y
            simp [y1, y2, y3, y4] at ed
          rw [e0] at q
          exact rb_ret (M := []) xd_non fun v2 H3 s3 hv3 => by rw [dp_non hv3]; exact q H3 ((s1.trans s2).trans s3)
        · have dg : a ∈ digs ∧ b ∈ digs ∧ d ∈ digs ∧ e ∈ digs := by simpa using ed
          obtain ⟨da, db, dd', de⟩ := dg
          refine rb_set (M := []) (d := .list [.int (num2 a b), .int (num2 d e)]) 1 (xd_lst Live.nil (xa_cons (xd_intS T.int (xd_cutS (xd_name 0 rfl (.str _)) xo_none (xo_some (M := []) xd_int) (by omega)) (by rw [cut_lo]; exact int_two da db) (by show 2 ≤ 640; decide)) (xa_cons (xd_intS T.int (xd_cutS (xd_name 0 rfl (.str _)) (xo_some (M := []) xd_int) xo_none (by omega)) (by rw [cut_hi]; exact int_two dd' de) (by show 2 ≤ 640; decide)) xa_nil))) (fun v3 H3 s3 hv3 => ?_) scTDue.nd
          have i0 : ∀ {p1 p2 p3 : Pos} {j : Nat}, XD (cxOf CX0 P w K mg base ["_law_line_here", "_law_found", "_law_sign"] "_law_time_due" (defScope sTDue) f cdv A outer s H E).nox [] [some (.str ⟨#[a, b, m, d, e]⟩), some v3, none] H3 (.Subscript (.Name "_law_found" p1) (.Constant (.int 0) j p2) p3) (.int (num2 a b)) := xd_ixL (n := 0) (fun _ _ => rfl) (xd_name 1 rfl hv3) xd_int rfl
          have i1 : ∀ {p1 p2 p3 : Pos} {j : Nat}, XD (cxOf CX0 P w K mg base ["_law_line_here", "_law_found", "_law_sign"] "_law_time_due" (defScope sTDue) f cdv A outer s H E).nox [] [some (.str ⟨#[a, b, m, d, e]⟩), some v3, none] H3 (.Subscript (.Name "_law_found" p1) (.Constant (.int 1) j p2) p3) (.int (num2 d e)) := xd_ixL (n := 1) (fun _ _ => rfl) (xd_name 1 rfl hv3) xd_int rfl
          have e0 : ttV ⟨#[a, b, m, d, e]⟩ = if num2 a b < 24 ∧ num2 d e < 60 then some (num2 a b * 60 + num2 d e) else none := by
            show (if m = 58 ∧ (a ∈ digs ∧ b ∈ digs ∧ d ∈ digs ∧ e ∈ digs) ∧ (num2 a b < 24 ∧ num2 d e < 60) then some _ else none) = _
            by_cases z : num2 a b < 24 ∧ num2 d e < 60
            · rw [if_pos ⟨em, ⟨da, db, dd', de⟩, z⟩, if_pos z]
            · rw [if_neg fun y => z y.2.2, if_neg z]
          rw [e0] at q
          by_cases z : num2 a b < 24 ∧ num2 d e < 60
          · rw [if_pos z] at q
            refine rb_ret (M := []) (xd_ifT (XT.to (k := decide (num2 a b < 24) && decide (num2 d e < 60)) (xt_and2 (xt_cmpI op_lt i0 xd_int) fun _ => xt_cmpI op_lt i1 xd_int) (by rw [decide_eq_true z.1, decide_eq_true z.2]; rfl)) (xd_add (xd_mul xd_int i0 (.inl (by decide))) i1)) fun v4 H4 s4 hv4 => ?_
            rw [dp_int hv4, Int.mul_comm]
            exact q H4 (((s1.trans s2).trans s3).trans s4)
          · rw [if_neg z] at q
            refine rb_ret (M := []) (xd_ifF (XT.to (k := decide (num2 a b < 24) && decide (num2 d e < 60)) (xt_and2 (xt_cmpI op_lt i0 xd_int) fun _ => xt_cmpI op_lt i1 xd_int) (by
              rcases Classical.not_and_iff_not_or_not.mp z with z | z
              · rw [decide_eq_false z]; rfl
              · rw [decide_eq_false z]; exact Bool.and_false _)) xd_non) fun v4 H4 s4 hv4 => ?_
            rw [dp_non hv4]
            exact q H4 (((s1.trans s2).trans s3).trans s4)
    · have e0 : ttV x = none := by
        unfold ttV
        split
        · rename_i a b c d e hx
          exact absurd (by show x.cps.size = 5; rw [← Array.length_toList, hx]; rfl) h5
        · rfl
      rw [e0] at q
      refine rb_ifT ((xt_or2 (k1 := true) (k2 := true) ((xt_neI (M := []) (xd_lenStr T.len (xd_name 0 rfl (.str _)) (by omega)) xd_int).to (by rw [decide_eq_false fun z => h5 (by omega)]; rfl)) (fun z => absurd z (by decide))).to rfl) fun H1 s1 => ?_
      exact rb_ret (M := []) xd_non fun v2 H2 s2 hv2 => by rw [dp_non hv2]; exact q H2 (s1.trans s2)
end
end Zn

set_option Elab.async false
set_option linter.all false
set_option maxRecDepth 100000
set_option maxHeartbeats 4000000
namespace Zn
open PySem PySem.Spec PyProof.Rows L2 Dl
/-! k02: the law's own told -/
abbrev sTold : Stmt := top 32
abbrev nTold : List Str := ["_law_way", "_law_one", "_law_two", "e"]
inductive Tol : Int → V → V → Str → V → Prop
  | d0 {n : Int} {u : V} : Tol 0 (.int n) u "told" (.int (n / 1440))
  | x0 {v u : V} (h : ∀ n, v ≠ .int n) : Tol 0 v u "integer" v
  | d1 {n : Int} {u : V} : Tol 1 (.int n) u "told" (.int (n % 1440))
  | x1 {v u : V} (h : ∀ n, v ≠ .int n) : Tol 1 v u "integer" v
  | d2 {d t : Int} (h0 : 0 ≤ t) (h1 : t ≤ 1439) : Tol 2 (.int d) (.int t) "told" (.int (d * 1440 + t))
  | x2 {v u : V} (h : ∀ n, v ≠ .int n) : Tol 2 v u "integer" v
  | y2 {d : Int} {u : V} (h : ¬ okTime u) : Tol 2 (.int d) u "time" u
  | d3 {t : Int} {u : V} (h0 : 0 ≤ t) (h1 : t ≤ 1439) : Tol 3 (.int t) u "told" (.str (ttext t))
  | x3 {v u : V} (h : ¬ okTime v) : Tol 3 v u "time" v
  | d4 {x : Str} {u : V} {t : Int} (h : ttV x = some t) : Tol 4 (.str x) u "told" (.int t)
  | x4 {v u : V} (h : ∀ x, v = .str x → ttV x = none) : Tol 4 v u "text" v
/-- a new list [k, w] is what comes -/
def Fin2 (Q : VK) (H : Hp) (k : Str) (w : V) : Prop := ∀ p H2, Same H H2 → H p = none → p ≠ sysModules → H2 p = some (.lst [.str k, w]) → Q (.ref p) H2
theorem Fin2.up {Q : VK} {H H1 : Hp} {k : Str} {w : V} (h : Fin2 Q H k w) (s : Same H H1) : Fin2 Q H1 k w := fun p H2 s2 hp hn e => h p H2 (s.trans s2) (s.free hp) hn e
section
variable {X : Cx} {M : List Addr} {σ : L2.St} {H : Hp} {e a b c : Expr} {rest : List Stmt} {D : Ends} {p1 p2 p3 pos : Pos} {j : Nat}
/-- a new list lies behind the module table -/
def tLstN (t : TA) : TE := fun σ H Q => t σ H fun xs H1 => xs.length ≤ sizeLine ∧ ∀ p, H1 p = none → p ≠ sysModules → Q (.ref p) (upd H1 p (.lst xs))
theorem big_ne {pins : List (Addr × Obj)} {s : Shared} (I : Inv X pins σ H s) : s.heap.objs.size ≠ sysModules := fun z => by
  have h := I.big
  rw [z] at h
  exact Nat.lt_irrefl _ h
theorem pe_lstN {es : List Expr} {t : TA} (h : PA X es t) : PE X (.List es pos) (tLstN t) :=
  ⟨fun pins s σ H Q I hq => wpAny_List_spliced (thn (h.run pos pins s σ H _ I hq) fun us s1 ⟨xs, H1, I1, r, z, q⟩ => ⟨by rw [← r.length]; exact z, .ref s1.heap.objs.size, _, I1.lnew (t' := s1.toks) r z, rfl, q _ I1.fresh (big_ne I1)⟩)⟩
def rCatN : R2 := fun x y H Q => ∃ l b xs zs, x = .ref l ∧ y = .ref b ∧ H l = some (.lst xs) ∧ H b = some (.lst zs) ∧ xs.length + zs.length ≤ sizeLine ∧ ∀ p, H p = none → p ≠ sysModules → Q (.ref p) (upd H p (.lst (xs ++ zs)))
theorem op_catN : OpR X (binaryOp .Add) rCatN := fun pins s σ H x y v u Q I rx ry ⟨l, b, xs, zs, ex, ey, hl, hb, hz, q⟩ => by
  subst ex; subst ey; cases rx; cases ry
  obtain ⟨_, i1, _, r1, _, g1⟩ := I.lstM hl
  obtain ⟨_, i2, _, r2, _, g2⟩ := I.lstM hb
  have l1 := r1.length
  have l2 := r2.length
  refine PySem.P.add_list g1 g2 ?_ (by rw [List.size_toArray, List.size_toArray]; omega)
  rw [show i1.toArray ++ i2.toArray = (i1 ++ i2).toArray by simp]
  exact ⟨.ref _, _, I.lnew (t' := s.toks) (r1.append r2) (by rw [List.length_append]; omega), rfl, q _ I.fresh (big_ne I)⟩
theorem rb_retKV {k : Str} (h : RE X e σ H fun v H1 => Fin2 D.rt H1 k v) (he : starEach [e] X.env = (false, eval e X.env) :: starEach [] X.env := by rfl) : RB X (.Return (some (.List [.Constant (.str k) j p1, e] p2)) p3 :: rest) D σ H :=
  rb_retR ⟨_, pe_lstN ra_, ra_cons ⟨_, pe_str, ra_1 (re_mono h fun v H2 q => ⟨by show 2 ≤ _; decide, fun p hp hn => q p _ (same_new hp) hp hn upd_same⟩) he⟩⟩
theorem re_ifT {k : Expr} {Q : VK} (hc : XT X σ H k true) (ha : ∀ H1, Same H H1 → RE X a σ H1 Q) : RE X (.IfExp k a b pos) σ H Q := ⟨_, pe_ifExp rt_ re_ re_, hc H (Same.refl _) _ fun H2 s2 => iteT (ha H2 s2)⟩
theorem re_ifF {k : Expr} {Q : VK} (hc : XT X σ H k false) (hb : ∀ H1, Same H H1 → RE X b σ H1 Q) : RE X (.IfExp k a b pos) σ H Q := ⟨_, pe_ifExp rt_ re_ re_, hc H (Same.refl _) _ fun H2 s2 => iteF (hb H2 s2)⟩
end
/-- a def of the module with its promise -/
structure Hs (P : Program) (w : World) (K : PySem.W.Frag) (mg : Str → Option Value) (base : Heap) (cx : List Env → Hp → Shared → XK → Value → Shared → Prop) (k : Nat) (x : Str) (ps : List Str) (sp : Sp) (f : Addr) (fd : FuncData) : Prop where
  G : FnOk P w K mg base cx k f fd ps sp
  g : mg x = some (.ref f)
  kp : PySem.W.keepIn K (.ref f) = true
  b : Binds K fd ps []
section
variable {P : Program} {w : World} {K : PySem.W.Frag} {mg : Str → Option Value} {base : Heap} {CI CT CX' : Addr}
def spTold (K : PySem.W.Frag) : Sp := fun vs H Q _ => ∃ (way : Int) (v u : V) (T U : String), vs = [.int way, v, u] ∧ 0 ≤ way ∧ way ≤ 4 ∧ Th K H v T ∧ Th K H u U ∧ (∀ x, v = .str x → x.length ≤ 1000) ∧ ∀ k w, Tol way v u k w → Fin2 Q H k w
theorem scTold : FnScope nTold ["_law_way", "_law_one", "_law_two"] (defScope sTold) := ⟨rfl, rfl, rfl, by decide +kernel, rfl, by decide +kernel, by decide +kernel⟩
theorem Th.ni {H : Hp} {v : V} {T : String} (h : Th K H v T) (c : T ≠ "int") : ∀ n, v ≠ .int n := fun n e => c (h.i n e)
theorem ok_told {fD fM fR fX fF f iI iT iX : Addr} {gD gM gR gX gF fd jI jT jX : FuncData} (hD : Hs P w K mg base (L2.CX P w) 4 "day_of" ["reading"] (spOf K CI fun n => n / 1440) fD gD) (hM : Hs P w K mg base (L2.CX P w) 4 "time_of" ["reading"] (spOf K CI fun n => n % 1440) fM gM) (hR : Hs P w K mg base (L2.CX P w) 5 "reading_of" ["day", "time"] (spReadOf K CI CT) fR gR)
    (hX : Hs P w K mg base (L2.CX P w) 5 "time_text" ["time"] (spTText K CT) fX gX) (hF : Hs P w K mg base (L2.CX P w) 3 "time_from" ["text"] (spTF K CX') fF gF)
    (YI : XCls P w K mg base "InvalidInteger" "value" CI iI jI) (YT : XCls P w K mg base "InvalidTime" "value" CT iT jT) (YX : XCls P w K mg base "InvalidText" "value" CX' iX jX)
    (eTI : PySem.W.exmOne K (.ref CT) (.ref CI) = some false) (eXI : PySem.W.exmOne K (.ref CX') (.ref CI) = some false) (eXT : PySem.W.exmOne K (.ref CX') (.ref CT) = some false)
    (F : Df K mg "_law_told" sTold ["_law_way", "_law_one", "_law_two"] f fd) : FnOk P w K mg base CX0 6 f fd ["_law_way", "_law_one", "_law_two"] (spTold K) := by
  refine F.F.ok scTold (fun vs H Q E h => ?_) (fun cdv A outer s H vs Q E hr h => ?_)
  · obtain ⟨way, v, u, T, U, rfl, _⟩ := h; rfl
  · obtain ⟨way, v, u, T, U, rfl, w0, w1, ht, hu, hz, q⟩ := h
    have hr3 := hr.mono (show 3 ≤ 5 by decide)
    have hr4 := hr.mono (show 4 ≤ 5 by decide)
    show RB (cxOf CX0 P w K mg base nTold "_law_told" (defScope sTold) f cdv A outer s H E).nox (defBody sTold) _ [some (.int way), some v, some u, none] H
    have tk0 : Takes (cxOf CX0 P w K mg base nTold "_law_told" (defScope sTold) f cdv A outer s H E).nox (fun _ _ _ _ => False) := fun u s' ⟨_, _, _, _, _, _, _, _, _, _, _, _, _, _, _, _, w⟩ => w.elim
    refine rb_tryAs (Wout := fun _ _ _ _ => False) 3 scTold.nd tk0 (Cls.cons (c := .ref CI) ⟨rfl, rfl, .inl YI.mgC⟩ (Cls.cons (c := .ref CT) ⟨rfl, rfl, .inl YT.mgC⟩ (Cls.cons (c := .ref CX') ⟨rfl, rfl, .inl YX.mgC⟩ Cls.nil))) fun pn xe tk po => ?_
    generalize hW : wManyAs _ _ _ _ _ = W at tk
    have hi : ∀ {v1 : V}, Fin2 Q H "integer" v1 → ∀ {Hx : Hp}, Same H Hx → Out (fun cls d H2 => W cls d [some (.int way), some v, some u, none] H2) CI v1 Hx := by
      intro v1 fin Hx sx d H1 s1 e
      rw [← hW]
      exact ⟨true, YI.te, fun _ a ha ob pn z hf => rb_retKV (XV.go (xv_xf YI.xf YI.no z hf rfl (xv_name 3 rfl) e rfl) fun H2 s2 => fin.up ((sx.trans s1).trans s2)), fun z => absurd z (by decide)⟩
    have hti : ∀ {v1 : V}, Fin2 Q H "time" v1 → ∀ {Hx : Hp}, Same H Hx → Out (fun cls d H2 => W cls d [some (.int way), some v, some u, none] H2) CT v1 Hx := by
      intro v1 fin Hx sx d H1 s1 e
      rw [← hW]
      exact ⟨false, eTI, fun z => absurd z (by decide), fun _ => ⟨true, YT.te, fun _ a ha ob pn z hf => rb_retKV (XV.go (xv_xf YT.xf YT.no z hf rfl (xv_name 3 rfl) e rfl) fun H2 s2 => fin.up ((sx.trans s1).trans s2)), fun z => absurd z (by decide)⟩⟩
    have hx : ∀ {v1 : V}, Fin2 Q H "text" v1 → ∀ {Hx : Hp}, Same H Hx → Out (fun cls d H2 => W cls d [some (.int way), some v, some u, none] H2) CX' v1 Hx := by
      intro v1 fin Hx sx d H1 s1 e
      rw [← hW]
      exact ⟨false, eXI, fun z => absurd z (by decide), fun _ => ⟨false, eXT, fun z => absurd z (by decide), fun _ => ⟨true, YX.te, fun _ a ha ob pn z hf => rb_retKV (XV.go (xv_xf YX.xf YX.no z hf rfl (xv_name 3 rfl) e rfl) fun H2 s2 => fin.up ((sx.trans s1).trans s2)), fun z => absurd z (by decide)⟩⟩⟩
    have cw : way = 0 ∨ way = 1 ∨ way = 2 ∨ way = 3 ∨ way = 4 := by omega
    rcases cw with rfl | rfl | rfl | rfl | rfl
    · refine rb_ifT ((xt_eqI (M := []) (m := 0) (n := 0) (xd_name 0 rfl (.int _)) xd_int).to rfl) fun H1 s1 => ?_
      refine rb_retKV (re_callX hD.G hr4 tk hD.g hD.kp hD.b (ra_1 (XV.go (xv_name 1 rfl) fun H2 s2 => ⟨v, T, rfl, ht.up (s1.trans s2), fun c => ?_, fun c => hi (q _ _ (.x0 (ht.ni c))) (s1.trans s2)⟩)))
      obtain ⟨n, rfl⟩ := ht.j c
      exact ⟨n, rfl, fun H3 s3 => (q _ _ .d0).up ((s1.trans s2).trans s3)⟩
    · refine rb_ifF ((xt_eqI (M := []) (m := 1) (n := 0) (xd_name 0 rfl (.int _)) xd_int).to rfl) fun H1 s1 => ?_
      refine rb_ifT ((xt_eqI (M := []) (m := 1) (n := 1) (xd_name 0 rfl (.int _)) xd_int).to rfl) fun H2 s2 => ?_
      have s12 := s1.trans s2
      refine rb_retKV (re_callX hM.G hr4 tk hM.g hM.kp hM.b (ra_1 (XV.go (xv_name 1 rfl) fun H3 s3 => ⟨v, T, rfl, ht.up (s12.trans s3), fun c => ?_, fun c => hi (q _ _ (.x1 (ht.ni c))) (s12.trans s3)⟩)))
      obtain ⟨n, rfl⟩ := ht.j c
      exact ⟨n, rfl, fun H4 s4 => (q _ _ .d1).up ((s12.trans s3).trans s4)⟩
    · refine rb_ifF ((xt_eqI (M := []) (m := 2) (n := 0) (xd_name 0 rfl (.int _)) xd_int).to rfl) fun H1 s1 => ?_
      refine rb_ifF ((xt_eqI (M := []) (m := 2) (n := 1) (xd_name 0 rfl (.int _)) xd_int).to rfl) fun H2 s2 => ?_
      refine rb_ifT ((xt_eqI (M := []) (m := 2) (n := 2) (xd_name 0 rfl (.int _)) xd_int).to rfl) fun H3 s3 => ?_
      have s13 := (s1.trans s2).trans s3
      refine rb_retKV (re_callX hR.G hr tk hR.g hR.kp hR.b (ra_cons (XV.go (xv_name 1 rfl) fun H4 s4 => ra_1 (XV.go (xv_name 2 rfl) fun H5 s5 => ⟨v, u, T, U, rfl, ht.up ((s13.trans s4).trans s5), hu.up ((s13.trans s4).trans s5), fun c => hi (q _ _ (.x2 (ht.ni c))) ((s13.trans s4).trans s5), fun c c2 => ?_, fun d t e1 e2 h0 h1 H6 s6 => ?_⟩))))
      · obtain ⟨n, rfl⟩ := ht.j c
        exact hti (q _ _ (.y2 c2)) ((s13.trans s4).trans s5)
      · subst e1; subst e2
        exact (q _ _ (.d2 h0 h1)).up (((s13.trans s4).trans s5).trans s6)
    · refine rb_ifF ((xt_eqI (M := []) (m := 3) (n := 0) (xd_name 0 rfl (.int _)) xd_int).to rfl) fun H1 s1 => ?_
      refine rb_ifF ((xt_eqI (M := []) (m := 3) (n := 1) (xd_name 0 rfl (.int _)) xd_int).to rfl) fun H2 s2 => ?_
      refine rb_ifF ((xt_eqI (M := []) (m := 3) (n := 2) (xd_name 0 rfl (.int _)) xd_int).to rfl) fun H3 s3 => ?_
      have s13 := (s1.trans s2).trans s3
      refine rb_retKV (re_ifT ((xt_eqI (M := []) (m := 3) (n := 3) (xd_name 0 rfl (.int _)) xd_int).to rfl) fun H4 s4 => re_callX hX.G hr tk hX.g hX.kp hX.b (ra_1 (XV.go (xv_name 1 rfl) fun H5 s5 => ⟨v, T, rfl, ht.up ((s13.trans s4).trans s5), fun t e1 h0 h1 H6 s6 => ?_, fun c => hti (q _ _ (.x3 c)) ((s13.trans s4).trans s5)⟩)))
      subst e1
      exact (q _ _ (.d3 h0 h1)).up (((s13.trans s4).trans s5).trans s6)
    · refine rb_ifF ((xt_eqI (M := []) (m := 4) (n := 0) (xd_name 0 rfl (.int _)) xd_int).to rfl) fun H1 s1 => ?_
      refine rb_ifF ((xt_eqI (M := []) (m := 4) (n := 1) (xd_name 0 rfl (.int _)) xd_int).to rfl) fun H2 s2 => ?_
      refine rb_ifF ((xt_eqI (M := []) (m := 4) (n := 2) (xd_name 0 rfl (.int _)) xd_int).to rfl) fun H3 s3 => ?_
      have s13 := (s1.trans s2).trans s3
      refine rb_retKV (re_ifF ((xt_eqI (M := []) (m := 4) (n := 3) (xd_name 0 rfl (.int _)) xd_int).to rfl) fun H4 s4 => re_callX hF.G hr3 tk hF.g hF.kp hF.b (ra_1 (XV.go (xv_name 1 rfl) fun H5 s5 => ⟨v, T, rfl, ht.up ((s13.trans s4).trans s5), hz, fun x t e1 e2 H6 s6 => ?_, fun c => hx (q _ _ (.x4 c)) ((s13.trans s4).trans s5)⟩)))
      subst e1
      exact (q _ _ (.d4 e2)).up (((s13.trans s4).trans s5).trans s6)
end
end Zn

set_option Elab.async false
set_option linter.all false
set_option maxRecDepth 100000
set_option maxHeartbeats 4000000
namespace Zn
open PySem PySem.Spec PyProof.Rows L2 Dl
/-! k02: the law's own line -/
abbrev sLine : Stmt := top 29
def sigS : Str := "abcdefghijklmnopqrstuvwxyz0123456789AZ -_`{:~\n"
theorem sig_len : sigS.cps.toList.length = 46 := by decide +kernel
theorem sig_ok : ∀ c ∈ sigS.cps.toList, c < 128 := by decide +kernel
def ofL (l : List Nat) : Str := ⟨l.toArray⟩
theorem joinL_sg : ∀ l : List Nat, TL.joinL [] (l.map fun c => [c]) = l
  | [] => rfl
  | [_] => rfl
  | a :: b :: r => by
    show [a] ++ ([] ++ TL.joinL [] ((b :: r).map fun c => [c])) = a :: b :: r
    rw [joinL_sg (b :: r)]; rfl
theorem str_tl {x y : Str} (h : x.cps.toList = y.cps.toList) : x = y := by
  obtain ⟨a⟩ := x; obtain ⟨b⟩ := y
  obtain ⟨a⟩ := a; obtain ⟨b⟩ := b
  have e : a = b := h
  rw [e]
theorem join_sg (l : List Nat) : Txt.join ("" : Str) (l.map sg) = ofL l := by
  rw [TL.join_eq]
  refine str_tl ?_
  have h := TL.tl_join ("" : Str) (l.map sg)
  rw [List.map_map] at h
  exact h.trans (joinL_sg l)
theorem sum_sg (l : List Nat) : ((l.map sg).map (·.length)).sum = l.length := by
  induction l with
  | nil => rfl
  | cons a r ih => simp only [List.map_cons, List.sum_cons, List.length_cons, ih]; show 1 + r.length = r.length + 1; omega
theorem ok_ofL {l : List Nat} (h : ∀ c ∈ l, c < 128) : PyData.strOk (ofL l) = true := by
  unfold PyData.strOk
  rw [← Array.all_toList, List.all_eq_true]
  intro c hc
  have := h c hc
  exact decide_eq_true (by omega)
theorem at_anyN {vs : List Nat} {r : Int} (h0 : 0 ≤ r) (h1 : r.toNat < vs.length) : atI vs r = some (vs[r.toNat]) := by
  obtain ⟨n, rfl⟩ : ∃ n : Nat, r = (n : Int) := ⟨r.toNat, by omega⟩
  have h2 : n < vs.length := by omega
  unfold atI
  rw [show ixN vs.length (n : Int) = some n by unfold ixN; simp; omega]
  simp [h2]
theorem len_ofL {l : List Nat} : (ofL l).length = l.length := rfl
section
variable {P : Program} {w : World} {K : PySem.W.Frag} {mg : Str → Option Value} {base : Heap} {C : Addr}
def spLine : Sp := fun vs H Q _ => ∃ (b : Addr) (n : Nat), vs = [.ref b] ∧ n ≤ 500000 ∧ BagAt H b n ∧ ∀ (l : List Nat) H1, l.length ≤ 9 → (∀ c ∈ l, c < 128) → SameB b H H1 → BagAt H1 b (n + 10) → Q (.str (ofL l)) H1
theorem scLine : FnScope ["_law_box_here", "_law_signs", "_law_k"] ["_law_box_here"] (defScope sLine) := ⟨rfl, rfl, rfl, by decide +kernel, rfl, by decide +kernel, by decide +kernel⟩
theorem ok_line {f fT : Addr} {fd fdT : FuncData} (T : Nm mg) (GT : FnOk P w K mg base CX0 1 fT fdT ["_law_box_here", "_law_many"] spTake) (FT : Df K mg "_law_take" sTake ["_law_box_here", "_law_many"] fT fdT) (F : Df K mg "_law_line" sLine ["_law_box_here"] f fd) : FnOk P w K mg base CX0 2 f fd ["_law_box_here"] spLine := by
  refine F.F.ok scLine (fun vs H Q E h => ?_) (fun cdv A outer s H vs Q E hr h => ?_)
  · obtain ⟨b, n, rfl, _⟩ := h; rfl
  · obtain ⟨b, n, rfl, hn, hB, q⟩ := h
    have hr1 := hr
    refine rb_set (M := []) (d := .str sigS) 1 xd_str (fun v1 H1 s1 hv1 => ?_) scLine.nd
    have ev := dp_str hv1
    subst ev
    refine rb_retR ⟨_, pe_join (re_) (re_), (XV.go xv_str fun H2 s2 => ⟨⟨_, rfl⟩, re_lcR (own := [("_law_k", 2)]) T.rng scLine.nd (blkOk_by (own := [("_law_k", 2)]) (N := ["_law_box_here", "_law_signs", "_law_k"]) (sc := defScope sLine) (by decide +kernel)) (ra_1 (re_take GT FT hr1 (xv_name 0 rfl) xv_int (hB.up (s1.trans s2) (Nat.le_refl _)) (fun r Ha r0 r1 sB hBa => ⟨r, rfl, by omega, by omega, fun l hl => ?_⟩)))⟩)⟩
    have hlb : l ≠ b := fun e => by rw [e] at hl; exact hBa.some hl
    refine lc_range (lo := 0) (n := r.toNat) (fun i Hx => SameB b Ha Hx ∧ BagAt Hx b (n + 1 + i) ∧ ∃ acc : List Nat, Hx l = some (.lst ((acc.map sg).map V.str)) ∧ acc.length = i ∧ ∀ x ∈ acc, x < 128) ⟨.of (same_new hl), hBa.up (same_new hl) (Nat.le_refl _), [], upd_same, rfl, fun x hx => by simp at hx⟩ (fun i Hx hi w => ?_) (fun Hx w => ?_)
    · obtain ⟨sX, hBx, acc, hacc, hal, hab⟩ := w
      have hi9 : i < 9 := by omega
      refine fun s0 H0 C0 cl fp => rg_name 2 ⟨rfl, bt_nil (iteT fun s0 H0 C0 cl fp => ?_)⟩ scLine.nd
      refine ⟨_, pe_ix ix_str re_ re_ (fun _ _ => rfl), XV.go (xv_name 1 rfl) fun H9 s9 => ?_⟩
      refine re_take GT FT hr1 (xv_name 0 rfl) xv_int (hBx.up s9 (Nat.le_refl _)) (fun r3 Hb r30 r31 sBb hBb => ?_)
      have h46 := sig_len
      have hlt : r3.toNat < sigS.cps.toList.length := by omega
      have hat : atI sigS.cps.toList r3 = some (sigS.cps.toList[r3.toNat]) := at_anyN r30 hlt
      refine ⟨sigS, r3, _, rfl, rfl, by decide +kernel, hat, ?_⟩
      have sX2 : SameB b Hx Hb := (SameB.of s9).trans sBb
      have hmem := sig_ok _ (List.getElem_mem hlt)
      generalize sigS.cps.toList[r3.toNat] = c at hmem
      refine ⟨_, sX2 _ _ hlb hacc, ?_, fun y o ny e => ?_, ?_, acc ++ [c], ?_, ?_, ?_⟩
      · have h4 : 100000 < sizeLine := by decide
        rw [List.length_map, List.length_map]; omega
      · rw [upd_ne (ne_of_none e hl)]
        exact sX2 y o ny (sX y o ny e)
      · obtain ⟨g, m, c, e1, e2, e3, e4, e5⟩ := hBb
        exact ⟨g, m, c, by rw [upd_ne (Ne.symm hlb)]; exact e1, e2, e3, e4, by omega⟩
      · rw [List.map_append, List.map_append]; exact upd_same
      · rw [List.length_append, hal]; rfl
      · intro x hx
        rcases List.mem_append.mp hx with hx | hx
        · exact hab x hx
        · rw [List.mem_singleton.mp hx]; exact hmem
    · obtain ⟨sX, hBx, acc, hacc, hal, hab⟩ := w
      have h9 : acc.length ≤ 9 := by omega
      refine ⟨_, l, acc.map sg, rfl, rfl, .inl (SqL.of hacc), ?_, ?_⟩
      · rw [sum_sg]
        show acc.length + _ * 0 ≤ _
        omega
      · rw [join_sg]
        exact q acc Hx h9 hab ((((SameB.of s1).trans (.of s2)).trans sB).trans sX) (hBx.up (Same.refl _) (by omega))
end
end Zn

set_option Elab.async false
set_option linter.all false
set_option maxRecDepth 100000
set_option maxHeartbeats 4000000
namespace Zn
open PySem PySem.Spec PyProof.Rows L2 Dl
/-! k02: the law's own time_line -/
abbrev sTLine : Stmt := top 30
/-- signs below 128 only -/
def Asc (x : Str) : Prop := ∀ c ∈ x.cps.toList, c < 128
theorem Asc.app {x y : Str} (h : Asc x) (k : Asc y) : Asc (x ++ y) := fun c hc => by
  have e : (x ++ y).cps.toList = x.cps.toList ++ y.cps.toList := TL.tl_append x y
  rw [e] at hc
  rcases List.mem_append.mp hc with hc | hc
  · exact h c hc
  · exact k c hc
theorem Asc.ok {x : Str} (h : Asc x) : PyData.strOk x = true := by
  unfold PyData.strOk
  rw [← Array.all_toList, List.all_eq_true]
  intro c hc
  have := h c hc
  exact decide_eq_true (by omega)
theorem strs_va {K : PySem.W.Frag} {H : Hp} : ∀ {ss : List Str} {xs : List V}, DqAll K H xs (ss.map PyData.str) → xs = ss.map V.str
  | [], _, h => by cases h; rfl
  | n :: ns, _, h => by
    cases h with
    | cons a b => rw [dp_str a, strs_va b]; rfl
section
variable {X : Cx} {σ : L2.St} {H : Hp} {o e : Expr} {pos p1 p2 p3 p4 : Pos} {Q : VK} {D : Ends} {rest : List Stmt}
/-- [texts][take(..)] -/
theorem re_menuS {esl : List Expr} {ss : List Str} {many : Int} {j n k : Nat} {f b : Addr} {fd : FuncData} (G : FnOk X.prog X.w X.K X.mg X.base CX0 k f fd ["_law_box_here", "_law_many"] spTake) (F : Df X.K X.mg "_law_take" sTake ["_law_box_here", "_law_many"] f fd) (hr : Room k X.A)
    (ha : XA X [] σ H esl (ss.map PyData.str)) (ho : XV X σ H o (.ref b)) (hB : BagAt H b n) (q : ∀ y, y ∈ ss → ∀ H1, SameB b H H1 → BagAt H1 b (n + 1) → Q (.str y) H1) (hl : (ss.length : Int) = many := by rfl) (h1 : many.natAbs < 2 ^ 200 := by decide) (h0 : 0 < many := by decide) (hz : ss.length ≤ 1000 := by decide) (hn : n ≤ 1000000 := by omega) (hg : Gl X "_law_take" := by rfl)
    (hs : starEach [o, .Constant (.int many) j p4] X.env = (false, eval o X.env) :: starEach [.Constant (.int many) j p4] X.env := by rfl) (hs2 : starEach [.Constant (.int many) j p4] X.env = (false, eval (.Constant (.int many) j p4) X.env) :: starEach [] X.env := by rfl) (hpl : (backTo p3 (starEach [.Constant (.int many) j p4] X.env)).any (·.1) = false := by rfl) :
    RE X (.Subscript (.List esl p1) (.Call (.Name "_law_take" p2) [o, .Constant (.int many) j p4] [] p3) pos) σ H Q := by
  refine re_menuV (vs := ss.map V.str) (fun _ _ => rfl) (by rw [List.length_map]; exact hz) (ha H (Same.refl _) _ fun vs H1 s1 hv => ⟨strs_va hv, fun l hl2 => ?_⟩)
  have hv2 := strs_va hv
  subst hv2
  have hlb : l ≠ b := fun e => by rw [e] at hl2; exact (hB.up s1 (Nat.le_refl _)).some hl2
  refine re_take (n := n) G F hr (ho.up (s1.trans (same_new hl2))) xv_int (hB.up (s1.trans (same_new hl2)) (Nat.le_refl _)) (fun r H2 r0 r1 sB hB2 => ⟨r, rfl, r0, by rw [List.length_map, hl]; exact r1, sB _ _ hlb upd_same, fun z hz2 => ?_⟩) h0 h1 hn hg hs hs2 hpl
  obtain ⟨y, hy, rfl⟩ := List.mem_map.mp hz2
  exact q y hy H2 ((SameB.of (s1.trans (same_new hl2))).trans sB) hB2
theorem re_addS {a b : Expr} (h : RE X a σ H fun x H1 => ∃ i, x = .str i ∧ RE X b σ H1 fun y H2 => ∃ j, y = .str j ∧ i.length + j.length ≤ 100000 ∧ Q (.str (i ++ j)) H2) : RE X (.BinOp a .Add b pos) σ H Q :=
  re_bin op_add_str (re_mono h fun x H1 ⟨i, ei, h1⟩ => re_mono h1 fun y H2 ⟨j, ej, hz, q⟩ => ⟨i, j, ei, ej, small_sz hz, q⟩)
end
section
variable {P : Program} {w : World} {K : PySem.W.Frag} {mg : Str → Option Value} {base : Heap} {C : Addr}
def spTLine : Sp := fun vs H Q _ => ∃ (b : Addr) (n : Nat), vs = [.ref b] ∧ n ≤ 500000 ∧ BagAt H b n ∧ ∀ (x : Str) H1, x.length ≤ 5 → Asc x → SameB b H H1 → BagAt H1 b (n + 3) → Q (.str x) H1
def m1 : List Str := ["00", "23", "24", "9", "01", "-1", "0a", "12"]
def m2 : List Str := ["00", "59", "60", "7", "30", " 5"]
def m3 : List Str := [":", ":", ":", ".", ""]
theorem m1_ok : ∀ y ∈ m1, y.length ≤ 2 ∧ Asc y := by unfold Asc; decide +kernel
theorem m2_ok : ∀ y ∈ m2, y.length ≤ 2 ∧ Asc y := by unfold Asc; decide +kernel
theorem m3_ok : ∀ y ∈ m3, y.length ≤ 1 ∧ Asc y := by unfold Asc; decide +kernel
theorem scTLine : FnScope ["_law_box_here", "_law_words"] ["_law_box_here"] (defScope sTLine) := ⟨rfl, rfl, rfl, by decide +kernel, rfl, by decide +kernel, by decide +kernel⟩
theorem ok_tline {f fT : Addr} {fd fdT : FuncData} (GT : FnOk P w K mg base CX0 1 fT fdT ["_law_box_here", "_law_many"] spTake) (FT : Df K mg "_law_take" sTake ["_law_box_here", "_law_many"] fT fdT) (F : Df K mg "_law_time_line" sTLine ["_law_box_here"] f fd) : FnOk P w K mg base CX0 2 f fd ["_law_box_here"] spTLine := by
  refine F.F.ok scTLine (fun vs H Q E h => ?_) (fun cdv A outer s H vs Q E hr h => ?_)
  · obtain ⟨b, n, rfl, _⟩ := h; rfl
  · obtain ⟨b, n, rfl, hn, hB, q⟩ := h
    refine rb_setR 1 ⟨_, pe_lst ra_, ra_1 (re_menuS GT FT hr (ss := m1) (xa_cons xd_str (xa_cons xd_str (xa_cons xd_str (xa_cons xd_str (xa_cons xd_str (xa_cons xd_str (xa_cons xd_str (xa_cons xd_str xa_nil)))))))) (xv_name 0 rfl) hB fun x hx H1 sB1 hB1 => ⟨by show 1 ≤ _; decide, fun l hl => ?_⟩)⟩ scTLine.nd
    have hlb : l ≠ b := fun e => by rw [e] at hl; exact hB1.some hl
    refine rb_exprR ⟨_, pe_bm PySem.F.plainAttrs_list PySem.F.slot_list_append PySem.F.type_list_append mt_append re_ ra_ rfl rfl rfl rfl rfl, XV.go (xv_name 1 rfl) fun H2 s2 => ⟨.inl ⟨rfl, [.str x], SqL.of (s2 _ _ upd_same)⟩, ra_1 (re_menuS GT FT hr (ss := m2) (xa_cons xd_str (xa_cons xd_str (xa_cons xd_str (xa_cons xd_str (xa_cons xd_str (xa_cons xd_str xa_nil)))))) (xv_name 0 rfl) ((bag_new hB1 hl).up s2 (Nat.le_refl _)) fun y hy H3 sB3 hB3 => ?_)⟩⟩
    refine ⟨l, [.str x], .str y, rfl, rfl, sB3 _ _ hlb (s2 _ _ upd_same), by show 1 < _; decide, ?_⟩
    have hl4 : upd H3 l (.lst ([V.str x] ++ [V.str y])) l = some (.lst [V.str x, V.str y]) := upd_same
    have hB4 : BagAt (upd H3 l (.lst ([V.str x] ++ [V.str y]))) b (n + 1 + 1) := by
      obtain ⟨g, m, c, e1, e2, e3, e4, e5⟩ := hB3
      exact ⟨g, m, c, by rw [upd_ne (Ne.symm hlb)]; exact e1, e2, e3, e4, e5⟩
    have sB4 : SameB b H (upd H3 l (.lst ([V.str x] ++ [V.str y]))) := fun a o na e => by
      have e1 := sB1 a o na e
      rw [upd_ne (ne_of_none e1 hl)]
      exact sB3 a o na (s2 _ _ (by rw [upd_ne (ne_of_none e1 hl)]; exact e1))
    show RB _ _ _ _ (upd H3 l (.lst ([V.str x] ++ [V.str y])))
    generalize upd H3 l (.lst ([V.str x] ++ [V.str y])) = H4 at hl4 hB4 sB4
    refine rb_retR (re_addS (re_addS (XV.go (xv_ixS (v := .str x) (n := 0) (fun _ _ => rfl) (xv_name 1 rfl) (SqL.of hl4) xv_int rfl) fun H5 s5 => ⟨x, rfl, re_menuS GT FT hr (ss := m3) (xa_cons xd_str (xa_cons xd_str (xa_cons xd_str (xa_cons xd_str (xa_cons xd_str xa_nil))))) (xv_name 0 rfl) (hB4.up s5 (Nat.le_refl _)) fun z hz H6 sB6 hB6 => ⟨z, rfl, ?_, _, rfl, ?_⟩⟩)))
    · have := (m1_ok x hx).1; have := (m3_ok z hz).1; omega
    · have lx := (m1_ok x hx).1
      have ly := (m2_ok y hy).1
      have lz := (m3_ok z hz).1
      refine XV.go (xv_ixS (v := .str y) (n := 1) (fun _ _ => rfl) (xv_name 1 rfl) (SqL.of (sB6 _ _ hlb (s5 _ _ hl4))) xv_int rfl) fun H7 s7 => ⟨y, rfl, by rw [Str.length_append]; omega, ?_⟩
      exact q _ H7 (by rw [Str.length_append, Str.length_append]; omega) (((m1_ok x hx).2.app (m3_ok z hz).2).app (m2_ok y hy).2) (((sB4.trans (.of s5)).trans sB6).trans (.of s7)) (hB6.up s7 (by omega))
end
end Zn

set_option Elab.async false
set_option linter.all false
set_option maxRecDepth 100000
set_option maxHeartbeats 4000000
namespace Zn
open PySem PySem.Spec PyProof.Rows L2 Dl
/-! k02: the law's own readings_right: numbers and texts -/
abbrev sReadR : Stmt := top 33
theorem two_cat' : ∀ i : Fin 60, cutS (("0" : Str) ++ Str.ofString (toString (i.val : Int))) (some (-2)) none = two (i.val : Int) := by decide +kernel
theorem two_small' : ∀ i : Fin 60, (Str.ofString (toString (i.val : Int))).length ≤ 2 := by decide +kernel
theorem two_digs' : ∀ i : Fin 60, ∃ a : Fin 10, ∃ b : Fin 10, (two (i.val : Int)).cps.toList = [48 + a.val, 48 + b.val] ∧ 10 * a.val + b.val = i.val := by decide +kernel
theorem two_cat {i : Int} (h0 : 0 ≤ i) (h1 : i < 60) : cutS (("0" : Str) ++ Str.ofString (toString i)) (some (-2)) none = two i := by
  have e2 : ((i.toNat : Nat) : Int) = i := Int.toNat_of_nonneg h0
  have e := two_cat' ⟨i.toNat, by omega⟩
  rw [show (((⟨i.toNat, by omega⟩ : Fin 60)).val : Int) = i from e2] at e
  exact e
theorem two_small {i : Int} (h0 : 0 ≤ i) (h1 : i < 60) : (Str.ofString (toString i)).length ≤ 2 := by
  have e2 : ((i.toNat : Nat) : Int) = i := Int.toNat_of_nonneg h0
  have e := two_small' ⟨i.toNat, by omega⟩
  rw [show (((⟨i.toNat, by omega⟩ : Fin 60)).val : Int) = i from e2] at e
  exact e
theorem dig_of (a : Fin 10) : 48 + a.val ∈ digs := by
  have e : digs = [48, 49, 50, 51, 52, 53, 54, 55, 56, 57] := by decide +kernel
  rw [e]
  revert a
  decide
theorem two_digs {i : Int} (h0 : 0 ≤ i) (h1 : i < 60) : ∃ a b : Nat, (two i).cps.toList = [a, b] ∧ a ∈ digs ∧ b ∈ digs ∧ num2 a b = i := by
  have e2 : ((i.toNat : Nat) : Int) = i := Int.toNat_of_nonneg h0
  obtain ⟨a, b, e, e3⟩ := two_digs' ⟨i.toNat, by omega⟩
  rw [show (((⟨i.toNat, by omega⟩ : Fin 60)).val : Int) = i from e2] at e
  refine ⟨_, _, e, dig_of a, dig_of b, ?_⟩
  unfold num2
  have e4 : 10 * a.val + b.val = i.toNat := e3
  omega
theorem tt_back {t : Int} (h0 : 0 ≤ t) (h1 : t ≤ 1439) : ttV (ttext t) = some t := by
  obtain ⟨a, b, e1, ha, hb, n1⟩ := two_digs (i := t / 60) (by omega) (by omega)
  obtain ⟨c, d, e2, hc, hd, n2⟩ := two_digs (i := t % 60) (by omega) (by omega)
  have e : (ttext t).cps.toList = [a, b, 58, c, d] := by
    have z1 := TL.tl_append ((Str.empty ++ two (t / 60)) ++ (":" : Str)) (two (t % 60))
    have z2 := TL.tl_append (Str.empty ++ two (t / 60)) (":" : Str)
    have z3 := TL.tl_append Str.empty (two (t / 60))
    unfold TL.tl at z1 z2 z3
    unfold ttext
    rw [z1, z2, z3, e1, e2]
    rfl
  unfold ttV
  rw [e]
  show (if 58 = 58 ∧ (a ∈ digs ∧ b ∈ digs ∧ c ∈ digs ∧ d ∈ digs) ∧ (num2 a b < 24 ∧ num2 c d < 60) then some (num2 a b * 60 + num2 c d) else none) = some t
  rw [if_pos ⟨rfl, ⟨ha, hb, hc, hd⟩, by omega, by omega⟩, n1, n2]
  congr 1
  omega
theorem tt_len {t : Int} (h0 : 0 ≤ t) (h1 : t ≤ 1439) : (ttext t).length = 5 := by
  have a1 := two_len' (i := t / 60) (by omega) (by omega)
  have a2 := two_len' (i := t % 60) (by omega) (by omega)
  unfold ttext
  rw [Str.length_append, Str.length_append, Str.empty_append, a1, a2]
  rfl
section
variable {X : Cx} {σ : L2.St} {H : Hp} {o e : Expr} {pos p1 p2 p3 p4 : Pos} {Q : VK} {D : Ends} {rest : List Stmt}
/-- [ints][take(..)] -/
theorem re_menuI {esl : List Expr} {ss : List Int} {many : Int} {j n k : Nat} {f b : Addr} {fd : FuncData} (G : FnOk X.prog X.w X.K X.mg X.base CX0 k f fd ["_law_box_here", "_law_many"] spTake) (F : Df X.K X.mg "_law_take" sTake ["_law_box_here", "_law_many"] f fd) (hr : Room k X.A)
    (ha : XA X [] σ H esl (ss.map PyData.int)) (ho : XV X σ H o (.ref b)) (hB : BagAt H b n) (q : ∀ y, y ∈ ss → ∀ H1, SameB b H H1 → BagAt H1 b (n + 1) → Q (.int y) H1) (hl : (ss.length : Int) = many := by rfl) (h1 : many.natAbs < 2 ^ 200 := by decide) (h0 : 0 < many := by decide) (hz : ss.length ≤ 1000 := by decide) (hn : n ≤ 1000000 := by omega) (hg : Gl X "_law_take" := by rfl)
    (hs : starEach [o, .Constant (.int many) j p4] X.env = (false, eval o X.env) :: starEach [.Constant (.int many) j p4] X.env := by rfl) (hs2 : starEach [.Constant (.int many) j p4] X.env = (false, eval (.Constant (.int many) j p4) X.env) :: starEach [] X.env := by rfl) (hpl : (backTo p3 (starEach [.Constant (.int many) j p4] X.env)).any (·.1) = false := by rfl) :
    RE X (.Subscript (.List esl p1) (.Call (.Name "_law_take" p2) [o, .Constant (.int many) j p4] [] p3) pos) σ H Q := by
  refine re_menuV (vs := ss.map V.int) (fun _ _ => rfl) (by rw [List.length_map]; exact hz) (ha H (Same.refl _) _ fun vs H1 s1 hv => ⟨ints_v hv, fun l hl2 => ?_⟩)
  have hv2 := ints_v hv
  subst hv2
  have hlb : l ≠ b := fun e => by rw [e] at hl2; exact (hB.up s1 (Nat.le_refl _)).some hl2
  refine re_take (n := n) G F hr (ho.up (s1.trans (same_new hl2))) xv_int (hB.up (s1.trans (same_new hl2)) (Nat.le_refl _)) (fun r H2 r0 r1 sB hB2 => ⟨r, rfl, r0, by rw [List.length_map, hl]; exact r1, sB _ _ hlb upd_same, fun z hz2 => ?_⟩) h0 h1 hn hg hs hs2 hpl
  obtain ⟨y, hy, rfl⟩ := List.mem_map.mp hz2
  exact q y hy H2 ((SameB.of (s1.trans (same_new hl2))).trans sB) hB2
theorem re_mulR {a b : Expr} (h : RE X a σ H fun x H1 => ∃ i, x = .int i ∧ RE X b σ H1 fun y H2 => ∃ j, y = .int j ∧ (-(2 ^ 64) < j ∧ j < 2 ^ 64) ∧ Q (.int (i * j)) H2) : RE X (.BinOp a .Mult b pos) σ H Q :=
  re_bin op_mul (re_mono h fun x H1 ⟨i, ei, h1⟩ => re_mono h1 fun y H2 ⟨j, ej, hj, q⟩ => ⟨i, j, ei, ej, .inr hj, q⟩)
end
end Zn

set_option Elab.async false
set_option linter.all false
set_option maxRecDepth 100000
set_option maxHeartbeats 8000000
namespace Zn
open PySem PySem.Spec PyProof.Rows L2 Dl
/-! k02: the law's own readings_right -/
abbrev nRR : List Str := ["_law_box_here", "_law_reading", "_law_day", "_law_time", "_law_text", "_law_low", "_law_number", "_law_due"]
theorem scReadR : FnScope nRR ["_law_box_here"] (defScope sReadR) := ⟨rfl, rfl, rfl, by decide +kernel, rfl, by decide +kernel, by decide +kernel⟩
theorem log_small {i : Int} (h : 0 ≤ i ∧ i < 60) : i.natAbs.log2 < 1920 := by
  have e : i.natAbs < 60 := by omega
  have := Nat.log2_le_self i.natAbs
  omega
def numsRR (l : Int) : List Int := [l - 1, l, l + 3, l + 4, 1439, 1440, 0, 0 - 1]
section
variable {P : Program} {w : World} {K : PySem.W.Frag} {mg : Str → Option Value} {base : Heap} {CI CT CX' : Addr}
def spReadR : Sp := fun vs H Q _ => ∃ (b : Addr) (n : Nat), vs = [.ref b] ∧ n ≤ 500000 ∧ BagAt H b n ∧ ∀ H1, SameB b H H1 → BagAt H1 b (n + 5) → Q (.bl true) H1
theorem ok_readR {fD fM fR fX fF fI fIT fT f : Addr} {gD gM gR gX gF gI gIT fdT fd : FuncData} (T : Nm mg) (hD : Hs P w K mg base (L2.CX P w) 4 "day_of" ["reading"] (spOf K CI fun n => n / 1440) fD gD) (hM : Hs P w K mg base (L2.CX P w) 4 "time_of" ["reading"] (spOf K CI fun n => n % 1440) fM gM) (hR : Hs P w K mg base (L2.CX P w) 5 "reading_of" ["day", "time"] (spReadOf K CI CT) fR gR)
    (hX : Hs P w K mg base (L2.CX P w) 5 "time_text" ["time"] (spTText K CT) fX gX) (hF : Hs P w K mg base (L2.CX P w) 3 "time_from" ["text"] (spTF K CX') fF gF)
    (hI : Hs P w K mg base CX0 2 "is_integer" ["value", "low", "high"] (spIsInt K) fI gI) (hIT : Hs P w K mg base CX0 3 "is_time" ["value"] (spIsTime K) fIT gIT)
    (GT : FnOk P w K mg base CX0 1 fT fdT ["_law_box_here", "_law_many"] spTake) (FT : Df K mg "_law_take" sTake ["_law_box_here", "_law_many"] fT fdT)
    (F : Df K mg "_law_readings_right" sReadR ["_law_box_here"] f fd) : FnG P w K mg base 6 f fd ["_law_box_here"] spReadR := by
  refine fn_g F.F scReadR (fun vs H Q E h => ?_) (fun cdv A outer s H vs Q E hA hr h => ?_)
  · obtain ⟨b, n, rfl, _⟩ := h; rfl
  · obtain ⟨b, n, rfl, hn, hB, q⟩ := h
    have hr1 := hr.mono (show 1 ≤ 5 by decide)
    have hr2 := hr.mono (show 2 ≤ 5 by decide)
    have hr3 := hr.mono (show 3 ≤ 5 by decide)
    have hr4 := hr.mono (show 4 ≤ 5 by decide)
    -- the reading
    refine rb_setR 1 (re_mulR (re_subI (re_call GT hr1 FT.g FT.F.kp FT.b (ra_cons (XV.go (xv_name 0 rfl) fun Ha sa => ra_1 (re_menuI GT FT hr1 (ss := [3000, 10 ^ 26]) (xa_cons xd_int (xa_cons (xd_pow xd_int xd_int ⟨by decide, by decide, by decide⟩) xa_nil)) (xv_name 0 rfl) (hB.up sa (Nat.le_refl _)) fun many hmany Hb sBb hBb => ?_))))) ) scReadR.nd
    have many0 : 0 < many ∧ many.natAbs < 2 ^ 200 := by
      rcases List.mem_cons.mp hmany with z | z
      · subst z; decide
      · rw [List.mem_singleton.mp z]; decide
    refine ⟨b, many, n + 1, rfl, many0.1, many0.2, by omega, hBb, fun v Hc v0 v1 sBc hBc => ⟨v, rfl, XV.go xv_int fun Hd sd => ⟨1500, rfl, v - 1500, rfl, re_menuI GT FT hr1 (ss := [1, 0 - 1]) (xa_cons xd_int (xa_cons (xd_sub xd_int xd_int) xa_nil)) (xv_name 0 rfl) (hBc.up sd (Nat.le_refl _)) fun sg hsg He sBe hBe => ⟨sg, rfl, ?_, ?_⟩⟩⟩⟩
    · rcases List.mem_cons.mp hsg with z | z
      · subst z; decide
      · rw [List.mem_singleton.mp z]; decide
    have S1 : SameB b H He := (((SameB.of sa).trans sBb).trans sBc).trans ((SameB.of sd).trans sBe)
    generalize (v - 1500) * sg = r0
    refine rb_setR 1 (re_menuI GT FT hr1 (ss := [r0, 1440 * r0, 1440 * r0 - 1]) (xa_cons (xv_name 1 rfl).int (xa_cons (xd_mul xd_int (xv_name 1 rfl).int (.inl ⟨by decide, by decide⟩)) (xa_cons (xd_sub (xd_mul xd_int (xv_name 1 rfl).int (.inl ⟨by decide, by decide⟩)) xd_int) xa_nil))) (xv_name 0 rfl) hBe (fun r hr0 Hf sBf hBf => ?_) (hz := by show 3 ≤ 1000; decide)) scReadR.nd
    have S2 := S1.trans sBf
    clear hr0
    -- day, time
    have cD : ∀ {σ : L2.St} {Hx : Hp} {e : Expr} {p1 pos : Pos}, XV (cxOf CX0 P w K mg base nRR "_law_readings_right" (defScope sReadR) f cdv A outer s H E).nox σ Hx e (.int r) → starEach [e] (cxOf CX0 P w K mg base nRR "_law_readings_right" (defScope sReadR) f cdv A outer s H E).nox.env = (false, eval e (cxOf CX0 P w K mg base nRR "_law_readings_right" (defScope sReadR) f cdv A outer s H E).nox.env) :: starEach [] (cxOf CX0 P w K mg base nRR "_law_readings_right" (defScope sReadR) f cdv A outer s H E).nox.env → XD (cxOf CX0 P w K mg base nRR "_law_readings_right" (defScope sReadR) f cdv A outer s H E).nox [] σ Hx (.Call (.Name "day_of" p1) [e] [] pos) (.int (r / 1440)) := fun he hst H1 s1 Q q =>
      re_call (fn0 hD.G) hr4 hD.g hD.kp hD.b (ra_1 (he H1 s1 _ fun H2 s2 => ⟨.int r, "int", rfl, th_int, fun _ => ⟨r, rfl, fun H3 s3 => q _ H3 (s2.trans s3) (.int _)⟩, fun c => absurd rfl c⟩) hst) rfl (by decide) hst
    have cM : ∀ {σ : L2.St} {Hx : Hp} {e : Expr} {p1 pos : Pos}, XV (cxOf CX0 P w K mg base nRR "_law_readings_right" (defScope sReadR) f cdv A outer s H E).nox σ Hx e (.int r) → starEach [e] (cxOf CX0 P w K mg base nRR "_law_readings_right" (defScope sReadR) f cdv A outer s H E).nox.env = (false, eval e (cxOf CX0 P w K mg base nRR "_law_readings_right" (defScope sReadR) f cdv A outer s H E).nox.env) :: starEach [] (cxOf CX0 P w K mg base nRR "_law_readings_right" (defScope sReadR) f cdv A outer s H E).nox.env → XD (cxOf CX0 P w K mg base nRR "_law_readings_right" (defScope sReadR) f cdv A outer s H E).nox [] σ Hx (.Call (.Name "time_of" p1) [e] [] pos) (.int (r % 1440)) := fun he hst H1 s1 Q q =>
      re_call (fn0 hM.G) hr4 hM.g hM.kp hM.b (ra_1 (he H1 s1 _ fun H2 s2 => ⟨.int r, "int", rfl, th_int, fun _ => ⟨r, rfl, fun H3 s3 => q _ H3 (s2.trans s3) (.int _)⟩, fun c => absurd rfl c⟩) hst) rfl (by decide) hst
    refine rb_par (M := []) 2 3 (xa_cons (cD (xv_name 1 rfl) rfl) (xa_cons (cM (xv_name 1 rfl) rfl) xa_nil)) (fun vd vt Hg sg1 hvd hvt => ?_) scReadR.nd
    have ed := dp_int hvd
    have et := dp_int hvt
    subst ed; subst et
    have t0 : 0 ≤ r % 1440 := Int.emod_nonneg _ (by decide)
    have t1 : r % 1440 ≤ 1439 := by have := Int.emod_lt_of_pos r (show (0 : Int) < 1440 by decide); omega
    have sum : r / 1440 * 1440 + r % 1440 = r := by omega
    generalize hdd : r / 1440 = dd at *
    generalize htt : r % 1440 = tt at *
    refine rb_ifF ((xt_or3 (k1 := false) (k2 := false) (k3 := false) ((xt_neI (M := []) (xd_add (xd_mul xd_int (xv_name 2 rfl).int (.inl ⟨by decide, by decide⟩)) (xv_name 3 rfl).int) (xv_name 1 rfl).int).to (by rw [decide_eq_true (show 1440 * dd + tt = r by omega)]; rfl)) (fun _ => (xt_not (xt_chainI (M := []) op_le op_lt xd_int (xv_name 3 rfl).int xd_int)).to (by rw [decide_eq_true t0, decide_eq_true (show tt < 1440 by omega)]; rfl)) fun _ _ => (xt_neI (M := []) (m := dd * 1440 + tt) (fun H1 s1 Q q => re_call (fn0 hR.G) hr hR.g hR.kp hR.b (ra_cons ((xv_name 2 rfl) H1 s1 _ fun H2 s2 => ra_1 (XV.go (xv_name 3 rfl) fun H3 s3 => ⟨.int dd, .int tt, "int", "int", rfl, th_int, th_int, fun c => absurd rfl c, fun _ c => absurd ⟨tt, rfl, t0, t1⟩ c, fun d2 t2 e1 e2 _ _ H4 s4 => by
      cases e1; cases e2
      exact q _ H4 ((s2.trans s3).trans s4) (.int _)⟩)))) (xv_name 1 rfl).int).to (by rw [decide_eq_true sum]; rfl)).to rfl) fun Hh sh => ?_
    -- the text
    refine rb_set (M := []) (d := .str (ttext tt)) 4 (fun H1 s1 Q q => re_call (fn0 hX.G) hr hX.g hX.kp hX.b (ra_1 ((xv_name 3 rfl) H1 s1 _ fun H2 s2 => ⟨.int tt, "int", rfl, th_int, fun t2 e1 _ _ H3 s3 => by
      cases e1
      exact q _ H3 (s2.trans s3) (.str _), fun c => absurd ⟨tt, rfl, t0, t1⟩ c⟩))) (fun v4 Hi si hv4 => ?_) scReadR.nd
    have e4 := dp_str hv4
    subst e4
    have b1 : 0 ≤ tt / 60 ∧ tt / 60 < 60 := by omega
    have b2 : 0 ≤ tt % 60 ∧ tt % 60 < 60 := by omega
    have sm1 := two_small b1.1 b1.2
    have sm2 := two_small b2.1 b2.2
    have tl1 := two_len' b1.1 b1.2
    have tl2 := two_len' b2.1 b2.2
    refine rb_ifF ((xt_or2 (k1 := false) (k2 := false) ((xt_neS (M := []) (x := ttext tt) (y := (two (tt / 60) ++ (":" : Str)) ++ two (tt % 60)) (xd_name 4 rfl (.str _))
        (xd_addS (xd_addS ((xd_cutS (xd_addS (x := "0") xd_str (xd_strI T.str (xd_div (xv_name 3 rfl).int xd_int (cdiv0 (by decide) (by decide))) (by exact log_small b1)) (by show 1 + _ ≤ 100000; omega)) (xo_some (M := []) (xd_neg xd_int)) xo_none (by rw [Str.length_append]; show 1 + _ ≤ 100000; omega)).to (by rw [two_cat b1.1 b1.2])) xd_str (by rw [tl1]; show 2 + 1 ≤ _; decide))
          ((xd_cutS (xd_addS (x := "0") xd_str (xd_strI T.str (xd_mod (xv_name 3 rfl).int xd_int (by decide)) (by exact log_small b2)) (by show 1 + _ ≤ 100000; omega)) (xo_some (M := []) (xd_neg xd_int)) xo_none (by rw [Str.length_append]; show 1 + _ ≤ 100000; omega)).to (by rw [two_cat b2.1 b2.2])) (by rw [Str.length_append, tl1, tl2]; show 2 + 1 + 2 ≤ _; decide))).to (by
            rw [decide_eq_true (show ttext tt = (two (tt / 60) ++ (":" : Str)) ++ two (tt % 60) by unfold ttext; rw [Str.empty_append])]; rfl))
      fun _ => (xt_neI (M := []) (m := tt) (n := tt) (fun H1 s1 Q q => re_call (fn0 hF.G) hr3 hF.g hF.kp hF.b (ra_1 ((xv_name 4 rfl) H1 s1 _ fun H2 s2 => ⟨.str (ttext tt), "str", rfl, th_str, fun x e => by cases e; rw [tt_len t0 t1]; decide, fun x t2 e1 e2 H3 s3 => by
        cases e1
        rw [tt_back t0 t1] at e2
        cases e2
        exact q _ H3 (s2.trans s3) (.int _), fun c => absurd ((tt_back t0 t1).symm.trans (c _ rfl)) (by simp)⟩))) (xv_name 3 rfl).int).to (by rw [decide_eq_true rfl]; rfl)).to rfl) fun Hj sj => ?_
    have S3 : SameB b H Hj := S2.trans (.of (((sg1.trans sh).trans si).trans sj))
    have hBj : BagAt Hj b (n + 4) := hBf.up (((sg1.trans sh).trans si).trans sj) (by omega)
    -- low
    refine rb_setR 5 (re_subI (re_take GT FT hr1 (xv_name 0 rfl) xv_int hBj fun lw Hk l0 l1 sBk hBk => ⟨lw, rfl, XV.go xv_int fun Hl sl => ⟨10, rfl, ?_⟩⟩)) scReadR.nd
    have S4 : SameB b H Hl := (S3.trans sBk).trans (.of sl)
    have hBl : BagAt Hl b (n + 5) := hBk.up sl (by omega)
    generalize lw - 10 = lo
    refine rb_for (M := []) (ds := (numsRR lo).map PyData.int) (xd_lst Live.nil (xa_cons (xd_sub (xv_name 5 rfl).int xd_int) (xa_cons (xv_name 5 rfl).int (xa_cons (xd_add (xv_name 5 rfl).int xd_int) (xa_cons (xd_add (xv_name 5 rfl).int xd_int) (xa_cons xd_int (xa_cons xd_int (xa_cons xd_int (xa_cons (xd_sub xd_int xd_int) xa_nil)))))))) (by show 8 ≤ 100000; decide)) fun Hm sm => ⟨fun k σ' Hx => Same Hm Hx ∧ ∃ x6 x7, σ' = [some (.ref b), some (.int r), some (.int dd), some (.int tt), some (.str (ttext tt)), some (.int lo), x6, x7], ⟨Same.refl _, _, _, rfl⟩, fun k σ' Hx h => ?_, fun k d hk σ' Hx v hp hv => ?_, fun σ' Hx hp => ?_⟩
    · exact hid_mono h.1
    · obtain ⟨sX, x6, x7, rfl⟩ := hp
      rw [List.getElem?_map] at hk
      obtain ⟨nn, hnn, rfl⟩ := Option.map_eq_some_iff.mp hk
      have ev := dp_int hv
      subst ev
      refine rg_name 6 ?_ scReadR.nd
      refine rb_set (M := []) 7 (xd_lst Live.nil (xa_cons (xd_chainV op_le op_le (xv_name 5 rfl).int (xv_name 6 rfl).int (xd_add (xv_name 5 rfl).int xd_int)) (xa_cons (xd_chainV op_le op_le xd_int (xv_name 6 rfl).int xd_int) xa_nil))) (fun v7 Hn sn hv7 => ?_) scReadR.nd
      refine rb_ifF (xt_reprNe (M := []) hA hr.units T.rep (xd_lst Live.nil (xa_cons (fun H1 s1 Q q => re_call hI.G hr2 hI.g hI.kp hI.b (ra_cons ((xv_name 6 rfl) H1 s1 _ fun H2 s2 => ra_cons (XV.go (xv_name 5 rfl) fun H3 s3 => ra_1 (XD.go (M := []) (xd_add (xv_name 5 rfl).int xd_int) fun v9 H4 s4 hv9 => ⟨.int nn, "int", lo, lo + 3, by rw [dp_int hv9], th_int, fun _ => ⟨nn, rfl, fun H5 s5 => q _ H5 (((s2.trans s3).trans s4).trans s5) (.bl _)⟩, fun c => absurd rfl c⟩)))))
        (xa_cons (fun H1 s1 Q q => re_call hIT.G hr3 hIT.g hIT.kp hIT.b (ra_1 ((xv_name 6 rfl) H1 s1 _ fun H2 s2 => ⟨.int nn, "int", rfl, th_int, fun _ => ⟨nn, rfl, fun H3 s3 => q _ H3 (s2.trans s3) (.bl _)⟩, fun c => absurd rfl c⟩))) xa_nil))) (xd_name 7 rfl hv7) ?_ ?_ ?_ ?_) fun Ho so => rb_nil ⟨(sX.trans sn).trans so, _, _, rfl⟩
      · rfl
      · rfl
      · have z : ∀ b1 b2 : Bool, (PyData.list [.bool b1, .bool b2]).depth ≤ 60 := by decide +kernel
        exact z _ _
      · have z : ∀ b1 b2 : Bool, (PyData.list [.bool b1, .bool b2]).shown.length ≤ sizeLine := by decide +kernel
        exact z _ _
    · obtain ⟨sX, x6, x7, rfl⟩ := hp
      exact rb_ret (M := []) xd_bl fun v9 H9 s9 hv9 => by
        rw [dp_bl hv9]
        exact q H9 (((S4.trans (.of sm)).trans (.of sX)).trans (.of s9)) (hBl.up ((sm.trans sX).trans s9) (Nat.le_refl _))
end
end Zn

set_option Elab.async false
set_option linter.all false
set_option maxRecDepth 100000
set_option maxHeartbeats 4000000
namespace Zn
open PySem PySem.Spec PyProof.Rows L2 Dl
/-! k02: repr of values with {} -/
mutual
/-- data of the hand's own things, {} among them -/
inductive Dz (H : Hp) : V → PyData → Prop
  | non : Dz H .non .none
  | bl (b : Bool) : Dz H (.bl b) (.bool b)
  | int (i : Int) : Dz H (.int i) (.int i)
  | str (x : Str) : Dz H (.str x) (.str x)
  | lst {a : Addr} {xs : List V} {ds : List PyData} : a ≠ sysModules → H a = some (.lst xs) → DzAll H xs ds → Dz H (.ref a) (.list ds)
  | tup {a : Addr} {xs : List V} {ds : List PyData} : H a = some (.tup xs) → DzAll H xs ds → Dz H (.ref a) (.tuple ds)
  | dic {a : Addr} : H a = some (.dK []) → Dz H (.ref a) (.dict [])
inductive DzAll (H : Hp) : List V → List PyData → Prop
  | nil : DzAll H [] []
  | cons {v : V} {vs : List V} {d : PyData} {ds : List PyData} : Dz H v d → DzAll H vs ds → DzAll H (v :: vs) (d :: ds)
end
mutual
theorem Dz.up {H H1 : Hp} (s : Same H H1) : ∀ {d : PyData} {v : V}, Dz H v d → Dz H1 v d
  | _, _, .non => .non
  | _, _, .bl b => .bl b
  | _, _, .int i => .int i
  | _, _, .str x => .str x
  | _, _, .lst n h a => .lst n (s _ _ h) (DzAll.up s a)
  | _, _, .tup h a => .tup (s _ _ h) (DzAll.up s a)
  | _, _, .dic h => .dic (s _ _ h)
theorem DzAll.up {H H1 : Hp} (s : Same H H1) : ∀ {ds : List PyData} {vs : List V}, DzAll H vs ds → DzAll H1 vs ds
  | _, _, .nil => .nil
  | _, _, .cons a b => .cons (Dz.up s a) (DzAll.up s b)
end
section
variable {X : Cx} {pins : List (Addr × Obj)} {σ : L2.St} {H : Hp} {s : Shared}
mutual
theorem Dz.reads (I : Inv X pins σ H s) : ∀ (d : PyData) (v : V) (u : Value), Dz H v d → RelV v u → ∃ as, Reads s.heap u d as ∧ sysModules ∉ as
  | .none, _, _, h, r => by
    cases h
    cases r
    exact ⟨_, Reads.none, by simp⟩
  | .bool b, _, _, h, r => by
    cases h
    cases r
    exact ⟨_, Reads.bool b, by simp⟩
  | .int i, _, _, h, r => by
    cases h
    obtain ⟨t, rfl⟩ := r
    exact ⟨_, Reads.int i t, by simp⟩
  | .str x, _, _, h, r => by
    cases h
    obtain ⟨t, rfl⟩ := r
    exact ⟨_, Reads.str x t, by simp⟩
  | .list ds, _, _, h, r => by
    cases h with
    | lst ns hs ha =>
      cases r
      obtain ⟨its, rv, ⟨o, n, ho, hc, _, hd⟩, _⟩ := I.list (SqL.of hs)
      obtain ⟨as, hr, hn⟩ := Dz.readsAll I ds _ its ha rv
      exact ⟨_, Reads.list ho hc hd hr, fun z => by
        rcases List.mem_cons.mp z with z | z
        · exact ns z.symm
        · exact hn z⟩
  | .tuple ds, _, _, h, r => by
    cases h with
    | tup hs ha =>
      cases r
      obtain ⟨its, rv, ⟨o, ho, hc, n, hd⟩, _⟩ := I.tuple (SqT.of hs)
      obtain ⟨as, hr, hn⟩ := Dz.readsAll I ds _ its ha rv
      exact ⟨_, Reads.tuple ho hc hd hr, hn⟩
  | .dict kvs, _, _, h, r => by
    cases h with
    | dic hs =>
      cases r
      obtain ⟨_, nsy, vs, rel, o, es, ep, ho, hx, hd, _, pr, _⟩ := dk_of I.hok hs
      cases rel
      have he : es.toList = [] := by
        cases q : es.toList with
        | nil => rfl
        | cons a b => rw [q] at pr; cases pr
      refine ⟨_, Reads.dict (as := []) (bs := []) ho hx.1 hd (by rw [he]; exact .nil) (by rw [he]; exact .nil), fun z => ?_⟩
      rcases List.mem_cons.mp z with z | z
      · rw [← z] at nsy; simp at nsy
      · cases z
theorem Dz.readsAll (I : Inv X pins σ H s) : ∀ (ds : List PyData) (vs : List V) (us : List Value), DzAll H vs ds → Vals vs us → ∃ as, ReadsAll s.heap us ds as ∧ sysModules ∉ as
  | [], _, _, h, r => by
    cases h
    cases r
    exact ⟨_, ReadsAll.nil, by simp⟩
  | d :: ds, _, _, h, r => by
    cases h with
    | cons h1 h2 =>
      cases r with
      | cons r1 r2 =>
        obtain ⟨as, q1, n1⟩ := Dz.reads I d _ _ h1 r1
        obtain ⟨bs, q2, n2⟩ := Dz.readsAll I ds _ _ h2 r2
        exact ⟨_, ReadsAll.cons q1 q2, fun z => by
          rcases List.mem_append.mp z with z | z
          · exact n1 z
          · exact n2 z⟩
end
end
section
variable {X : Cx} {σ : L2.St} {H : Hp} {a b : Expr} {pos p1 p2 : Pos} {Q : VK}
theorem call_reprZ (hA : X.A.guards = some []) (hu : X.A.units + 64 < cLine) : CallR X (.builtin "repr") (fun xs H Q => ∃ (p : Addr) (d : PyData), xs = [.ref p] ∧ Dz H (.ref p) d ∧ d.showable = true ∧ d.depth ≤ 60 ∧ d.shown.length ≤ sizeLine ∧ Q (.str d.shown) H) := by
  intro pins s σ H xs us Q I r h
  obtain ⟨p, d, rfl, hd, h1, h3, h4, q⟩ := h
  obtain ⟨u, rfl, rx⟩ := vals1 r
  obtain ⟨as, rd, hn⟩ := Dz.reads I d _ u hd rx
  cases rx
  exact repr_of_reads' rd h1 (fun _ => hn) hA (by omega) (fun _ _ z => z) (fun h' u tk hk => ⟨.str d.shown, H, I.kept (t' := tk) hk, ⟨u, rfl⟩, q⟩) h4
end
end Zn

set_option Elab.async false
set_option linter.all false
set_option maxRecDepth 100000
set_option maxHeartbeats 4000000
namespace Zn
open PySem PySem.Spec PyProof.Rows L2 Dl
/-! k02: expressions by Dz -/
theorem dz_app {H : Hp} : ∀ {xs : List V} {ds : List PyData} {ys : List V} {es : List PyData}, DzAll H xs ds → DzAll H ys es → DzAll H (xs ++ ys) (ds ++ es)
  | _, _, _, _, .nil, k => k
  | _, _, _, _, .cons a b, k => .cons a (dz_app b k)
theorem dz_rep {H : Hp} {xs : List V} {ds : List PyData} (h : DzAll H xs ds) : ∀ n : Nat, DzAll H (List.replicate n xs).flatten (List.replicate n ds).flatten
  | 0 => .nil
  | n + 1 => by
    rw [List.replicate_succ, List.replicate_succ, List.flatten_cons, List.flatten_cons]
    exact dz_app h (dz_rep h n)
theorem dz_len {H : Hp} : ∀ {xs : List V} {ds : List PyData}, DzAll H xs ds → xs.length = ds.length
  | _, _, .nil => rfl
  | _, _, .cons _ b => by rw [List.length_cons, List.length_cons, dz_len b]
theorem dz_lst {H : Hp} {v : V} {ds : List PyData} (h : Dz H v (.list ds)) : ∃ a xs, v = .ref a ∧ H a = some (.lst xs) ∧ DzAll H xs ds := by
  cases h with
  | lst _ e a => exact ⟨_, _, rfl, e, a⟩
theorem hid_nil {H : Hp} {a : Addr} {o : HO} (e : H a = some o) : hid [] H a = some o := by rw [hid_of (by simp)]; exact e
mutual
/-- no dict in it -/
def noD : PyData → Bool
  | .list ds => noDs ds
  | .tuple ds => noDs ds
  | .dict _ => false
  | _ => true
def noDs : List PyData → Bool
  | [] => true
  | d :: ds => noD d && noDs ds
end
mutual
theorem Dz.dq {K : PySem.W.Frag} {H : Hp} : ∀ {d : PyData} {v : V}, Dz H v d → noD d = true → Dq K (hid [] H) v d
  | _, _, .non, _ => .non
  | _, _, .bl b, _ => .bl b
  | _, _, .int i, _ => .int i
  | _, _, .str x, _ => .str x
  | _, _, .lst _ h a, n => .lst (hid_nil h) (DzAll.dq a (by simpa [noD] using n))
  | _, _, .tup h a, n => .tup (SqT.of (hid_nil h)) (DzAll.dq a (by simpa [noD] using n))
  | _, _, .dic h, n => by simp [noD] at n
theorem DzAll.dq {K : PySem.W.Frag} {H : Hp} : ∀ {ds : List PyData} {vs : List V}, DzAll H vs ds → noDs ds = true → DqAll K (hid [] H) vs ds
  | _, _, .nil, _ => .nil
  | _, _, .cons a b, n => by
    simp only [noDs, Bool.and_eq_true] at n
    exact .cons (Dz.dq a n.1) (DzAll.dq b n.2)
end
/-- an expression comes to this, nothing changed -/
def XZ (X : Cx) (σ : L2.St) (H : Hp) (e : Expr) (d : PyData) : Prop := ∀ H1, Same H H1 → ∀ Q : VK, (∀ v H2, Same H1 H2 → Dz H2 v d → Q v H2) → RE X e σ H1 Q
def XZA (X : Cx) (σ : L2.St) (H : Hp) (es : List Expr) (ds : List PyData) : Prop := ∀ H1, Same H H1 → ∀ Q : List V → Hp → Prop, (∀ vs H2, Same H1 H2 → DzAll H2 vs ds → Q vs H2) → RA X es σ H1 Q
section
variable {X : Cx} {σ : L2.St} {H : Hp} {a b e : Expr} {es : List Expr} {d : PyData} {ds ds2 : List PyData} {v : V} {pos p1 p2 pa pb : Pos} {j : Nat}
theorem XV.xz (h : XV X σ H e v) (hd : Dz H v d) : XZ X σ H e d := fun H1 s Q q => h H1 s _ fun H2 s2 => q v H2 s2 (Dz.up (s.trans s2) hd)
theorem XZ.xd (h : XZ X σ H e d) (n : noD d = true) : XD X [] σ H e d := fun H1 s Q q => h H1 s Q fun v H2 s2 hv => q v H2 s2 (Dz.dq hv n)
theorem xz_nil : XZA X σ H [] [] := fun H1 _ Q q => ⟨_, pa_nil, q [] H1 (Same.refl _) .nil⟩
theorem xz_cons (ha : XZ X σ H e d) (hr : XZA X σ H es ds) (hs : starEach (e :: es) X.env = (false, eval e X.env) :: starEach es X.env := by rfl) : XZA X σ H (e :: es) (d :: ds) := fun H1 s Q q =>
  ra_cons (ha H1 s _ fun v H2 s2 hv => hr H2 (s.trans s2) _ fun vs H3 s3 hvs => q _ H3 (s2.trans s3) (.cons (Dz.up s3 hv) hvs)) hs
theorem xz_lst (h : XZA X σ H es ds) (hl : ds.length ≤ 100000 := by simp) : XZ X σ H (.List es pos) (.list ds) := fun H1 s Q q =>
  ⟨_, pe_lstN ra_, h H1 s _ fun vs H2 s2 hvs => ⟨by rw [dz_len hvs]; exact small_sz hl, fun p hp hn => q _ _ (s2.trans (same_new hp)) (.lst hn upd_same (DzAll.up (same_new hp) hvs))⟩⟩
theorem xz_tup {x1} (h : XZA X σ H es ds) (hl : ds.length ≤ 100000 := by simp) : XZ X σ H (.Tuple es x1 pos) (.tuple ds) := fun H1 s Q q =>
  ⟨_, pe_tup ra_, h H1 s _ fun vs H2 s2 hvs => ⟨by rw [dz_len hvs]; exact small_sz hl, fun p hp => q _ _ (s2.trans (same_new hp)) (.tup upd_same (DzAll.up (same_new hp) hvs))⟩⟩
theorem xz_dic : XZ X σ H (.Dict [] [] pos) (.dict []) := fun H1 s Q q => ⟨_, pe_dnewK, fun p hp => q _ _ (same_new hp) (.dic upd_same)⟩
theorem xz_str {z : Str} : XZ X σ H (.Constant (.str z) j pos) (.str z) := XV.xz xv_str (.str z)
theorem xz_int {z : Int} : XZ X σ H (.Constant (.int z) j pos) (.int z) := XV.xz xv_int (.int z)
/-- a list, wherever it lies -/
def XW (X : Cx) (σ : L2.St) (H : Hp) (e : Expr) (ds : List PyData) : Prop := ∀ H1, Same H H1 → ∀ Q : VK, (∀ l xs H2, Same H1 H2 → H2 l = some (.lst xs) → DzAll H2 xs ds → Q (.ref l) H2) → RE X e σ H1 Q
theorem XZ.xw (h : XZ X σ H e (.list ds)) : XW X σ H e ds := fun H1 s Q q => h H1 s Q fun v H2 s2 hv => by
  obtain ⟨l, xs, rfl, h1, h2⟩ := dz_lst hv
  exact q l xs H2 s2 h1 h2
theorem XW.xd (h : XW X σ H e ds) (n : noDs ds = true) : XD X [] σ H e (.list ds) := fun H1 s Q q => h H1 s Q fun l xs H2 s2 h1 h2 => q _ H2 s2 (.lst (hid_nil h1) (DzAll.dq h2 n))
theorem xz_cat (ha : XW X σ H a ds) (hb : XW X σ H b ds2) (hl : ds.length + ds2.length ≤ 100000 := by simp) : XZ X σ H (.BinOp a .Add b pos) (.list (ds ++ ds2)) := fun H1 s Q q =>
  re_bin op_catN (ha H1 s _ fun l xs H2 s2 h1 h2 => hb H2 (s.trans s2) _ fun m ys H3 s3 h3 h4 =>
    ⟨l, m, xs, ys, rfl, rfl, s3 _ _ h1, h3, by rw [dz_len h2, dz_len h4]; exact small_sz hl, fun p hp hn => q _ _ ((s2.trans s3).trans (same_new hp)) (.lst hn upd_same (dz_app (DzAll.up (s3.trans (same_new hp)) h2) (DzAll.up (same_new hp) h4)))⟩)
theorem xz_rep {n : Nat} (ha : XW X σ H a ds) (hl : ds.length * n ≤ 100000 := by simp) (hn : n ≤ 1000 := by decide) : XW X σ H (.BinOp a .Mult (.Constant (.int (n : Int)) j p1) pos) (List.replicate n ds).flatten := fun H1 s Q q =>
  re_bin op_rep (ha H1 s _ fun l xs H2 s2 h1 h2 => XV.go xv_int fun H3 s3 => by
    refine ⟨l, n, xs, rfl, rfl, s3 _ _ h1, by omega, by omega, ?_, fun p hp => ?_⟩
    · rw [dz_len h2]; exact small_sz hl
    · exact q _ _ _ ((s2.trans s3).trans (same_new hp)) upd_same (dz_rep (DzAll.up (s3.trans (same_new hp)) h2) n))
theorem xt_reprNeZ (hA : X.A.guards = some []) (hu : X.A.units + 64 < cLine) (hm : X.mg "repr" = none) (ha : XZ X σ H a (.list ds)) (hb : XZ X σ H b (.list ds)) (h1 : (PyData.list ds).showable = true) (h3 : (PyData.list ds).depth ≤ 60) (h4 : (PyData.list ds).shown.length ≤ sizeLine) (hg : Gl X "repr" := by rfl)
    (he : starEach [a] X.env = (false, eval a X.env) :: starEach [] X.env := by rfl) (hpl : (backTo pa (starEach [] X.env)).any (·.1) = false := by rfl) (he2 : starEach [b] X.env = (false, eval b X.env) :: starEach [] X.env := by rfl) (hpl2 : (backTo pb (starEach [] X.env)).any (·.1) = false := by rfl) :
    XT X σ H (.Compare (.Call (.Name "repr" p1) [a] [] pa) [.NotEq] [.Call (.Name "repr" p2) [b] [] pb] pos) false := by
  have key : ∀ {e : Expr} {pp qq : Pos}, XZ X σ H e (.list ds) → starEach [e] X.env = (false, eval e X.env) :: starEach [] X.env → (backTo qq (starEach [] X.env)).any (·.1) = false → XD X [] σ H (.Call (.Name "repr" pp) [e] [] qq) (.str (PyData.list ds).shown) := fun {e pp qq} h z1 z2 H1 s Q q =>
    re_B (call_reprZ hA hu) (ra_1 (h H1 s _ fun v H2 s2 hv => by
      obtain ⟨p, xs, rfl, hp, hx⟩ := dz_lst hv
      exact ⟨p, _, rfl, hv, h1, h3, h4, q _ H2 s2 (.str _)⟩) z1) hm (by decide +kernel) hg (by decide) (by decide) z1 z2
  refine xt_cmp op_ne (key ha he hpl) (key hb he2 hpl2) fun H1 v w s hv hw Q q => ?_
  rw [dp_str hv, dp_str hw]
  exact ⟨rfl, by rw [decide_eq_true rfl]; exact q H1 (Same.refl _)⟩
/-- _law_told(way, e, e2) -/
theorem xz_told {f : Addr} {fd : FuncData} {way : Int} {u : V} {T U : String} {k : Str} {w : V} (hT : Hs X.prog X.w X.K X.mg X.base CX0 6 "_law_told" ["_law_way", "_law_one", "_law_two"] (spTold X.K) f fd) (hr : Room 6 X.A) (ha : XV X σ H a v) (hb : XV X σ H b u) (tv : Th X.K H v T) (tu : Th X.K H u U) (hz : ∀ x, v = .str x → x.length ≤ 1000)
    (ht : ∀ k1 w1, Tol way v u k1 w1 → k1 = k ∧ w1 = w) (hd : Dz H w d) (h0 : 0 ≤ way := by decide) (h1 : way ≤ 4 := by decide) (hg : Gl X "_law_told" := by rfl)
    (hs : starEach [.Constant (.int way) j p2, a, b] X.env = (false, eval (.Constant (.int way) j p2) X.env) :: starEach [a, b] X.env := by rfl) (hs1 : starEach [a, b] X.env = (false, eval a X.env) :: starEach [b] X.env := by rfl) (hs2 : starEach [b] X.env = (false, eval b X.env) :: starEach [] X.env := by rfl) (hpl : (backTo pos (starEach [a, b] X.env)).any (·.1) = false := by rfl) :
    XZ X σ H (.Call (.Name "_law_told" p1) [.Constant (.int way) j p2, a, b] [] pos) (.list [.str k, d]) := fun H1 s Q q =>
  re_call hT.G hr hT.g hT.kp hT.b (ra_cons (XV.go xv_int fun H2 s2 => ra_cons ((ha.up (s.trans s2)).go fun H3 s3 => ra_1 ((hb.up ((s.trans s2).trans s3)).go fun H4 s4 =>
    ⟨way, v, u, T, U, rfl, h0, h1, tv.up (((s.trans s2).trans s3).trans s4), tu.up (((s.trans s2).trans s3).trans s4), hz, fun k1 w1 t p H5 s5 hp hn e => by
      obtain ⟨rfl, rfl⟩ := ht k1 w1 t
      exact q _ H5 (((s2.trans s3).trans s4).trans s5) (.lst hn e (.cons (.str _) (.cons (Dz.up ((((s.trans s2).trans s3).trans s4).trans s5) hd) .nil)))⟩) hs2) hs1) hs) hg (by decide) hs hpl
end
end Zn

set_option Elab.async false
set_option linter.all false
set_option maxRecDepth 100000
set_option maxHeartbeats 8000000
namespace Zn
open PySem PySem.Spec PyProof.Rows L2 Dl
/-! k02: the law's own odd_right -/
abbrev sOdd : Stmt := top 34
abbrev nOdd : List Str := ["_law_thing", "_law_found", "_law_due", "_law_number"]
def oddL : List PyData := [.none, .bool true, .str "3", .bool false, .list [.int 3], .tuple [.int 3], .dict []]
def found1 (d : PyData) : List PyData := [.list [.str "integer", d], .list [.str "integer", d], .list [.str "integer", d], .list [.str "time", d]]
def found2 (d : PyData) : List PyData := [.list [.str "time", d], .list [.bool false, .bool false]]
theorem odd_show : ∀ d ∈ oddL, (PyData.list (found1 d ++ found2 d)).showable = true ∧ (PyData.list (found1 d ++ found2 d)).depth ≤ 60 ∧ (PyData.list (found1 d ++ found2 d)).shown.length ≤ sizeLine := by decide +kernel
theorem odd_th {K : PySem.W.Frag} {H : Hp} {d : PyData} {v : V} (hd : d ∈ oddL) (hz : Dz H v d) : ∃ T, Th K H v T ∧ T ≠ "int" ∧ ∀ x, v = .str x → x.length ≤ 1000 := by
  simp only [oddL, List.mem_cons, List.not_mem_nil, or_false] at hd
  rcases hd with rfl | rfl | rfl | rfl | rfl | rfl | rfl
  · cases hz
    exact ⟨"NoneType", ⟨fun _ _ => .base .non, by decide, fun _ z => V.noConfusion z, fun z => absurd z (by decide), fun _ z => V.noConfusion z, fun z => absurd z (by decide)⟩, by decide, fun _ z => V.noConfusion z⟩
  · cases hz
    exact ⟨"bool", ⟨fun _ _ => .base (.bl _), by decide, fun _ z => V.noConfusion z, fun z => absurd z (by decide), fun _ z => V.noConfusion z, fun z => absurd z (by decide)⟩, by decide, fun _ z => V.noConfusion z⟩
  · cases hz
    exact ⟨"str", th_str, by decide, fun x z => by cases z; decide⟩
  · cases hz
    exact ⟨"bool", ⟨fun _ _ => .base (.bl _), by decide, fun _ z => V.noConfusion z, fun z => absurd z (by decide), fun _ z => V.noConfusion z, fun z => absurd z (by decide)⟩, by decide, fun _ z => V.noConfusion z⟩
  · cases hz with
    | lst _ e _ => exact ⟨"list", ⟨fun _ s => .base (.lst (s _ _ e)), by decide, fun _ z => V.noConfusion z, fun z => absurd z (by decide), fun _ z => V.noConfusion z, fun z => absurd z (by decide)⟩, by decide, fun _ z => V.noConfusion z⟩
  · cases hz with
    | tup e _ => exact ⟨"tuple", ⟨fun _ s => .base (.tup (s _ _ e)), by decide, fun _ z => V.noConfusion z, fun z => absurd z (by decide), fun _ z => V.noConfusion z, fun z => absurd z (by decide)⟩, by decide, fun _ z => V.noConfusion z⟩
  · cases hz with
    | dic e => exact ⟨"dict", ⟨fun _ s => .base (.dK (s _ _ e)), by decide, fun _ z => V.noConfusion z, fun z => absurd z (by decide), fun _ z => V.noConfusion z, fun z => absurd z (by decide)⟩, by decide, fun _ z => V.noConfusion z⟩
section
variable {v u : V} (nv : ∀ n, v ≠ .int n)
include nv
theorem nokT : ¬ okTime v := fun ⟨n, e, _⟩ => nv n e
theorem tol_0 (k : Str) (w : V) (t : Tol 0 v u k w) : k = "integer" ∧ w = v := by
  cases t with
  | d0 => exact absurd rfl (nv _)
  | x0 h => exact ⟨rfl, rfl⟩
theorem tol_1 (k : Str) (w : V) (t : Tol 1 v u k w) : k = "integer" ∧ w = v := by
  cases t with
  | d1 => exact absurd rfl (nv _)
  | x1 h => exact ⟨rfl, rfl⟩
theorem tol_2 (k : Str) (w : V) (t : Tol 2 v u k w) : k = "integer" ∧ w = v := by
  cases t with
  | d2 h0 h1 => exact absurd rfl (nv _)
  | x2 h => exact ⟨rfl, rfl⟩
  | y2 h => exact absurd rfl (nv _)
theorem tol_3 (k : Str) (w : V) (t : Tol 3 v u k w) : k = "time" ∧ w = v := by
  cases t with
  | d3 h0 h1 => exact absurd rfl (nv _)
  | x3 h => exact ⟨rfl, rfl⟩
end
theorem tol_2t {d : Int} {v : V} (nv : ¬ okTime v) (k : Str) (w : V) (t : Tol 2 (.int d) v k w) : k = "time" ∧ w = v := by
  cases t with
  | d2 h0 h1 => exact absurd ⟨_, rfl, h0, h1⟩ nv
  | x2 h => exact absurd rfl (h _)
  | y2 h => exact ⟨rfl, rfl⟩
theorem tol_3t {v u : V} (nv : ¬ okTime v) (k : Str) (w : V) (t : Tol 3 v u k w) : k = "time" ∧ w = v := by
  cases t with
  | d3 h0 h1 => exact absurd ⟨_, rfl, h0, h1⟩ nv
  | x3 h => exact ⟨rfl, rfl⟩
section
variable {X : Cx} {σ : L2.St} {H : Hp} {e : Expr} {d : PyData} {ds : List PyData} {pos : Pos} {D : Ends} {rest : List Stmt}
theorem rb_setZ (i : Nat) {x : Str} {pos' : Pos} (h : XZ X σ H e d) (k : ∀ v H1, Same H H1 → Dz H1 v d → RB X rest D (σ.set i (some v)) H1) (hN : X.N.Nodup) (hi : X.N[i]? = some x := by rfl) (hx : Loc X.env.scope x := by first | exact Or.inl rfl | exact Or.inr rfl)
    (hs : swapsWith e (some (.Name x pos')) pos.line X.env = pure false := by rfl) (hf : X.fn x = true ∨ X.env.scope.names.lookup x = some .local := by first | exact .inl rfl | exact .inr rfl) : RB X (.Assign [.Name x pos'] e pos :: rest) D σ H :=
  rb_setR i (h H (Same.refl H) _ fun v H1 s hv => k v H1 s hv) hN hi hx hs hf
theorem dza_get {H : Hp} : ∀ {ds : List PyData} {xs : List V} {i : Nat} {x : V}, DzAll H xs ds → xs[i]? = some x → ∃ d, ds[i]? = some d ∧ Dz H x d
  | _, _, _, _, .nil, h => by simp at h
  | _, _, 0, _, .cons a b, h => by
    have e : _ = _ := Option.some.inj h
    subst e
    exact ⟨_, rfl, a⟩
  | _, _, i + 1, _, .cons a b, h => dza_get (i := i) b h
theorem rb_forZ {tg : Expr} {body : List Stmt} (hit : XZ X σ H e (.list ds))
    (h : ∀ H1, Same H H1 → ∃ Pv : Nat → L2.St → Hp → Prop, Pv 0 σ H1 ∧ (∀ k σ' H', Pv k σ' H' → Same H1 H') ∧
      (∀ k d, ds[k]? = some d → ∀ σ' H' v, Pv k σ' H' → Dz H' v d → RG X tg v σ' H' fun σ2 H2 => RB X body { D with nx := Pv (k + 1), ct := Pv (k + 1), bk := RB X rest D } σ2 H2) ∧ ∀ σ' H', Pv ds.length σ' H' → RB X rest D σ' H')
    (hp : PassesOwn (model X.prog X.w) X.A X.env X.xe := by exact PassesOwn.never) (hc : X.calm = true := by rfl) (hs : ∀ x, foldedSetIterable e X.env x = pure x := by intro _; rfl) : RB X (.For tg e body [] pos :: rest) D σ H :=
  ⟨_, pss_cons (ps_for hp hc (pi_list re_) rg_ rb_ hs) rb_, hit H (Same.refl H) _ fun v H1 s1 hv => by
    obtain ⟨a, xs, rfl, ha, hx⟩ := dz_lst hv
    obtain ⟨Pv, h0, hk, hst, hd⟩ := h H1 s1
    refine ⟨a, rfl, ⟨xs, SqL.of ha⟩, for_list (xs := xs) Pv h0 (fun i σ' H' _ p => SqL.of (hk i σ' H' p _ _ ha)) (fun i x σ' H' hi p => ?_) (by rw [dz_len hx]; exact hd)⟩
    obtain ⟨d, h1, h2⟩ := dza_get hx hi
    exact hst i d h1 σ' H' x p (Dz.up (hk i σ' H' p) h2)⟩
end
end Zn

set_option Elab.async false
set_option linter.all false
set_option maxRecDepth 100000
set_option maxHeartbeats 8000000
namespace Zn
open PySem PySem.Spec PyProof.Rows L2 Dl
/-! k02: the law's own odd_right, the def -/
theorem scOdd : FnScope nOdd [] (defScope sOdd) := ⟨rfl, rfl, rfl, by decide +kernel, rfl, by decide +kernel, by decide +kernel⟩
def spOdd : Sp := fun vs H Q _ => vs = [] ∧ ∀ H1, Same H H1 → Q (.bl true) H1
def numsO : List Int := [0 - 1, 1440, 10 ^ 29]
def dueN (n : Int) : List PyData := [.list [.str "time", .int n], .list [.str "time", .int n]]
theorem numsO_ok : ∀ n ∈ numsO, ¬ (0 ≤ n ∧ n ≤ 1439) ∧ PyData.eqv (.list (dueN n)) (.list (dueN n)) = true ∧ SeqAt.shaped (.list (dueN n)) = true := by decide +kernel
section
variable {X : Cx} {σ : L2.St} {H : Hp} {pos : Pos} {j : Nat}
theorem xz_non : XZ X σ H (.Constant .none j pos) .none := fun H1 _ Q q => ⟨_, pe_non, q _ H1 (Same.refl _) .non⟩
theorem xz_bl {b : Bool} : XZ X σ H (.Constant (.bool b) j pos) (.bool b) := fun H1 _ Q q => ⟨_, pe_bl, q _ H1 (Same.refl _) (.bl b)⟩
end
theorem tol_4 {v u : V} (ns : ∀ x, v ≠ .str x) (k : Str) (w : V) (t : Tol 4 v u k w) : k = "text" ∧ w = v := by
  cases t with
  | d4 h => exact absurd rfl (ns _)
  | x4 h => exact ⟨rfl, rfl⟩
def last3 : List PyData := [.none, .int 3, .list []]
def fText (d : PyData) : Option PyData := some (.list [.str "text", d])
theorem last_th {K : PySem.W.Frag} {M : List Addr} {H : Hp} {d : PyData} {v : V} (hd : d ∈ last3) (hz : Dq K (hid M H) v d) : ∃ T, Th K H v T ∧ ∀ x, v ≠ .str x := by
  simp only [last3, List.mem_cons, List.not_mem_nil, or_false] at hd
  rcases hd with rfl | rfl | rfl
  · cases hz
    exact ⟨"NoneType", ⟨fun _ _ => .base .non, by decide, fun _ z => V.noConfusion z, fun z => absurd z (by decide), fun _ z => V.noConfusion z, fun z => absurd z (by decide)⟩, fun _ z => V.noConfusion z⟩
  · cases hz
    exact ⟨"int", th_int, fun _ z => V.noConfusion z⟩
  · cases hz with
    | lst e _ => exact ⟨"list", ⟨fun _ s => .base (.lst (s _ _ (hid_le _ _ e))), by decide, fun _ z => V.noConfusion z, fun z => absurd z (by decide), fun _ z => V.noConfusion z, fun z => absurd z (by decide)⟩, fun _ z => V.noConfusion z⟩
theorem last_ok : PyData.eqv (.list (last3.filterMap fText)) (.list [.list [.str "text", .none], .list [.str "text", .int 3], .list [.str "text", .list []]]) = true ∧ SeqAt.shaped (.list (last3.filterMap fText)) = true ∧ SeqAt.shaped (.list [.list [.str "text", .none], .list [.str "text", .int 3], .list [.str "text", .list []]]) = true := by decide +kernel
section
variable {P : Program} {w : World} {K : PySem.W.Frag} {mg : Str → Option Value} {base : Heap}
theorem ok_odd {fI fIT fT f : Addr} {gI gIT gT fd : FuncData} (T : Nm mg) (hT : Hs P w K mg base CX0 6 "_law_told" ["_law_way", "_law_one", "_law_two"] (spTold K) fT gT)
    (hI : Hs P w K mg base CX0 2 "is_integer" ["value", "low", "high"] (spIsInt K) fI gI) (hIT : Hs P w K mg base CX0 3 "is_time" ["value"] (spIsTime K) fIT gIT)
    (F : Df K mg "_law_odd_right" sOdd [] f fd) : FnG P w K mg base 7 f fd [] spOdd := by
  refine fn_g F.F scOdd (fun vs H Q E h => by rw [h.1]; rfl) (fun cdv A outer s H vs Q E hA hr h => ?_)
  obtain ⟨rfl, q⟩ := h
  have hr2 := hr.mono (show 2 ≤ 6 by decide)
  have hr3 := hr.mono (show 3 ≤ 6 by decide)
  refine rb_forZ (ds := oddL) (xz_lst (xz_cons xz_non (xz_cons xz_bl (xz_cons xz_str (xz_cons xz_bl (xz_cons (xz_lst (xz_cons xz_int xz_nil)) (xz_cons (xz_tup (xz_cons xz_int xz_nil)) (xz_cons xz_dic xz_nil))))))) (by decide)) fun H1 s1 => ⟨fun k σ' Hx => Same H1 Hx ∧ ∃ x0 x1 x2, σ' = [x0, x1, x2, none], ⟨Same.refl _, _, _, _, rfl⟩, fun k σ' Hx h => h.1, fun k d hk σ' Hx v hp hv => ?_, fun σ' Hx hp => ?_⟩
  · obtain ⟨sX, x0, x1, x2, rfl⟩ := hp
    have hm := List.mem_of_getElem? hk
    obtain ⟨T', tv, nT, hz⟩ := odd_th (K := K) hm hv
    have nv := tv.ni nT
    refine rg_name 0 ?_ scOdd.nd
    refine rb_setZ (d := .list (found1 d)) 1 (xz_lst (xz_cons (xz_told hT hr (xv_name 0 rfl) xv_int tv th_int hz (tol_0 nv) hv) (xz_cons (xz_told hT hr (xv_name 0 rfl) xv_int tv th_int hz (tol_1 nv) hv) (xz_cons (xz_told hT hr (xv_name 0 rfl) (xv_name 0 rfl) tv tv hz (tol_2 nv) hv) (xz_cons (xz_told hT hr xv_int (xv_name 0 rfl) th_int tv (fun _ z => V.noConfusion z) (tol_2t (nokT nv)) hv) xz_nil)))) (by show 4 ≤ 100000; decide)) (fun v1 H2 s2 hv1 => ?_) scOdd.nd
    have tv2 := tv.up s2
    have hv2 := Dz.up s2 hv
    refine rb_setZ (d := .list (found1 d ++ found2 d)) 1 (xz_cat (XV.xz (xv_name 1 rfl) hv1).xw (XZ.xw (xz_lst (xz_cons (xz_told hT hr (xv_name 0 rfl) xv_int tv2 th_int hz (tol_3 nv) hv2) (xz_cons (xz_lst (xz_cons
      (fun H3 s3 Q q => re_call hIT.G hr3 hIT.g hIT.kp hIT.b (ra_1 ((xv_name 0 rfl) H3 s3 _ fun H4 s4 => ⟨v, T', rfl, tv2.up (s3.trans s4), fun c => absurd c nT, fun _ H5 s5 => q _ H5 (s4.trans s5) (.bl false)⟩)))
      (xz_cons (fun H3 s3 Q q => re_call hI.G hr2 hI.g hI.kp hI.b (ra_cons ((xv_name 0 rfl) H3 s3 _ fun H4 s4 => ra_cons (XV.go xv_int fun H5 s5 => ra_1 (XV.go xv_int fun H6 s6 => ⟨v, T', 0, 9, rfl, tv2.up (((s3.trans s4).trans s5).trans s6), fun c => absurd c nT, fun _ H7 s7 => q _ H7 (((s4.trans s5).trans s6).trans s7) (.bl false)⟩))))) xz_nil))) xz_nil)) (by show 2 ≤ 100000; decide))) (by show 4 + 2 ≤ 100000; decide)) (fun v2 H3 s3 hv3 => ?_) scOdd.nd
    have hv4 := Dz.up s3 hv2
    refine rb_setZ (d := .list (found1 d ++ found2 d)) 2 (xz_cat (ds := [.list [.str "integer", d], .list [.str "integer", d], .list [.str "integer", d], .list [.str "time", d], .list [.str "time", d]]) (xz_cat (ds := [.list [.str "integer", d], .list [.str "integer", d], .list [.str "integer", d]]) (ds2 := [.list [.str "time", d], .list [.str "time", d]]) (xz_rep (n := 3) (ds := [.list [.str "integer", d]]) (XZ.xw <| xz_lst (xz_cons (xz_lst (xz_cons xz_str (xz_cons (XV.xz (xv_name 0 rfl) hv4) xz_nil))) xz_nil)) (by show 1 * 3 ≤ 100000; decide)) (xz_rep (n := 2) (ds := [.list [.str "time", d]]) (XZ.xw <| xz_lst (xz_cons (xz_lst (xz_cons xz_str (xz_cons (XV.xz (xv_name 0 rfl) hv4) xz_nil))) xz_nil)) (by show 1 * 2 ≤ 100000; decide)) (by show 3 + 2 ≤ 100000; decide)).xw
      (XZ.xw <| xz_lst (xz_cons (xz_lst (xz_cons xz_bl (xz_cons xz_bl xz_nil))) xz_nil)) (by show 5 + 1 ≤ 100000; decide)) (fun v5 H4 s4 hv5 => ?_) scOdd.nd
    obtain ⟨o1, o2, o3⟩ := odd_show d hm
    refine rb_ifF (xt_reprNeZ hA hr.units T.rep (XV.xz (xv_name 1 rfl) (Dz.up s4 hv3)) (XV.xz (xv_name 2 rfl) hv5) o1 o2 o3) fun H5 s5 => rb_nil ⟨(((sX.trans s2).trans s3).trans s4).trans s5, _, _, _, rfl⟩
  · obtain ⟨sX, x0, x1, x2, rfl⟩ := hp
    refine rb_for (M := []) (ds := numsO.map PyData.int) (xd_lst Live.nil (xa_cons (xd_sub xd_int xd_int) (xa_cons xd_int (xa_cons (xd_pow xd_int xd_int ⟨by decide, by decide, by decide⟩) xa_nil))) (by decide)) fun H2 s2 => ⟨fun k σ' Hy => Same H2 Hy ∧ ∃ x3, σ' = [x0, x1, x2, x3], ⟨Same.refl _, _, rfl⟩, fun k σ' Hy h => hid_mono h.1, fun k d hk σ' Hy v hp hv => ?_, fun σ' Hy hp => ?_⟩
    · obtain ⟨sY, x3, rfl⟩ := hp
      rw [List.getElem?_map] at hk
      obtain ⟨nn, hnn, rfl⟩ := Option.map_eq_some_iff.mp hk
      have ev := dp_int hv
      subst ev
      obtain ⟨o1, o2, o3⟩ := numsO_ok nn (List.mem_of_getElem? hnn)
      have nok : ¬ okTime (.int nn) := fun ⟨m, e, h0, h1⟩ => by cases e; exact o1 ⟨h0, h1⟩
      refine rg_name 3 ?_ scOdd.nd
      refine rb_ifF ((xt_neD (M := []) hr.units (XZ.xd (d := .list (dueN nn)) (xz_lst (xz_cons (xz_told hT hr xv_int (xv_name 3 rfl) th_int th_int (fun _ z => V.noConfusion z) (tol_2t nok) (.int nn)) (xz_cons (xz_told hT hr (xv_name 3 rfl) xv_int th_int th_int (fun _ z => V.noConfusion z) (tol_3t nok) (.int nn)) xz_nil)) (by show 2 ≤ 100000; decide)) rfl)
        (XW.xd (ds := dueN nn) (xz_rep (n := 2) (ds := [.list [.str "time", .int nn]]) (XZ.xw <| xz_lst (xz_cons (xz_lst (xz_cons xz_str (xz_cons (XV.xz (xv_name 3 rfl) (.int nn)) xz_nil))) xz_nil)) (by show 1 * 2 ≤ 100000; decide)) rfl) o3 o3).to (by rw [o2]; rfl)) fun H5 s5 => rb_nil ⟨sY.trans s5, _, rfl⟩
    · obtain ⟨sY, x3, rfl⟩ := hp
      refine rb_ret (M := []) (d := .bool true) ((xd_eqD hr.units (XL.dd (xl_comp (ds := last3) (own := [("_law_thing", 0)]) fText Live.nil scOdd.nd (xd_lst Live.nil (xa_cons xd_non (xa_cons xd_int (xa_cons (xd_lst Live.nil xa_nil) xa_nil))) (by decide)) (blkOk_by (own := [("_law_thing", 0)]) (N := nOdd) (sc := defScope sOdd) (by decide +kernel)) (by decide) (fun p d v H3 hd hp s3 Lp hv => ?compT)) Live.nil)
        (xd_lst Live.nil (xa_cons (xd_lst Live.nil (xa_cons xd_str (xa_cons xd_non xa_nil))) (xa_cons (xd_lst Live.nil (xa_cons xd_str (xa_cons xd_int xa_nil))) (xa_cons (xd_lst Live.nil (xa_cons xd_str (xa_cons (xd_lst Live.nil xa_nil) xa_nil))) xa_nil)))) last_ok.2.1 last_ok.2.2).to (by rw [last_ok.1])) fun v9 H9 s9 hv9 => by
        rw [dp_bl hv9]
        exact q H9 ((((s1.trans sX).trans s2).trans sY).trans s9)
      case compT =>
        obtain ⟨T', tv, ns⟩ := last_th hd hv
        intro s0 H0 C0 cl fp
        refine rg_name 0 ⟨rfl, bt_nil ⟨Same.refl _, .inl ⟨rfl, _, rfl, fun s0 H0 C0 cl fp => ?_⟩⟩⟩ scOdd.nd
        refine re_call hT.G hr hT.g hT.kp hT.b (ra_cons (XV.go xv_int fun H4 s4 => ra_cons (XV.go (xv_name 0 rfl) fun H5 s5 => ra_1 (XV.go xv_int fun H6 s6 => ⟨4, v, .int 0, T', "int", rfl, by decide, by decide, tv.up ((s4.trans s5).trans s6), th_int, fun x z => absurd z (ns x), fun k1 w1 t p' H7 s7 hp' hn' e => ?_⟩))))
        obtain ⟨rfl, rfl⟩ := tol_4 ns k1 w1 t
        have s37 := ((s4.trans s5).trans s6).trans s7
        have hpp : p' ≠ p := fun z => by
          subst z
          exact Lp.mono ((s4.trans s5).trans s6) p' (List.mem_cons_self ..) hp'
        exact ⟨s37, .lst (by rw [hid_of (by simp [hpp])]; exact e) (.cons (.str _) (.cons (hv.up (hid_mono s37)) .nil))⟩
end
end Zn

set_option Elab.async false
set_option linter.all false
set_option maxRecDepth 100000
set_option maxHeartbeats 4000000
namespace Zn
open PySem PySem.Spec PyProof.Rows L2 Dl
/-! k02: things for is_name; repr of a truth; a call without arguments -/
def It (K : PySem.W.Frag) (H : Hp) (v : V) : Prop := ∃ T, Th K H v T ∧ ∀ x, v = .str x → x.length ≤ 1000 ∧ PyData.strOk x = true
theorem It.up {K : PySem.W.Frag} {H H1 : Hp} {v : V} (h : It K H v) (s : Same H H1) : It K H1 v := by
  obtain ⟨T, t, q⟩ := h
  exact ⟨T, t.up s, q⟩
theorem it_str {K : PySem.W.Frag} {H : Hp} {x : Str} (h : x.length ≤ 1000) (k : PyData.strOk x = true) : It K H (.str x) := ⟨"str", th_str, fun y e => by cases e; exact ⟨h, k⟩⟩
theorem it_non {K : PySem.W.Frag} {H : Hp} : It K H .non := ⟨"NoneType", ⟨fun _ _ => .base .non, by decide, fun _ z => V.noConfusion z, fun z => absurd z (by decide), fun _ z => V.noConfusion z, fun z => absurd z (by decide)⟩, fun _ z => V.noConfusion z⟩
theorem it_int {K : PySem.W.Frag} {H : Hp} {n : Int} : It K H (.int n) := ⟨"int", th_int, fun _ z => V.noConfusion z⟩
theorem it_lst {K : PySem.W.Frag} {H : Hp} {a : Addr} {xs : List V} (e : H a = some (.lst xs)) : It K H (.ref a) := ⟨"list", ⟨fun _ s => .base (.lst (s _ _ e)), by decide, fun _ z => V.noConfusion z, fun z => absurd z (by decide), fun _ z => V.noConfusion z, fun z => absurd z (by decide)⟩, fun _ z => V.noConfusion z⟩
theorem it_tup {K : PySem.W.Frag} {H : Hp} {a : Addr} {xs : List V} (e : H a = some (.tup xs)) : It K H (.ref a) := ⟨"tuple", ⟨fun _ s => .base (.tup (s _ _ e)), by decide, fun _ z => V.noConfusion z, fun z => absurd z (by decide), fun _ z => V.noConfusion z, fun z => absurd z (by decide)⟩, fun _ z => V.noConfusion z⟩
theorem it_dic {K : PySem.W.Frag} {H : Hp} {a : Addr} {kvs : List (Key × V)} (e : H a = some (.dK kvs)) : It K H (.ref a) := ⟨"dict", ⟨fun _ s => .base (.dK (s _ _ e)), by decide, fun _ z => V.noConfusion z, fun z => absurd z (by decide), fun _ z => V.noConfusion z, fun z => absurd z (by decide)⟩, fun _ z => V.noConfusion z⟩
def YI (X : Cx) (σ : L2.St) (H : Hp) (e : Expr) : Prop := ∀ H1, Same H H1 → ∀ Q : VK, (∀ v H2, Same H1 H2 → It X.K H2 v → Q v H2) → RE X e σ H1 Q
def YA (X : Cx) (σ : L2.St) (H : Hp) (es : List Expr) : Prop := ∀ H1, Same H H1 → ∀ Q : List V → Hp → Prop, (∀ vs H2, Same H1 H2 → vs.length = es.length → (∀ v ∈ vs, It X.K H2 v) → Q vs H2) → RA X es σ H1 Q
/-- a list of such things -/
def YL (X : Cx) (σ : L2.St) (H : Hp) (e : Expr) : Prop := ∀ H1, Same H H1 → ∀ Q : VK, (∀ a xs H2, Same H1 H2 → H2 a = some (.lst xs) → xs.length ≤ 100 → (∀ v ∈ xs, It X.K H2 v) → Q (.ref a) H2) → RE X e σ H1 Q
section
variable {X : Cx} {σ : L2.St} {H : Hp} {a b e : Expr} {es : List Expr} {v : V} {pos p1 p2 pa pb : Pos} {j : Nat} {D : Ends} {rest : List Stmt}
theorem XV.yi (h : XV X σ H e v) (i : It X.K H v) : YI X σ H e := fun H1 s Q q => h H1 s _ fun H2 s2 => q v H2 s2 (i.up (s.trans s2))
theorem XD.yi {x : Str} (h : XD X [] σ H e (.str x)) (h1 : x.length ≤ 1000) (h2 : PyData.strOk x = true) : YI X σ H e := fun H1 s Q q => h H1 s Q fun v H2 s2 hv => q v H2 s2 (by rw [dp_str hv]; exact it_str h1 h2)
theorem ya_nil : YA X σ H [] := fun H1 _ Q q => ⟨_, pa_nil, q [] H1 (Same.refl _) rfl (by simp)⟩
theorem ya_cons (ha : YI X σ H e) (hr : YA X σ H es) (hs : starEach (e :: es) X.env = (false, eval e X.env) :: starEach es X.env := by rfl) : YA X σ H (e :: es) := fun H1 s Q q =>
  ra_cons (ha H1 s _ fun v H2 s2 hv => hr H2 (s.trans s2) _ fun vs H3 s3 hl hvs => q _ H3 (s2.trans s3) (by rw [List.length_cons, List.length_cons, hl]) fun u hu => by
    rcases List.mem_cons.mp hu with hu | hu
    · subst hu; exact hv.up s3
    · exact hvs u hu) hs
theorem yl_lst (h : YA X σ H es) (hl : es.length ≤ 50 := by decide) : YL X σ H (.List es pos) := fun H1 s Q q =>
  ⟨_, pe_lst ra_, h H1 s _ fun vs H2 s2 hz hvs => ⟨small_sz (show vs.length ≤ 100000 by omega), fun p hp => q p _ _ (s2.trans (same_new hp)) upd_same (by omega) fun v hv => (hvs v hv).up (same_new hp)⟩⟩
theorem yi_lst (h : YA X σ H es) (hl : es.length ≤ 50 := by decide) : YI X σ H (.List es pos) := fun H1 s Q q => yl_lst h hl H1 s Q fun a xs H2 s2 e _ _ => q _ H2 s2 (it_lst e)
theorem yi_tup {x1} (h : YA X σ H es) (hl : es.length ≤ 50 := by decide) : YI X σ H (.Tuple es x1 pos) := fun H1 s Q q =>
  ⟨_, pe_tup ra_, h H1 s _ fun vs H2 s2 hz hvs => ⟨small_sz (show vs.length ≤ 100000 by omega), fun p hp => q _ _ (s2.trans (same_new hp)) (it_tup upd_same)⟩⟩
/-- {"x": n} -/
theorem yi_dic {z : Str} {n : Int} : YI X σ H (.Dict [some (.Constant (.str z) j p1)] [.Constant (.int n) j p2] pos) := fun H1 s Q q =>
  ⟨_, pe_disp (pps_cons pe_str pe_int pps_nil) rfl rfl (by simp) (by simp), fun p hp => ⟨upd_same, [(.inr z, .int n)], rfl, by show 1 ≤ 15; decide, by
    refine q _ _ (fun b o e => ?_) (it_dic upd_same)
    have nb : b ≠ p := fun z => by rw [z, hp] at e; cases e
    rw [upd_ne nb, upd_ne nb]; exact e⟩⟩
theorem yl_cat (ha : YL X σ H a) (hb : YL X σ H b) (Q0 : VK) (q : ∀ c xs H2, Same H H2 → H2 c = some (.lst xs) → xs.length ≤ 200 → (∀ v ∈ xs, It X.K H2 v) → Q0 (.ref c) H2) : RE X (.BinOp a .Add b pos) σ H Q0 :=
  re_bin op_cat (ha H (Same.refl _) _ fun l xs H2 s2 h1 z1 i1 => hb H2 s2 _ fun m ys H3 s3 h3 z3 i3 => ⟨l, m, xs, ys, rfl, rfl, s3 _ _ h1, h3, small_sz (by omega), fun p hp => q _ _ _ ((s2.trans s3).trans (same_new hp)) upd_same (by rw [List.length_append]; omega) fun v hv => by
    rcases List.mem_append.mp hv with hv | hv
    · exact (i1 v hv).up (s3.trans (same_new hp))
    · exact (i3 v hv).up (same_new hp)⟩)
theorem re_call0 {sp : Sp} {Q : VK} {k : Nat} {f : Addr} {fd : FuncData} {x : Str} (F : FnG X.prog X.w X.K X.mg X.base k f fd [] sp) (hA : X.A.guards = some []) (hr : Room k X.A) (hm : X.mg x = some (.ref f)) (hk : PySem.W.keepIn X.K (.ref f) = true) (hb : Binds X.K fd [] []) (ha : sp [] H Q E0) (hg : Gl X x := by rfl)
    (hdb : (x == ("__debug__" : Str)) = false := by decide) : RE X (.Call (.Name x p1) [] [] pos) σ H Q := by
  refine ⟨fun σ H Q => sp [] H Q E0, ⟨fun pins s σ H Q I h => ?_⟩, ha⟩
  refine wpAny_Call_Name_kw (ld_glob I hg hm ?_ hdb)
  refine PySem.W.callWith_K0 I.kIn hk ?_
  have hb' := hb s [] I.kIn rfl
  refine wpAny_call (codeAny_mono (F.run X.A hA hr X.stack s H ⟨[], []⟩ [] [] Q E0 I.env0 hb' .nil h) fun r' s' hq => ?_)
  cases r' with
  | error e => exact hq.elim
  | ok fl =>
    cases fl with
    | ret u => exact I.after hq
    | next => exact hq.elim
    | brk => exact hq.elim
    | cont => exact hq.elim
theorem same_of_B {b : Addr} {H H' : Hp} (hb : H b = none) (s : SameB b H H') : Same H H' := fun a o e => s a o (fun z => by rw [z, hb] at e; cases e) e
end
end Zn

set_option Elab.async false
set_option linter.all false
set_option maxRecDepth 100000
set_option maxHeartbeats 4000000
namespace Zn
open PySem PySem.Spec PyProof.Rows L2 Dl
/-! k02: rules for the law -/
theorem asc_cut {x : Str} (h : Asc x) (lo hi : Option Int) : Asc (cutS x lo hi) := fun c hc => h c (List.mem_of_mem_drop (List.mem_of_mem_take hc))
theorem asc_ofL {l : List Nat} (h : ∀ c ∈ l, c < 128) : Asc (ofL l) := h
section
variable {X : Cx} {M : List Addr} {σ : L2.St} {H : Hp} {a b e : Expr} {es : List Expr} {v : V} {pos p1 p2 pa pb : Pos} {j : Nat} {D : Ends} {rest : List Stmt}
theorem rb_forV {tg : Expr} {body : List Stmt} (h : RE X e σ H fun v H1 => ∃ c xs, v = .ref c ∧ H1 c = some (.lst xs) ∧ ∃ Pv : Nat → L2.St → Hp → Prop, Pv 0 σ H1 ∧ (∀ k σ' H', Pv k σ' H' → Same H1 H') ∧
      (∀ k x, xs[k]? = some x → ∀ σ' H', Pv k σ' H' → RG X tg x σ' H' fun σ2 H2 => RB X body { D with nx := Pv (k + 1), ct := Pv (k + 1), bk := RB X rest D } σ2 H2) ∧ ∀ σ' H', Pv xs.length σ' H' → RB X rest D σ' H')
    (hp : PassesOwn (model X.prog X.w) X.A X.env X.xe := by exact PassesOwn.never) (hc : X.calm = true := by rfl) (hs : ∀ x, foldedSetIterable e X.env x = pure x := by intro _; rfl) : RB X (.For tg e body [] pos :: rest) D σ H :=
  ⟨_, pss_cons (ps_for hp hc (pi_list re_) rg_ rb_ hs) rb_, re_mono h fun v H1 ⟨c, xs, ev, ha, Pv, h0, hk, hst, hd⟩ => by
    subst ev
    exact ⟨c, rfl, ⟨xs, SqL.of ha⟩, for_list (xs := xs) Pv h0 (fun i σ' H' _ p => SqL.of (hk i σ' H' p _ _ ha)) (fun i x σ' H' hi p => hst i x hi σ' H' p) hd⟩⟩
theorem call_reprB : CallR X (.builtin "repr") (fun xs H Q => ∃ b : Bool, xs = [.bl b] ∧ Q (.str (if b then "True" else "False")) H) := by
  intro pins s σ H xs us Q I r h
  obtain ⟨b, rfl, q⟩ := h
  obtain ⟨u, rfl, rx⟩ := vals1 r
  cases rx
  exact PySem.P.repr_of_bool ⟨.str _, H, I.tok _, ⟨_, rfl⟩, q⟩
theorem xt_reprNeB {k : Bool} (hm : X.mg "repr" = none) (ha : XD X M σ H a (.bool k)) (hb : XD X M σ H b (.bool k)) (hg : Gl X "repr" := by rfl)
    (he : starEach [a] X.env = (false, eval a X.env) :: starEach [] X.env := by rfl) (hpl : (backTo pa (starEach [] X.env)).any (·.1) = false := by rfl) (he2 : starEach [b] X.env = (false, eval b X.env) :: starEach [] X.env := by rfl) (hpl2 : (backTo pb (starEach [] X.env)).any (·.1) = false := by rfl) :
    XT X σ H (.Compare (.Call (.Name "repr" p1) [a] [] pa) [.NotEq] [.Call (.Name "repr" p2) [b] [] pb] pos) false := by
  have key : ∀ {e : Expr} {pp qq : Pos}, XD X M σ H e (.bool k) → starEach [e] X.env = (false, eval e X.env) :: starEach [] X.env → (backTo qq (starEach [] X.env)).any (·.1) = false → XD X M σ H (.Call (.Name "repr" pp) [e] [] qq) (.str (if k then "True" else "False")) := fun {e pp qq} h z1 z2 H1 s Q q =>
    re_B call_reprB (ra_1 (h H1 s _ fun v H2 s2 hv => ⟨k, by rw [dp_bl hv], q _ H2 s2 (.str _)⟩) z1) hm (by decide +kernel) hg (by decide) (by decide) z1 z2
  refine xt_cmp op_ne (key ha he hpl) (key hb he2 hpl2) fun H1 v w s hv hw Q q => ?_
  rw [dp_str hv, dp_str hw]
  exact ⟨rfl, by rw [decide_eq_true rfl]; exact q H1 (Same.refl _)⟩
theorem XV.yl {c : Addr} {xs : List V} (h : XV X σ H e (.ref c)) (hc : H c = some (.lst xs)) (hz : xs.length ≤ 100) (hi : ∀ v ∈ xs, It X.K H v) : YL X σ H e := fun H1 s Q q => h H1 s _ fun H2 s2 => q c xs H2 s2 ((s.trans s2) _ _ hc) hz fun v hv => (hi v hv).up (s.trans s2)
end
theorem tol_4n {x : Str} {u : V} (h : ttV x = none) (k : Str) (w : V) (t : Tol 4 (.str x) u k w) : k = "text" ∧ w = .str x := by
  cases t with
  | d4 h2 => rw [h] at h2; cases h2
  | x4 h => exact ⟨rfl, rfl⟩
theorem tol_4s {x : Str} {u : V} {n : Int} (h : ttV x = some n) (k : Str) (w : V) (t : Tol 4 (.str x) u k w) : k = "told" ∧ w = .int n := by
  cases t with
  | d4 h2 => rw [h] at h2; cases h2; exact ⟨rfl, rfl⟩
  | x4 h2 => rw [h2 _ rfl] at h; cases h
theorem shaped_text {x : Str} (h : PyData.strOk x = true) : SeqAt.shaped (.list [.str "text", .str x]) = true := shaped_strs fun d hd => by
  simp only [List.mem_cons, List.not_mem_nil, or_false] at hd
  rcases hd with rfl | rfl
  · exact ⟨_, rfl, by decide +kernel⟩
  · exact ⟨_, rfl, h⟩
theorem shaped_told {n : Int} : SeqAt.shaped (.list [.str "told", .int n]) = true := by
  unfold SeqAt.shaped
  have e : PyData.strOk "told" = true := by decide +kernel
  simp only [PyData.canLay0, PyData.canLayAll0, PyData.depth, PyData.depthAll, e]
  rfl
theorem eqv_text {x : Str} : PyData.eqv (.list [.str "text", .str x]) (.list [.str "text", .str x]) = true := by simp [PyData.eqv, PyData.eqvAll]
theorem eqv_told {n : Int} : PyData.eqv (.list [.str "told", .int n]) (.list [.str "told", .int n]) = true := by simp [PyData.eqv, PyData.eqvAll]
def isN : PyData → Bool
  | .none => true
  | _ => false
theorem dec_non {K : PySem.W.Frag} {H : Hp} {v : V} {d : PyData} (h : Dq K H v d) : decide (v = V.non) = isN d := by
  cases h <;> first | exact decide_eq_true rfl | exact decide_eq_false (fun z => V.noConfusion z)
theorem xt_isNone {X : Cx} {M : List Addr} {σ : L2.St} {H : Hp} {a : Expr} {d : PyData} {pos p1 : Pos} {j} (ha : XD X M σ H a d) (hm : behindInMarks .Is (.Constant .none j p1) = false := by rfl) : XT X σ H (.Compare a [.Is] [.Constant .none j p1] pos) (isN d) :=
  xt_cmp op_isN ha (xd_non (M := M)) (fun H1 v w s hv hw Q q => ⟨dp_non hw, by rw [dec_non hv]; exact q H1 (Same.refl _)⟩) hm
end Zn

set_option Elab.async false
set_option linter.all false
set_option maxRecDepth 100000
set_option maxHeartbeats 8000000
namespace Zn
open PySem PySem.Spec PyProof.Rows L2 Dl
/-! k02: the law -/
abbrev sLaw : Stmt := top 35
abbrev nLaw : List Str := ["_law_script", "_law_k", "_law_box_here", "_law_line_here", "_law_things", "_law_thing", "_law_lap", "_law_due"]
theorem scLaw : FnScope nLaw ["_law_script"] (defScope sLaw) := ⟨rfl, rfl, rfl, by decide +kernel, rfl, by decide +kernel, by decide +kernel⟩
def spLaw (K : PySem.W.Frag) : Sp := fun vs H Q _ => ∃ (a : Addr) (ns : List Int), vs = [.ref a] ∧ SqL K H a (ns.map V.int) ∧ ∀ H1, Same H H1 → Q (.bl true) H1
def m5 : List Str := ["", "", "0", "\n", ":00"]
theorem m5_ok : ∀ y ∈ m5, y.length ≤ 3 ∧ Asc y := by unfold Asc; decide +kernel
theorem asc_a : Asc "a" := by unfold Asc; decide +kernel
section
variable {P : Program} {w : World} {K : PySem.W.Frag} {mg : Str → Option Value} {base : Heap}
theorem ok_law {fC fB fT fL fTL fN fND fTD fW fR fO f : Addr} {gC gB gT gL gTL gN gND gTD gW gR gO fd : FuncData} (T : Nm mg) (hC : Hs P w K mg base CX0 1 "_law_cell" ["_law_script", "_law_k"] (spCell K) fC gC) (hB : Hs P w K mg base CX0 1 "_law_box" ["_law_cell_here"] spBag fB gB)
    (GT : FnOk P w K mg base CX0 1 fT gT ["_law_box_here", "_law_many"] spTake) (FT : Df K mg "_law_take" sTake ["_law_box_here", "_law_many"] fT gT)
    (hL : Hs P w K mg base CX0 2 "_law_line" ["_law_box_here"] spLine fL gL) (hTL : Hs P w K mg base CX0 2 "_law_time_line" ["_law_box_here"] spTLine fTL gTL)
    (hN : Hs P w K mg base CX0 1 "is_name" ["value"] (spName K) fN gN) (hND : Hs P w K mg base CX0 1 "_law_name_due" ["_law_thing"] (spNameS K) fND gND) (hTD : Hs P w K mg base CX0 1 "_law_time_due" ["_law_line_here"] (spTDue K) fTD gTD)
    (hW : Hs P w K mg base CX0 6 "_law_told" ["_law_way", "_law_one", "_law_two"] (spTold K) fW gW)
    (GR : FnG P w K mg base 6 fR gR ["_law_box_here"] spReadR) (FR : Df K mg "_law_readings_right" sReadR ["_law_box_here"] fR gR) (GO : FnG P w K mg base 7 fO gO [] spOdd) (FO : Df K mg "_law_odd_right" sOdd [] fO gO)
    (F : Fun K "law" "law" sLaw f fd) : FnG P w K mg base 8 f fd ["_law_script"] (spLaw K) := by
  refine fn_g F scLaw (fun vs H Q E h => ?_) (fun cdv A outer s H vs Q E hA hr h => ?_)
  · obtain ⟨a, ns, rfl, _⟩ := h; rfl
  · obtain ⟨a, ns, rfl, hS, q⟩ := h
    have hr6 := hr.mono (show 6 ≤ 7 by decide)
    have hr2 := hr.mono (show 2 ≤ 7 by decide)
    have hr1 := hr.mono (show 1 ≤ 7 by decide)
    refine rb_range T.rng (XD.go (M := []) (xd_max T.max (xa_cons xd_int (xa_cons (xd_min T.min (xa_cons xd_int (xa_cons (xv_lenS T.len (xv_name 0 rfl) hS).int xa_nil))) xa_nil))) fun v H0 s0 hv => ?_)
    have ev := dp_int hv
    subst ev
    generalize hnn : (if (if ((ns.map V.int).length : Int) < 8 then ((ns.map V.int).length : Int) else 8) > 2 then (if ((ns.map V.int).length : Int) < 8 then ((ns.map V.int).length : Int) else 8) else 2) = nn
    have hn2 : 0 ≤ nn ∧ nn ≤ 100 := by
      rw [← hnn]
      split <;> split <;> omega
    refine ⟨nn.toNat, by rw [Int.toNat_of_nonneg hn2.1], by omega, fun i σ' H' => Same H H' ∧ ∃ u1 u2 u3 u4 u5 u6 u7, σ' = [some (.ref a), u1, u2, u3, u4, u5, u6, u7], ⟨s0, none, none, none, none, none, none, none, rfl⟩, fun i σ' H' hi w => ?_, fun σ' H' w => ?_⟩
    · obtain ⟨sH0, u1, u2, u3, u4, u5, u6, u7, rfl⟩ := w
      refine rg_name 1 ?_ scLaw.nd
      refine rb_setR 2 (re_call hB.G hr1 hB.g hB.kp hB.b (ra_1 (re_call hC.G hr1 hC.g hC.kp hC.b (ra_cons (XV.go (xv_name 0 rfl) fun Ha sa => ra_1 (XV.go (xv_name 1 rfl) fun Hb sb => ⟨a, ns, i, rfl, ((sH0.trans sa).trans sb).seq hS, fun nc Hc sc => ⟨nc, rfl, fun b H1 s1 hb hBg => ?_⟩⟩)))))) scLaw.nd
      have s01 : Same H' H1 := ((sa.trans sb).trans sc).trans s1
      have hb0 : H' b = none := ((sa.trans sb).trans sc).free hb
      -- the line, the things
      refine rb_setR 3 (re_call hL.G hr2 hL.g hL.kp hL.b (ra_1 (XV.go (xv_name 2 rfl) fun Hd sd => ⟨b, 0, rfl, by decide, hBg.up sd (Nat.le_refl _), fun l H2 hl hlc sB2 hB2 => ?_⟩))) scLaw.nd
      have SB2 : SameB b H' H2 := ((SameB.of s01).trans (.of sd)).trans sB2
      have al : Asc (ofL l) := asc_ofL hlc
      have ll : (ofL l).length ≤ 9 := hl
      generalize ofL l = x at al ll
      have c1 := cutS_length x none (some 1)
      have c7 := cutS_length x none (some 7)
      have c8 := cutS_length x none (some 8)
      have la : ("a" : Str).length = 1 := by decide +kernel
      refine rb_setR 4 (yl_lst (ya_cons (XD.yi (xd_name 3 rfl (.str x)) (by omega) al.ok) (ya_cons (XD.yi (xd_cutS (xd_name 3 rfl (.str x)) xo_none (xo_some (M := []) xd_int) (by omega)) (by omega) (asc_cut al _ _).ok) (ya_cons (XD.yi (xd_cutS (xd_name 3 rfl (.str x)) xo_none (xo_some (M := []) xd_int) (by omega)) (by omega) (asc_cut al _ _).ok)
        (ya_cons (XD.yi (xd_addS xd_str (xd_cutS (xd_name 3 rfl (.str x)) xo_none (xo_some (M := []) xd_int) (by omega)) (by omega)) (by rw [Str.length_append]; omega) (asc_a.app (asc_cut al _ _)).ok) (ya_cons (XD.yi (xd_addS xd_str (xd_name 3 rfl (.str x)) (by omega)) (by rw [Str.length_append]; omega) (asc_a.app al).ok)
        (ya_cons (XD.yi xd_str (by decide +kernel) (by decide +kernel)) (ya_cons (XD.yi xd_str (by decide +kernel) (by decide +kernel)) (ya_cons (XD.yi xd_str (by decide +kernel) (by decide +kernel)) (ya_cons (XD.yi xd_str (by decide +kernel) (by decide +kernel)) (ya_cons (XD.yi xd_str (by decide +kernel) (by decide +kernel)) ya_nil)))))))))) (by decide) H2 (Same.refl _) _ fun cl xs H3 s3 hcl hxl hit => ?_) scLaw.nd
      refine rb_forV (yl_cat (XV.yl (xv_name 4 rfl) hcl hxl hit) (yl_lst (ya_cons (fun Hx sx Q q => XD.go (M := []) xd_non fun v Hy sy hv => q _ Hy sy (by rw [dp_non hv]; exact it_non)) (ya_cons (XV.yi xv_int it_int) (ya_cons (yi_lst (ya_cons (XD.yi xd_str (by decide +kernel) (by decide +kernel)) ya_nil)) (ya_cons (yi_tup (ya_cons (XD.yi xd_str (by decide +kernel) (by decide +kernel)) (ya_cons (XD.yi xd_str (by decide +kernel) (by decide +kernel)) ya_nil)))
        (ya_cons (yi_lst (ya_cons (XD.yi xd_str (by decide +kernel) (by decide +kernel)) ya_nil)) (ya_cons yi_dic ya_nil)))))) (by decide)) _ fun c ys H4 s4 hc hyl hiy => ⟨c, ys, rfl, hc, fun k σ' Hx => Same H4 Hx ∧ ∃ u5, σ' = [some (.ref a), some (.int i), some (.ref b), some (.str x), some (.ref cl), u5, u6, u7], ⟨Same.refl _, _, rfl⟩, fun k σ' Hx h => h.1, fun k v hk σ' Hx hp => ?_, fun σ' Hx hp => ?_⟩)
      · obtain ⟨sX, u5', rfl⟩ := hp
        obtain ⟨T', tv, hv⟩ := (hiy v (List.mem_of_getElem? hk)).up sX
        refine rg_name 5 ?_ scLaw.nd
        obtain ⟨kb, hkb⟩ : ∃ kb : Bool, (∀ y, v = .str y → nameB y = kb) ∧ (T' ≠ "str" → kb = false) := by
          by_cases c : T' = "str"
          · obtain ⟨y, rfl⟩ := tv.l c
            exact ⟨nameB y, fun z e => by cases e; rfl, fun n => absurd c n⟩
          · exact ⟨false, fun y e => absurd (tv.k y e) c, fun _ => rfl⟩
        refine rb_ifF (xt_reprNeB (M := []) (k := kb) T.rep (fun H5 s5 Q q => re_call hN.G hr1 hN.g hN.kp hN.b (ra_1 ((xv_name 5 rfl) H5 s5 _ fun H6 s6 => ⟨v, T', rfl, tv.up (s5.trans s6), fun y e => ⟨(hv y e).1, fun H7 s7 => by rw [hkb.1 y e]; exact q _ H7 (s6.trans s7) (.bl _)⟩, fun n H7 s7 => by
            have e0 := hkb.2 n
            subst e0
            exact q _ H7 (s6.trans s7) (.bl _)⟩)))
          (fun H5 s5 Q q => re_call hND.G hr1 hND.g hND.kp hND.b (ra_1 ((xv_name 5 rfl) H5 s5 _ fun H6 s6 => ⟨v, T', rfl, tv.up (s5.trans s6), fun y e => ⟨(hv y e).1, (hv y e).2, fun H7 s7 => by rw [hkb.1 y e]; exact q _ H7 (s6.trans s7) (.bl _)⟩, fun n H7 s7 => by
            have e0 := hkb.2 n
            subst e0
            exact q _ H7 (s6.trans s7) (.bl _)⟩)))) fun H5 s5 => rb_nil ⟨sX.trans s5, _, rfl⟩
      · obtain ⟨sX, u5', rfl⟩ := hp
        have SB3 : SameB b H' Hx := SB2.trans (.of ((s3.trans s4).trans sX))
        have hB3 : BagAt Hx b 10 := hB2.up ((s3.trans s4).trans sX) (by omega)
        refine rb_range T.rng (XD.go (M := []) xd_int fun v H5 s5 hv => ⟨4, dp_int hv, by decide, fun k σ' Hy => SameB b H' Hy ∧ BagAt Hy b (10 + 9 * k) ∧ ∃ u3 u6 u7, σ' = [some (.ref a), some (.int i), some (.ref b), u3, some (.ref cl), u5', u6, u7], ⟨SB3.trans (.of s5), hB3.up s5 (by omega), _, _, _, rfl⟩, fun k σ' Hy hk hp => ?_, fun σ' Hy hp => ?_⟩)
        · obtain ⟨SB4, hB4, u3', u6', u7', rfl⟩ := hp
          refine rg_name 6 ?_ scLaw.nd
          refine rb_setR 3 (re_addS (re_call hTL.G hr2 hTL.g hTL.kp hTL.b (ra_1 (XV.go (xv_name 2 rfl) fun H6 s6 => ⟨b, _, rfl, by omega, hB4.up s6 (Nat.le_refl _), fun y H7 hy ay sB7 hB7 => ⟨y, rfl, re_menuS GT FT hr1 (ss := m5) (xa_cons xd_str (xa_cons xd_str (xa_cons xd_str (xa_cons xd_str (xa_cons xd_str xa_nil))))) (xv_name 2 rfl) hB7 fun z hz H8 sB8 hB8 => ⟨z, rfl, ?_, ?_⟩⟩⟩)))) scLaw.nd
          · have := (m5_ok z hz).1; omega
          have lz := (m5_ok z hz).1
          have ayz := ay.app (m5_ok z hz).2
          have lyz : (y ++ z).length ≤ 8 := by rw [Str.length_append]; omega
          generalize y ++ z = x2 at ayz lyz
          have SB5 : SameB b H' H8 := ((SB4.trans (.of s6)).trans sB7).trans sB8
          refine rb_setR 7 (re_call hTD.G hr1 hTD.g hTD.kp hTD.b (ra_1 (XV.go (xv_name 3 rfl) fun H9 s9 => ⟨x2, rfl, by omega, ayz.ok, fun Ha2 sa2 => ?_⟩))) scLaw.nd
          have hu : ∀ y, V.str x2 = .str y → y.length ≤ 1000 := fun y e => by cases e; omega
          refine rb_ifF ?cmp fun Hb2 sb2 => ?rest
          case rest =>
            have SB6 : SameB b H' Hb2 := SB5.trans (.of ((s9.trans sa2).trans sb2))
            have hB6 : BagAt Hb2 b (10 + 9 * k + 4) := hB8.up ((s9.trans sa2).trans sb2) (by omega)
            refine rb_ifR ⟨_, pt_not rt_, _, pt_val re_ (by intro _; rfl), re_callG GR hA hr6 FR.g FR.F.kp FR.b (ra_1 (XV.go (xv_name 2 rfl) fun H10 s10 => ⟨b, _, rfl, by omega, hB6.up s10 (Nat.le_refl _), fun H11 sB11 hB11 => ⟨true, rfl, iteF (rb_nil (rb_nil ⟨(SB6.trans (.of s10)).trans sB11, hB11.up (Same.refl _) (by omega), _, _, _, rfl⟩))⟩⟩))⟩
          case cmp =>
            cases et : ttV x2 with
            | none =>
              exact (xt_neD (M := []) hr.units ((xz_told hW hr6 (xv_name 3 rfl) xv_int th_str th_int hu (tol_4n et) (.str x2)).xd rfl) (xd_ifT ((xt_isNone (M := []) (xd_name 7 rfl .non)).to rfl) (xd_lst Live.nil (xa_cons xd_str (xa_cons (xd_name 3 rfl (.str x2)) xa_nil)))) (shaped_text ayz.ok) (shaped_text ayz.ok)).to (by rw [eqv_text]; rfl)
            | some n =>
              exact (xt_neD (M := []) hr.units ((xz_told hW hr6 (xv_name 3 rfl) xv_int th_str th_int hu (tol_4s et) (.int n)).xd rfl) (xd_ifF ((xt_isNone (M := []) (xd_name 7 rfl (.int n))).to rfl) (xd_lst Live.nil (xa_cons xd_str (xa_cons (xd_name 7 rfl (.int n)) xa_nil)))) shaped_told shaped_told).to (by rw [eqv_told]; rfl)
        · obtain ⟨SB4, hB4, u3', u6', u7', rfl⟩ := hp
          exact rb_nil ⟨sH0.trans (same_of_B hb0 SB4), _, _, _, _, _, _, _, rfl⟩
    · obtain ⟨sH, u1, u2, u3, u4, u5, u6, u7, rfl⟩ := w
      exact rb_retR (re_call0 GO hA hr FO.g FO.F.kp FO.b ⟨rfl, fun H1 s1 => q H1 (sH.trans s1)⟩)
end
end Zn

set_option Elab.async false
set_option linter.all false
set_option maxRecDepth 100000
set_option maxHeartbeats 8000000
namespace Zn
open PySem PySem.Spec PyProof.Rows L2 Dl
/-! ### the law called behind the top -/
section
variable {P : Program} {w : World} {K : PySem.W.Frag} {mg mb : Str → Option Value} {fa a : Addr} {fd : FuncData} {t : Shared} {us : List Value} {ns : List Int}
/-- from a heap H that tells of the script at most -/
theorem head_from {H : Hp} (KX : K.In t.heap) (hg : t.heap.Ns mainGlobals mg) (hb : t.heap.Ns builtinsNs mb) (hbb : ∀ x : Str, x ≠ "__name__" → mb x = bootBuiltins x) (hlim : t.heap.NoLimit) (gens : t.gens = #[])
    (hobj : t.heap.get? a = some { cls := .type "list", data := .seq us.toArray })
    (F : ∀ base : Heap, K.In base → base.Ns mainGlobals mg → FnG P w K mg base 8 fa fd ["_law_script"] (spLaw K)) (hbd : ∀ (s : Shared) (u : Value), BindsTo s fd ⟨[u], []⟩ [("_law_script", u)])
    (only : Only H) (hS : SqL K H a (ns.map V.int)) (hok : HOk P w H t.heap) (at1 : ∀ b, H b ≠ none → b = a) (nk : H a ≠ none → K.lookup a = none) :
    codeAny (model P w) callerA (.call (.ref fa) ⟨[.ref a], []⟩) (fun r s => r = .ok (.ret (.bool true)) ∧ OldK t.heap s.heap ∧ s.os = t.os ∧ AllBare s.gens) t := by
  have kept : ∀ {b : Addr} {o : Obj}, t.heap.get? b = some o → H b = none → (hidT t.heap H).get? b = some o := fun p q => hidT_get p q
  have free : ∀ {b : Addr} {o : Obj}, t.heap.get? b = some o → (b = a → False) → H b = none := fun {b o} _ nb => Classical.byContradiction fun z => nb (at1 b z)
  have spaces : ∀ {b : Addr} {m : Str → Option Value}, t.heap.Ns b m → (hidT t.heap H).Ns b m := fun {b m} z => by
    obtain ⟨o, es, ep, p, q, r⟩ := z
    refine ⟨o, es, ep, kept p (free p fun e => ?_), q, r⟩
    rw [e, hobj] at p
    injection p with p
    rw [← p] at q
    injection q
  have kin : K.In (hidT t.heap H) := fun b o e => kept (KX b o e) (Classical.byContradiction fun z => by
    have eb := at1 b z
    rw [eb] at z e
    rw [nk z] at e
    cases e)
  obtain ⟨mc, hl1, hl2⟩ := hlim
  have md : Mod K mg (hidT t.heap H) := ⟨kin, spaces hg, ⟨mb, spaces hb, hbb⟩, mc, spaces hl1, hl2⟩
  have env : Env0 P w K mg (hidT t.heap H) callerA [] t H := { frames := rfl, mod := md, bs := fun b o e => of_hidT e, bsz := Nat.le_of_eq (hidT_size _ _), funs := trivial, frf := fun b z => absurd z List.not_mem_nil, hok := hok, bare := .of_eq gens }
  have run := (F _ kin (spaces hg)).run callerA rfl ⟨rfl, by decide, by decide⟩ [] t H ⟨[.ref a], []⟩ [.ref a] [.ref a] (fun v _ => v = .bl true) (fun _ _ _ => False) env (hbd t (.ref a)) (.cons rfl .nil) ⟨a, ns, rfl, hS, fun _ _ => rfl⟩
  refine codeAny_mono run fun r s z => ?_
  match r, z with
  | .error e, z => exact z.elim
  | .ok .next, z => exact z.elim
  | .ok .brk, z => exact z.elim
  | .ok .cont, z => exact z.elim
  | .ok (.ret u), z =>
    obtain ⟨v, H2, os, bare, un, hok2, rv, ev⟩ := z
    have ev' : v = .bl true := ev
    rw [ev'] at rv
    have eu : u = Value.bool true := rv
    rw [eu]
    refine ⟨rfl, OldK.of_keep fun b o e => ?_, os, bare⟩
    rcases only b with n | ⟨ob, xs, fz⟩
    · exact un.keep b o e n (fun q => absurd (show b ∈ ([] : List Addr) from q) List.not_mem_nil) (by simp)
    · have p1 := (hok b _ fz).1
      have p2 := (hok2 b _ (un.frzs b ob _ fz)).1
      rw [e] at p1
      injection p1 with p1
      rw [p1]
      exact p2
/-- the law, called with a script -/
theorem head_g (KX : K.In t.heap) (hg : t.heap.Ns mainGlobals mg) (hb : t.heap.Ns builtinsNs mb) (hbb : ∀ x : Str, x ≠ "__name__" → mb x = bootBuiltins x) (hlim : t.heap.NoLimit) (gens : t.gens = #[])
    (hobj : t.heap.get? a = some { cls := .type "list", data := .seq us.toArray }) (hi : IntsAre us ns) (hl : ns.length ≤ sizeLine)
    (F : ∀ base : Heap, K.In base → base.Ns mainGlobals mg → FnG P w K mg base 8 fa fd ["_law_script"] (spLaw K)) (hbd : ∀ (s : Shared) (u : Value), BindsTo s fd ⟨[u], []⟩ [("_law_script", u)]) :
    codeAny (model P w) callerA (.call (.ref fa) ⟨[.ref a], []⟩) (fun r s => r = .ok (.ret (.bool true)) ∧ OldK t.heap s.heap ∧ s.os = t.os ∧ AllBare s.gens) t := by
  have vi := vals_ints hi
  have el := hi.length
  rcases lk : K.lookup a with _ | o
  · have e1 : ∀ b, b ≠ a → (if b = a then some (HO.frz { cls := .type "list", data := .seq us.toArray } (.lst (ns.map V.int))) else none) = none := fun b n => if_neg n
    refine head_from (H := fun b => if b = a then some (.frz { cls := .type "list", data := .seq us.toArray } (.lst (ns.map V.int))) else none) (ns := ns) KX hg hb hbb hlim gens hobj F hbd (fun b => ?_) (.inl (.inr ⟨_, if_pos rfl⟩)) (fun b u z => ?_) (fun b z => Classical.byContradiction fun n => z (e1 b n)) fun _ => lk
    · exact (Classical.em (b = a)).elim (fun z => .inr ⟨_, _, if_pos z⟩) fun z => .inl (e1 b z)
    · rcases Classical.em (b = a) with e | e
      · rw [e] at z ⊢
        have z' := (if_pos rfl).symm.trans z
        injection z' with z'
        rw [← z']
        exact ⟨hobj, by rw [List.length_map]; exact hl, us, _, vi, hobj⟩
      · exact absurd ((e1 b e).symm.trans z) (fun q => nomatch q)
  · have e := KX a o lk
    rw [hobj] at e
    injection e with e
    rw [← e] at lk
    exact head_from (H := fun _ => none) (ns := ns) KX hg hb hbb hlim gens hobj F hbd (fun _ => .inl rfl) (.inr ⟨_, us.toArray, _, lk, rfl, rfl, rfl, by rw [List.size_toArray, el]; exact hl, by simpa using vi⟩) (fun _ _ z => nomatch z) (fun _ z => absurd rfl z) (fun z => absurd rfl z)
end
theorem walk_g {l : PySem.W.OpenLaw} {q : Program} {loose : List Str} {XP : (Str → Option Value) → Heap → Prop} {YP : World → Heap → Prop} {d : DefRec} {K : Params → PySem.W.Frag} (hn : l.most = some 63) (hdf : d.params.defaults = [])
    (hY : ∀ (w : World) (h : Heap), YP w h → (K w.params).In h)
    (F : ∀ (w : World) (mg : Str → Option Value) (fa : Addr) (h : Heap), (K w.params).In h → h.Ns mainGlobals mg → mg d.name = some (.ref fa) →
      ∃ fd : FuncData, (∀ (s : Shared) (u : Value), BindsTo s fd ⟨[u], []⟩ [("_law_script", u)]) ∧ ∀ base : Heap, (K w.params).In base → base.Ns mainGlobals mg → FnG l.prog w (K w.params) mg base 8 fa fd ["_law_script"] (spLaw (K w.params))) :
    PySem.W.WalkO q loose XP YP l.row.toRowW d [] (fun f vs => PySem.call f vs) :=
  Att.attach_call hn hdf fun w _ s1 mg _ fa _ _ _ _ a us ns G Y _ _ _ hm hobj hi hl hg => by
    have KX := hY w _ Y
    obtain ⟨fd, hb, hF⟩ := F w mg fa _ KX G.T.g hm
    exact head_g KX G.T.g G.T.b G.T.builtins G.T.nolimit hg hobj hi (Nat.le_trans hl (by decide)) hF hb
end Zn

set_option Elab.async false
set_option linter.all false
set_option maxRecDepth 100000
set_option maxHeartbeats 8000000
namespace Zn
open PySem PySem.Spec PyProof.Rows L2 Dl
/-! ### k02: what the start has written, put together -/
def DfE (K : PySem.W.Frag) (mg : Str → Option Value) (x : Str) (st : Stmt) (ps : List Str) : Prop := ∃ f fd, Df K mg x st ps f fd
theorem df_mk {K : PySem.W.Frag} {h : Heap} {mg : Str → Option Value} {x : Str} {st : Stmt} {ps : List Str} {f : Addr} {od an : Option Addr} {osl : Array (Option Value)} {oc kV dc pm cd ct : Value} (X : K.In h) (G : h.Ns mainGlobals mg)
    (a : PySem.W.nsIn K mainGlobals x = some (some (.ref f))) (l : K.lookup f = some ⟨oc, od, .func (PySem.W.fnOf x x (defArgs st) (defBody st) (defScope st) .none kV dc pm an cd ct), osl⟩) (c : PySem.W.codeIn K cd x = true) (k : PySem.W.keepIn K (.ref f) = true)
    (hb : ∀ (us : List Value), us.length = ps.length → bindArgs (PySem.W.fnOf x x (defArgs st) (defBody st) (defScope st) .none kV dc pm an cd ct) ⟨us, []⟩ = pure (ps.zip us)) : DfE K mg x st ps :=
  ⟨f, _, fun_mk l c k, PySem.W.mg_of X G a, .all hb⟩
def GlI (K : PySem.W.Frag) (x : Str) (n : Int) : Prop := ∃ t, PySem.W.nsIn K mainGlobals x = some (some (.int n t))
theorem gi_mk {K : PySem.W.Frag} {x : Str} {n : Int} {t : Tok} (h : PySem.W.nsIn K mainGlobals x = some (some (.int n t))) : GlI K x n := ⟨t, h⟩
def GlS (K : PySem.W.Frag) (x : Str) (n : Str) : Prop := ∃ t, PySem.W.nsIn K mainGlobals x = some (some (.str n t))
theorem gs_mk {K : PySem.W.Frag} {x : Str} {n : Str} {t : Tok} (h : PySem.W.nsIn K mainGlobals x = some (some (.str n t))) : GlS K x n := ⟨t, h⟩
structure Gls (K : PySem.W.Frag) : Prop where
  g1 : GlI K "DAY_LENGTH" 1440
  g2 : GlI K "HOUR_LENGTH" 60
  g3 : GlI K "DAY_HOURS" 24
  g4 : GlI K "LONGEST_NAME" 8
  g5 : GlS K "LETTERS" letS
  g6 : GlS K "DIGITS" digS
/-- a class of exceptions with one field, as the start has laid it -/
structure XcE (K : PySem.W.Frag) (x qn : Str) (st : Stmt) (C : Addr) : Prop where
  aC : PySem.W.nsIn K mainGlobals x = some (some (.ref C))
  T : OexC K C
  xf : XfC K C
  no : PySem.W.findIn K (.ref C) "value" = some none
  isC : PySem.W.isClsIn K C = true
  te : PySem.W.exmOne K (.ref C) (.ref C) = some true
  fn : ∃ fI fd, PySem.W.findIn K (.ref C) "__init__" = some (some (.ref fI)) ∧ PySem.W.typeIn K (.ref fI) = some (.type "function") ∧ Fun K "__init__" qn st fI fd ∧ Binds K fd ["self", "value"] []
theorem exm_any {K : PySem.W.Frag} {D S : Addr} {r : Bool} (h1 : PySem.W.subIn K (.ref S) (.type "BaseException") = some true) (h2 : PySem.W.isClsIn K S = true) (h3 : PySem.W.typeIn K (.ref S) = some (.type "type")) (h4 : PySem.W.subIn K (.ref D) (.ref S) = some r) : PySem.W.exmOne K (.ref D) (.ref S) = some r := by
  unfold PySem.W.exmOne
  have h2' : (PySem.W.clsIn K S).isSome = true := h2
  have e2 : ((PySem.W.clsIn K S).isSome && PySem.W.typeIn K (.ref S) == some (.type "type")) = true := by
    rw [h2', h3] <;> rfl
  rw [h1, if_pos (by rfl)]
  show (if ((PySem.W.clsIn K S).isSome && PySem.W.typeIn K (.ref S) == some (.type "type")) = true then PySem.W.subIn K (.ref D) (.ref S) else none) = some r
  rw [if_pos e2, h4]
theorem xc_mk {K : PySem.W.Frag} {x qn : Str} {st : Stmt} {C fI N : Addr} {nm q : Str} {bs bm : List Value} {sn : List Str} {sub : List Value} {ab : Bool} {col : Option Bool} {dd : Option Addr} {m0 m1 m2 m3 m5 : Option Value} {od an : Option Addr} {osl : Array (Option Value)} {oc kV dc pm cd ct : Value}
    (aC : PySem.W.nsIn K mainGlobals x = some (some (.ref C))) (xL : K.lookup C = some (excClassObj nm q C N bs bm true sn sub ab col dd m0 m1 m2 m3 m5 "ValueError.__new__")) (ve : PySem.HandSPX.refsVE bm = true)
    (sa : PySem.W.findIn K (.ref C) "__setattr__" = some (some (.builtin "object.__setattr__"))) (ga : PySem.W.findIn K (.ref C) "__getattribute__" = some (some (.builtin "BaseException.__getattribute__"))) (gg : PySem.W.findIn K (.ref C) "__getattr__" = some none) (nb : PySem.W.findIn K (.ref C) "value" = some none)
    (kC : PySem.W.keepIn K (.ref C) = true) (eC : PySem.W.subIn K (.ref C) (.type "BaseException") = some true) (tC : PySem.W.typeIn K (.ref C) = some (.type "type")) (hC : PySem.W.hasDictIn K C = true) (iC : PySem.W.isClsIn K C = true) (sC : PySem.W.subIn K (.ref C) (.ref C) = some true)
    (a1 : PySem.W.findIn K (.ref C) "__init__" = some (some (.ref fI))) (t1 : PySem.W.typeIn K (.ref fI) = some (.type "function")) (l : K.lookup fI = some ⟨oc, od, .func (PySem.W.fnOf "__init__" qn (defArgs st) (defBody st) (defScope st) .none kV dc pm an cd ct), osl⟩) (c : PySem.W.codeIn K cd qn = true) (k : PySem.W.keepIn K (.ref fI) = true)
    (hb : ∀ (us : List Value), us.length = 2 → bindArgs (PySem.W.fnOf "__init__" qn (defArgs st) (defBody st) (defScope st) .none kV dc pm an cd ct) ⟨us, []⟩ = pure ((["self", "value"] : List Str).zip us)) : XcE K x qn st C :=
  ⟨aC, ⟨⟨nm, q, N, bs, bm, sn, sub, ab, col, dd, m0, m1, m2, m3, m5, xL, ve⟩, sa, eC, tC, kC⟩, ⟨ga, gg, eC, hC⟩, nb, iC, exm_any eC iC tC sC, fI, _, a1, t1, fun_mk l c k, .all hb⟩
section
variable {P : Program} {w : World} {K : PySem.W.Frag} {mg : Str → Option Value} {base : Heap}
theorem scXT : FnScope ["self", "value"] ["self", "value"] (defScope sXTime) := ⟨rfl, rfl, rfl, by decide +kernel, rfl, by decide +kernel, by decide +kernel⟩
theorem ok_xtime {f C : Addr} {fd : FuncData} (T : OexC K C) (no : PySem.W.findIn K (.ref C) "value" = some none) (F : Fun K "__init__" "InvalidTime.__init__" sXTime f fd) : FnOk P w K mg base CX0 1 f fd ["self", "value"] (spXI C "value") := by
  refine F.ok scXT (fun vs H Q E h => ?_) (fun cdv A outer s H vs Q E hr h => ?_)
  · obtain ⟨a, v, rfl, _⟩ := h; rfl
  · obtain ⟨a, v, rfl, ha, q⟩ := h
    exact rb_ost T no (xv_name 1 rfl) (xv_name 0 rfl) ha fun H2 s2 dx h1 h2 => rb_nil (q H2 s2 dx h1 h2)
theorem scXX : FnScope ["self", "value"] ["self", "value"] (defScope sXText) := ⟨rfl, rfl, rfl, by decide +kernel, rfl, by decide +kernel, by decide +kernel⟩
theorem ok_xtext {f C : Addr} {fd : FuncData} (T : OexC K C) (no : PySem.W.findIn K (.ref C) "value" = some none) (F : Fun K "__init__" "InvalidText.__init__" sXText f fd) : FnOk P w K mg base CX0 1 f fd ["self", "value"] (spXI C "value") := by
  refine F.ok scXX (fun vs H Q E h => ?_) (fun cdv A outer s H vs Q E hr h => ?_)
  · obtain ⟨a, v, rfl, _⟩ := h; rfl
  · obtain ⟨a, v, rfl, ha, q⟩ := h
    exact rb_ost T no (xv_name 1 rfl) (xv_name 0 rfl) ha fun H2 s2 dx h1 h2 => rb_nil (q H2 s2 dx h1 h2)
theorem hs_of {cx : List Env → Hp → Shared → XK → Value → Shared → Prop} {k : Nat} {x : Str} {st : Stmt} {ps : List Str} {sp : Sp} {f : Addr} {fd : FuncData} (F : Df K mg x st ps f fd) (G : FnOk P w K mg base cx k f fd ps sp) : Hs P w K mg base cx k x ps sp f fd := ⟨G, F.g, F.F.kp, F.b⟩
end
structure NoB (K : PySem.W.Frag) : Prop where
  isi : PySem.W.nsIn K mainGlobals "isinstance" = some none
  int : PySem.W.nsIn K mainGlobals "int" = some none
  bool : PySem.W.nsIn K mainGlobals "bool" = some none
  str : PySem.W.nsIn K mainGlobals "str" = some none
  len : PySem.W.nsIn K mainGlobals "len" = some none
  min : PySem.W.nsIn K mainGlobals "min" = some none
  max : PySem.W.nsIn K mainGlobals "max" = some none
  rep : PySem.W.nsIn K mainGlobals "repr" = some none
  rng : PySem.W.nsIn K mainGlobals "range" = some none
  all : PySem.W.nsIn K mainGlobals "all" = some none
structure DfA (K : PySem.W.Frag) (mg : Str → Option Value) : Prop where
  d0 : DfE K mg "is_whole" sWhole ["value"]
  d1 : DfE K mg "is_integer" sIsInt ["value", "low", "high"]
  d2 : DfE K mg "is_name" sIsName ["value"]
  d3 : DfE K mg "is_time" sIsTime ["value"]
  d4 : DfE K mg "is_time_text" sIsTT ["value"]
  d5 : DfE K mg "need_integer" sNeed ["value"]
  d6 : DfE K mg "need_time" sNeedT ["value"]
  d7 : DfE K mg "day_of" sDayOf ["reading"]
  d8 : DfE K mg "time_of" sTimeOf ["reading"]
  d9 : DfE K mg "reading_of" sReadOf ["day", "time"]
  d10 : DfE K mg "time_text" sTimeText ["time"]
  d11 : DfE K mg "time_from" sTimeFrom ["text"]
  d12 : DfE K mg "_law_cell" sCell ["_law_script", "_law_k"]
  d13 : DfE K mg "_law_box" sBag ["_law_cell_here"]
  d14 : DfE K mg "_law_take" sTake ["_law_box_here", "_law_many"]
  d15 : DfE K mg "_law_name_due" sNDue ["_law_thing"]
  d16 : DfE K mg "_law_line" sLine ["_law_box_here"]
  d17 : DfE K mg "_law_time_line" sTLine ["_law_box_here"]
  d18 : DfE K mg "_law_time_due" sTDue ["_law_line_here"]
  d19 : DfE K mg "_law_told" sTold ["_law_way", "_law_one", "_law_two"]
  d20 : DfE K mg "_law_readings_right" sReadR ["_law_box_here"]
  d21 : DfE K mg "_law_odd_right" sOdd []
  d22 : DfE K mg "law" sLaw ["_law_script"]
structure Sub3 (K : PySem.W.Frag) (CI CT CX' : Addr) : Prop where
  s1 : PySem.W.subIn K (.ref CT) (.ref CI) = some false
  s2 : PySem.W.subIn K (.ref CX') (.ref CI) = some false
  s3 : PySem.W.subIn K (.ref CX') (.ref CT) = some false
theorem al_of {P : Program} {w : World} {K : PySem.W.Frag} {h : Heap} {mg : Str → Option Value} {base : Heap} {CI CT CX' f : Addr} {fd : FuncData} (X : K.In h) (G : h.Ns mainGlobals mg) (hGl : Gls K) (B : NoB K) (D : DfA K mg) (EI : XcE K "InvalidInteger" "InvalidInteger.__init__" sXInt CI) (ET : XcE K "InvalidTime" "InvalidTime.__init__" sXTime CT) (EX : XcE K "InvalidText" "InvalidText.__init__" sXText CX') (S : Sub3 K CI CT CX')
    (FL : Fun K "law" "law" sLaw f fd) : FnG P w K mg base 8 f fd ["_law_script"] (spLaw K) := by
  have T : Nm mg := ⟨PySem.W.mg_none_of X G B.isi, PySem.W.mg_none_of X G B.int, PySem.W.mg_none_of X G B.bool, PySem.W.mg_none_of X G B.str, PySem.W.mg_none_of X G B.len, PySem.W.mg_none_of X G B.min, PySem.W.mg_none_of X G B.max, PySem.W.mg_none_of X G B.rep, PySem.W.mg_none_of X G B.rng, PySem.W.mg_none_of X G B.all⟩
  obtain ⟨⟨t1, g1⟩, ⟨t2, g2⟩, ⟨t3, g3⟩, ⟨t4, g4⟩, ⟨t5, g5⟩, ⟨t6, g6⟩⟩ := hGl
  have h1 : ∃ t, mg "DAY_LENGTH" = some (.int 1440 t) := ⟨t1, PySem.W.mg_of X G g1⟩
  have h2 : ∃ t, mg "HOUR_LENGTH" = some (.int 60 t) := ⟨t2, PySem.W.mg_of X G g2⟩
  have h3 : ∃ t, mg "DAY_HOURS" = some (.int 24 t) := ⟨t3, PySem.W.mg_of X G g3⟩
  have h4 : ∃ t, mg "LONGEST_NAME" = some (.int 8 t) := ⟨t4, PySem.W.mg_of X G g4⟩
  have h5 : ∃ t, mg "LETTERS" = some (.str letS t) := ⟨t5, PySem.W.mg_of X G g5⟩
  have h6 : ∃ t, mg "DIGITS" = some (.str digS t) := ⟨t6, PySem.W.mg_of X G g6⟩
  obtain ⟨f0, fd0, F0⟩ := D.d0
  obtain ⟨f1, fd1, F1⟩ := D.d1
  obtain ⟨f2, fd2, F2⟩ := D.d2
  obtain ⟨f3, fd3, F3⟩ := D.d3
  obtain ⟨f4, fd4, F4⟩ := D.d4
  obtain ⟨f5, fd5, F5⟩ := D.d5
  obtain ⟨f6, fd6, F6⟩ := D.d6
  obtain ⟨f7, fd7, F7⟩ := D.d7
  obtain ⟨f8, fd8, F8⟩ := D.d8
  obtain ⟨f9, fd9, F9⟩ := D.d9
  obtain ⟨f10, fd10, F10⟩ := D.d10
  obtain ⟨f11, fd11, F11⟩ := D.d11
  obtain ⟨f12, fd12, F12⟩ := D.d12
  obtain ⟨f13, fd13, F13⟩ := D.d13
  obtain ⟨f14, fd14, F14⟩ := D.d14
  obtain ⟨f15, fd15, F15⟩ := D.d15
  obtain ⟨f16, fd16, F16⟩ := D.d16
  obtain ⟨f17, fd17, F17⟩ := D.d17
  obtain ⟨f18, fd18, F18⟩ := D.d18
  obtain ⟨f19, fd19, F19⟩ := D.d19
  obtain ⟨f20, fd20, F20⟩ := D.d20
  obtain ⟨f21, fd21, F21⟩ := D.d21
  obtain ⟨xi, di, xi1, xi2, xi3, xi4⟩ := EI.fn
  obtain ⟨xt, dt, xt1, xt2, xt3, xt4⟩ := ET.fn
  obtain ⟨xx, dx, xx1, xx2, xx3, xx4⟩ := EX.fn
  have YI : XCls P w K mg base "InvalidInteger" "value" CI xi di := ⟨PySem.W.mg_of X G EI.aC, EI.T, xi1, xi2, ok_xint EI.T EI.no xi3, xi4, EI.xf, EI.no, EI.te⟩
  have YT : XCls P w K mg base "InvalidTime" "value" CT xt dt := ⟨PySem.W.mg_of X G ET.aC, ET.T, xt1, xt2, ok_xtime ET.T ET.no xt3, xt4, ET.xf, ET.no, ET.te⟩
  have YX : XCls P w K mg base "InvalidText" "value" CX' xx dx := ⟨PySem.W.mg_of X G EX.aC, EX.T, xx1, xx2, ok_xtext EX.T EX.no xx3, xx4, EX.xf, EX.no, EX.te⟩
  have e1 := exm_any EI.T.exC EI.isC EI.T.tyC S.s1
  have e2 := exm_any EI.T.exC EI.isC EI.T.tyC S.s2
  have e3 := exm_any ET.T.exC ET.isC ET.T.tyC S.s3
  have GW := ok_whole (P := P) (w := w) (base := base) T F0
  have GI := ok_isInt GW F0 F1
  have GNm := ok_isName (P := P) (w := w) (base := base) T h4 h5 h6 F2
  have GIT := ok_isTime h1 GI F1 F3
  have GTT := ok_isTT (P := P) (w := w) (base := base) T h6 h3 h2 F4
  have GNI := ok_needI YI GW F0 F5
  have GNT := ok_needT YT GIT F3 F6
  have GD := hs_of F7 (ok_dayOf h1 GNI F5 F7)
  have GM := hs_of F8 (ok_timeOf h1 GNI F5 F8)
  have GR := hs_of F9 (ok_readOf h1 GNI F5 GNT F6 F9)
  have GX := hs_of F10 (ok_ttext h2 GNT F6 F10)
  have GF := hs_of F11 (ok_tf T h2 YX GTT F4 F11)
  have GTk := ok_take (P := P) (w := w) (base := base) F14
  have GTo := hs_of F19 (ok_told GD GM GR GX GF YI YT YX e1 e2 e3 F19)
  have GRR := ok_readR T GD GM GR GX GF (hs_of F1 GI) (hs_of F3 GIT) GTk F14 F20
  have GO := ok_odd T GTo (hs_of F1 GI) (hs_of F3 GIT) F21
  exact ok_law T (hs_of F12 (ok_cell T F12)) (hs_of F13 (ok_bag T F13)) GTk F14 (hs_of F16 (ok_line T GTk F14 F16)) (hs_of F17 (ok_tline GTk F14 F17)) (hs_of F2 GNm) (hs_of F15 (ok_ndue T F15)) (hs_of F18 (ok_tdue T F18)) GTo GRR F20 GO F21 FL
theorem all_g {l : PySem.W.OpenLaw} {w : World} {K : PySem.W.Frag} {h : Heap} {mg : Str → Option Value} {fa CI CT CX' : Addr} (X : K.In h) (G : h.Ns mainGlobals mg) (hfa : mg "law" = some (.ref fa)) (hGl : Gls K) (B : NoB K) (D : DfA K mg) (EI : XcE K "InvalidInteger" "InvalidInteger.__init__" sXInt CI) (ET : XcE K "InvalidTime" "InvalidTime.__init__" sXTime CT) (EX : XcE K "InvalidText" "InvalidText.__init__" sXText CX') (S : Sub3 K CI CT CX') :
    ∃ fd : FuncData, (∀ (s : Shared) (v : Value), BindsTo s fd ⟨[v], []⟩ [("_law_script", v)]) ∧ ∀ base : Heap, K.In base → base.Ns mainGlobals mg → FnG l.prog w K mg base 8 fa fd ["_law_script"] (spLaw K) := by
  obtain ⟨f, fd, F⟩ := D.d22
  have e := hfa.symm.trans F.g
  injection e with e
  injection e with e
  subst e
  obtain ⟨oc, od, kV, dc, pm, an, cdv, ct, osl, rfl, _⟩ := F.F.ex
  exact ⟨_, fun s v => .of_eq rfl, fun base _ _ => al_of X G hGl B D EI ET EX S F.F⟩
end Zn

set_option Elab.async false
open PySem PySem.W PyProof.Rows in
set_option maxRecDepth 100000 in
set_option maxHeartbeats 0 in
theorem PySem.Challenge.cw_everyzone_k02_names_days_and_times_holds : PySem.Challenge.rw_everyzone_k02_names_days_and_times.Holds := by
  w_on; o_law; k_head; (case hw => w_witness2)
  k_fill
  refine Zn.walk_g (l := PySem.Challenge.rw_everyzone_k02_names_days_and_times) rfl rfl (fun w h Y => PySem.W.kIn_of Y) ?F
  case F =>
    intro w mg fa h KX G hmg
    refine' Zn.all_g KX G hmg ⟨Zn.gi_mk ?gj, Zn.gi_mk ?gj2, Zn.gi_mk ?gj3, Zn.gi_mk ?gj4, Zn.gs_mk ?gj5, Zn.gs_mk ?gj6⟩ ?B ?D ?eI ?eT ?eX ⟨?s1, ?s2, ?s3⟩
    case eI =>
      refine' Zn.xc_mk ?aC ?xL ?ve ?sa ?ga ?gg ?nb ?kC ?eC ?tC ?hC ?iC ?sC ?a1 ?t1 ?l ?c ?k ?hb
      (case aC => k_is)
      (case xL => k_is)
      (case ve => decide +kernel)
      (case sa => k_is)
      (case ga => k_is)
      (case gg => k_is)
      (case nb => k_is)
      (case kC => k_is)
      (case eC => k_is)
      (case tC => k_is)
      (case hC => k_is)
      (case iC => k_is)
      (case sC => first | rfl | k_is)
      (case a1 => k_is)
      (case t1 => k_is)
      (case l => k_is)
      (case c => k_is)
      (case k => k_is)
      (case hb => exact fun us hl => match us, hl with | [_, _], _ => rfl)
    case eT =>
      refine' Zn.xc_mk ?aC ?xL ?ve ?sa ?ga ?gg ?nb ?kC ?eC ?tC ?hC ?iC ?sC ?a1 ?t1 ?l ?c ?k ?hb
      (case aC => k_is)
      (case xL => k_is)
      (case ve => decide +kernel)
      (case sa => k_is)
      (case ga => k_is)
      (case gg => k_is)
      (case nb => k_is)
      (case kC => k_is)
      (case eC => k_is)
      (case tC => k_is)
      (case hC => k_is)
      (case iC => k_is)
      (case sC => first | rfl | k_is)
      (case a1 => k_is)
      (case t1 => k_is)
      (case l => k_is)
      (case c => k_is)
      (case k => k_is)
      (case hb => exact fun us hl => match us, hl with | [_, _], _ => rfl)
    case eX =>
      refine' Zn.xc_mk ?aC ?xL ?ve ?sa ?ga ?gg ?nb ?kC ?eC ?tC ?hC ?iC ?sC ?a1 ?t1 ?l ?c ?k ?hb
      (case aC => k_is)
      (case xL => k_is)
      (case ve => decide +kernel)
      (case sa => k_is)
      (case ga => k_is)
      (case gg => k_is)
      (case nb => k_is)
      (case kC => k_is)
      (case eC => k_is)
      (case tC => k_is)
      (case hC => k_is)
      (case iC => k_is)
      (case sC => first | rfl | k_is)
      (case a1 => k_is)
      (case t1 => k_is)
      (case l => k_is)
      (case c => k_is)
      (case k => k_is)
      (case hb => exact fun us hl => match us, hl with | [_, _], _ => rfl)
    (case gj => k_is)
    (case gj2 => k_is)
    (case gj3 => k_is)
    (case gj4 => k_is)
    (case gj5 => k_is)
    (case gj6 => k_is)
    (case s1 => k_is)
    (case s2 => k_is)
    (case s3 => k_is)
    case B =>
      refine' ⟨?n0, ?n1, ?n2, ?n3, ?n4, ?n5, ?n6, ?n7, ?n8, ?n9⟩
      (case n0 => k_is)
      (case n1 => k_is)
      (case n2 => k_is)
      (case n3 => k_is)
      (case n4 => k_is)
      (case n5 => k_is)
      (case n6 => k_is)
      (case n7 => k_is)
      (case n8 => k_is)
      (case n9 => k_is)
    case D =>
      refine' ⟨?d0, ?d1, ?d2, ?d3, ?d4, ?d5, ?d6, ?d7, ?d8, ?d9, ?d10, ?d11, ?d12, ?d13, ?d14, ?d15, ?d16, ?d17, ?d18, ?d19, ?d20, ?d21, ?d22⟩
      case d0 =>
        refine' Zn.df_mk KX G ?a ?l ?c ?k ?b
        (case a => k_is)
        (case l => k_is)
        (case c => k_is)
        (case k => k_is)
        (case b => exact fun us hl => match us, hl with | [_], _ => rfl)
      case d1 =>
        refine' Zn.df_mk KX G ?a ?l ?c ?k ?b
        (case a => k_is)
        (case l => k_is)
        (case c => k_is)
        (case k => k_is)
        (case b => exact fun us hl => match us, hl with | [_, _, _], _ => rfl)
      case d2 =>
        refine' Zn.df_mk KX G ?a ?l ?c ?k ?b
        (case a => k_is)
        (case l => k_is)
        (case c => k_is)
        (case k => k_is)
        (case b => exact fun us hl => match us, hl with | [_], _ => rfl)
      case d3 =>
        refine' Zn.df_mk KX G ?a ?l ?c ?k ?b
        (case a => k_is)
        (case l => k_is)
        (case c => k_is)
        (case k => k_is)
        (case b => exact fun us hl => match us, hl with | [_], _ => rfl)
      case d4 =>
        refine' Zn.df_mk KX G ?a ?l ?c ?k ?b
        (case a => k_is)
        (case l => k_is)
        (case c => k_is)
        (case k => k_is)
        (case b => exact fun us hl => match us, hl with | [_], _ => rfl)
      case d5 =>
        refine' Zn.df_mk KX G ?a ?l ?c ?k ?b
        (case a => k_is)
        (case l => k_is)
        (case c => k_is)
        (case k => k_is)
        (case b => exact fun us hl => match us, hl with | [_], _ => rfl)
      case d6 =>
        refine' Zn.df_mk KX G ?a ?l ?c ?k ?b
        (case a => k_is)
        (case l => k_is)
        (case c => k_is)
        (case k => k_is)
        (case b => exact fun us hl => match us, hl with | [_], _ => rfl)
      case d7 =>
        refine' Zn.df_mk KX G ?a ?l ?c ?k ?b
        (case a => k_is)
        (case l => k_is)
        (case c => k_is)
        (case k => k_is)
        (case b => exact fun us hl => match us, hl with | [_], _ => rfl)
      case d8 =>
        refine' Zn.df_mk KX G ?a ?l ?c ?k ?b
        (case a => k_is)
        (case l => k_is)
        (case c => k_is)
        (case k => k_is)
        (case b => exact fun us hl => match us, hl with | [_], _ => rfl)
      case d9 =>
        refine' Zn.df_mk KX G ?a ?l ?c ?k ?b
        (case a => k_is)
        (case l => k_is)
        (case c => k_is)
        (case k => k_is)
        (case b => exact fun us hl => match us, hl with | [_, _], _ => rfl)
      case d10 =>
        refine' Zn.df_mk KX G ?a ?l ?c ?k ?b
        (case a => k_is)
        (case l => k_is)
        (case c => k_is)
        (case k => k_is)
        (case b => exact fun us hl => match us, hl with | [_], _ => rfl)
      case d11 =>
        refine' Zn.df_mk KX G ?a ?l ?c ?k ?b
        (case a => k_is)
        (case l => k_is)
        (case c => k_is)
        (case k => k_is)
        (case b => exact fun us hl => match us, hl with | [_], _ => rfl)
      case d12 =>
        refine' Zn.df_mk KX G ?a ?l ?c ?k ?b
        (case a => k_is)
        (case l => k_is)
        (case c => k_is)
        (case k => k_is)
        (case b => exact fun us hl => match us, hl with | [_, _], _ => rfl)
      case d13 =>
        refine' Zn.df_mk KX G ?a ?l ?c ?k ?b
        (case a => k_is)
        (case l => k_is)
        (case c => k_is)
        (case k => k_is)
        (case b => exact fun us hl => match us, hl with | [_], _ => rfl)
      case d14 =>
        refine' Zn.df_mk KX G ?a ?l ?c ?k ?b
        (case a => k_is)
        (case l => k_is)
        (case c => k_is)
        (case k => k_is)
        (case b => exact fun us hl => match us, hl with | [_, _], _ => rfl)
      case d15 =>
        refine' Zn.df_mk KX G ?a ?l ?c ?k ?b
        (case a => k_is)
        (case l => k_is)
        (case c => k_is)
        (case k => k_is)
        (case b => exact fun us hl => match us, hl with | [_], _ => rfl)
      case d16 =>
        refine' Zn.df_mk KX G ?a ?l ?c ?k ?b
        (case a => k_is)
        (case l => k_is)
        (case c => k_is)
        (case k => k_is)
        (case b => exact fun us hl => match us, hl with | [_], _ => rfl)
      case d17 =>
        refine' Zn.df_mk KX G ?a ?l ?c ?k ?b
        (case a => k_is)
        (case l => k_is)
        (case c => k_is)
        (case k => k_is)
        (case b => exact fun us hl => match us, hl with | [_], _ => rfl)
      case d18 =>
        refine' Zn.df_mk KX G ?a ?l ?c ?k ?b
        (case a => k_is)
        (case l => k_is)
        (case c => k_is)
        (case k => k_is)
        (case b => exact fun us hl => match us, hl with | [_], _ => rfl)
      case d19 =>
        refine' Zn.df_mk KX G ?a ?l ?c ?k ?b
        (case a => k_is)
        (case l => k_is)
        (case c => k_is)
        (case k => k_is)
        (case b => exact fun us hl => match us, hl with | [_, _, _], _ => rfl)
      case d20 =>
        refine' Zn.df_mk KX G ?a ?l ?c ?k ?b
        (case a => k_is)
        (case l => k_is)
        (case c => k_is)
        (case k => k_is)
        (case b => exact fun us hl => match us, hl with | [_], _ => rfl)
      case d21 =>
        refine' Zn.df_mk KX G ?a ?l ?c ?k ?b
        (case a => k_is)
        (case l => k_is)
        (case c => k_is)
        (case k => k_is)
        (case b => exact fun us hl => match us, hl with | [], _ => rfl)
      case d22 =>
        refine' Zn.df_mk KX G ?a ?l ?c ?k ?b
        (case a => k_is)
        (case l => k_is)
        (case c => k_is)
        (case k => k_is)
        (case b => exact fun us hl => match us, hl with | [_], _ => rfl)
