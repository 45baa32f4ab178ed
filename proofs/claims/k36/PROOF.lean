import PyProof.Rows.All
import Wide.All
import OpenK.AllK
import Wide.FinOn
import PyProof.EqAt
import PyProof.EqKinds
import PyProof.TupleCall
import PyProof.ReprRoads
import HandS.ForMost
import HandS.IsInst
import HandS.Wide
import PyProof.InstNe
import HandS.Property
import HandS.SetBool
import HandS.Strs
import HandS.RaiseMore
import HandS.Dict
import KE.SortData
import HandS.SetFor
import KE.KTupSum
import KE.GoesEnum
import HandS.Star
import HandS.Iter
import HandS.Text
import HandS.Steps
import KE.KDictZip
import KE.KTurns
import HandS.Conv
import PySem.Challenge.RW_everyzone_k36_changes_left_by_logs
import HandS.NoneIn
import HandS.More
import HandS.Rev
set_option Elab.async false
set_option linter.all false
set_option maxRecDepth 100000
set_option maxHeartbeats 4000000
/-! Data layer: pure expressions by the data they come to. M: addresses that may change; what is known stands outside of M. -/
namespace Dl
open PySem PySem.Spec PyProof.Rows L2

/-! ### what is known -/
def hid (M : List Addr) (H : Hp) : Hp := fun a => if a ∈ M then none else H a
def Live (M : List Addr) (H : Hp) : Prop := ∀ a ∈ M, H a ≠ none
section
variable {M : List Addr} {H H' : Hp} {a p : Addr} {o : HO}
theorem hid_of (n : a ∉ M) : hid M H a = H a := if_neg n
theorem hid_le : Same (hid M H) H := fun b o e => by
  unfold hid at e
  split at e
  · cases e
  · exact e
theorem hid_mono (s : Same H H') : Same (hid M H) (hid M H') := fun b o e => by
  unfold hid at e ⊢
  split at e
  · cases e
  · rename_i n; rw [if_neg n]; exact s b o e
theorem hid_nil : hid [] H = H := by funext b; unfold hid; rw [if_neg (by simp)]
theorem hid_upd_mem (h : p ∈ M) : hid M (upd H p o) = hid M H := by
  funext b; unfold hid
  split
  · rfl
  · rename_i n; rw [upd_ne (fun z => n (by rw [z]; exact h))]
theorem Live.mono (L : Live M H) (s : Same H H') : Live M H' := fun b hb z => by
  cases e : H b with
  | none => exact L b hb e
  | some o => rw [s b o e] at z; cases z
theorem Live.fresh (L : Live M H) (hp : H p = none) : p ∉ M := fun h => L p h hp
theorem Live.nil : Live [] H := fun _ h => by simp at h
theorem hid_new (L : Live M H) (hp : H p = none) : hid M (upd H p o) = upd (hid M H) p o := by
  funext b; unfold hid upd
  by_cases hb : b = p
  · subst hb; rw [if_neg (L.fresh hp), if_pos rfl, if_pos rfl]
  · rw [if_neg hb, if_neg hb]
theorem hid_free (hp : H p = none) : hid M H p = none := by unfold hid; split <;> first | rfl | exact hp
theorem hid_cons (hp : H p = none) : hid (p :: M) (upd H p o) = hid M H := by
  funext b; unfold hid
  by_cases hb : b = p
  · subst hb
    rw [if_pos (List.mem_cons_self ..)]
    split <;> first | rfl | exact hp.symm
  · by_cases hm : b ∈ M
    · rw [if_pos (List.mem_cons_of_mem _ hm), if_pos hm]
    · rw [if_neg (by simp [hb, hm]), if_neg hm, upd_ne hb]
theorem Live.cons (L : Live M H) (hp : H p = none) : Live (p :: M) (upd H p o) := fun b hb => by
  rcases List.mem_cons.mp hb with e | hb
  · subst e; rw [upd_same]; simp
  · rw [upd_ne (fun z => L b hb (by rw [z]; exact hp))]; exact L b hb
theorem Live.upd (L : Live M H) : Live M (upd H p o) := fun b hb => by
  by_cases e : b = p
  · subst e; rw [upd_same]; simp
  · rw [upd_ne e]; exact L b hb
theorem same_new (hp : H p = none) : Same H (upd H p o) := fun b u e => by rw [upd_ne (ne_of_none e hp)]; exact e
theorem Live.to (L : Live M H) (s : Same (hid [] H) H') : Live M H' := L.mono (by rw [hid_nil] at s; exact s)
theorem hid_hid : hid M (hid M H) = hid M H := by
  funext b; unfold hid; split <;> rfl
end
theorem same_seqT {K : PySem.W.Frag} {H H' : Hp} {a : Addr} {xs : List V} (e : Same H H') (h : SqT K H a xs) : SqT K H' a xs := by
  rcases h with (h | ⟨o, h⟩) | h
  · exact .inl (.inl (e _ _ h))
  · exact .inl (.inr ⟨o, e _ _ h⟩)
  · exact .inr h
mutual
/-- a value is the data (every list is one that is tracked) -/
inductive Dq (K : PySem.W.Frag) (H : Hp) : V → PyData → Prop
  | non : Dq K H .non .none
  | bl (b : Bool) : Dq K H (.bl b) (.bool b)
  | int (i : Int) : Dq K H (.int i) (.int i)
  | str (x : Str) : Dq K H (.str x) (.str x)
  | lst {a : Addr} {xs : List V} {ds : List PyData} : H a = some (.lst xs) → DqAll K H xs ds → Dq K H (.ref a) (.list ds)
  | tup {a : Addr} {xs : List V} {ds : List PyData} : SqT K H a xs → DqAll K H xs ds → Dq K H (.ref a) (.tuple ds)
inductive DqAll (K : PySem.W.Frag) (H : Hp) : List V → List PyData → Prop
  | nil : DqAll K H [] []
  | cons {v : V} {vs : List V} {d : PyData} {ds : List PyData} : Dq K H v d → DqAll K H vs ds → DqAll K H (v :: vs) (d :: ds)
end
mutual
theorem Dq.dp {K : PySem.W.Frag} {H : Hp} : ∀ (d : PyData) (v : V), Dq K H v d → Dp K H v d
  | .none, _, h => by cases h; exact .non
  | .bool b, _, h => by cases h; exact .bl b
  | .int i, _, h => by cases h; exact .int i
  | .str x, _, h => by cases h; exact .str x
  | .list ds, _, h => by
    cases h with
    | lst hs ha => exact .lst (SqL.of hs) (DqAll.dp ds _ ha)
  | .tuple ds, _, h => by
    cases h with
    | tup hs ha => exact .tup hs (DqAll.dp ds _ ha)
  | .dict _, _, h => by cases h
theorem DqAll.dp {K : PySem.W.Frag} {H : Hp} : ∀ (ds : List PyData) (vs : List V), DqAll K H vs ds → DpAll K H vs ds
  | [], _, h => by cases h; exact .nil
  | d :: ds, _, h => by
    cases h with
    | cons h1 h2 => exact .cons (Dq.dp d _ h1) (DqAll.dp ds _ h2)
end
mutual
theorem dp_mono {K : PySem.W.Frag} {H H' : Hp} (e : Same H H') : ∀ (d : PyData) (v : V), Dq K H v d → Dq K H' v d
  | .none, _, h => by cases h; exact .non
  | .bool b, _, h => by cases h; exact .bl b
  | .int i, _, h => by cases h; exact .int i
  | .str x, _, h => by cases h; exact .str x
  | .list ds, _, h => by
    cases h with
    | lst hs ha => exact .lst (e _ _ hs) (dpa_mono e ds _ ha)
  | .tuple ds, _, h => by
    cases h with
    | tup hs ha => exact .tup (same_seqT e hs) (dpa_mono e ds _ ha)
  | .dict _, _, h => by cases h
theorem dpa_mono {K : PySem.W.Frag} {H H' : Hp} (e : Same H H') : ∀ (ds : List PyData) (vs : List V), DqAll K H vs ds → DqAll K H' vs ds
  | [], _, h => by cases h; exact .nil
  | d :: ds, _, h => by
    cases h with
    | cons h1 h2 => exact .cons (dp_mono e d _ h1) (dpa_mono e ds _ h2)
end
section
variable {K : PySem.W.Frag} {H H' : Hp} {v : V} {vs : List V} {ds es : List PyData} {d : PyData}
theorem Dq.up (h : Dq K H v d) (e : Same H H') : Dq K H' v d := dp_mono e d v h
theorem DqAll.up (h : DqAll K H vs ds) (e : Same H H') : DqAll K H' vs ds := dpa_mono e ds vs h
theorem dpa_len : ∀ {vs : List V} {ds : List PyData}, DqAll K H vs ds → vs.length = ds.length
  | _, _, .nil => rfl
  | _, _, .cons _ h => by rw [List.length_cons, List.length_cons, dpa_len h]
theorem dpa_app : ∀ {vs ws : List V} {ds es : List PyData}, DqAll K H vs ds → DqAll K H ws es → DqAll K H (vs ++ ws) (ds ++ es)
  | _, _, _, _, .nil, h => h
  | _, _, _, _, .cons a b, h => .cons a (dpa_app b h)
theorem dpa_get : ∀ {vs : List V} {ds : List PyData} {i : Nat} {d : PyData}, DqAll K H vs ds → ds[i]? = some d → ∃ v, vs[i]? = some v ∧ Dq K H v d
  | _, _, _, _, .nil, e => by simp at e
  | _, _, 0, _, .cons a _, e => by simp at e; subst e; exact ⟨_, rfl, a⟩
  | _, _, i + 1, d, .cons _ b, e => by
    obtain ⟨v, h1, h2⟩ := dpa_get (i := i) (d := d) b (by simpa using e)
    exact ⟨v, by simpa using h1, h2⟩
theorem dpa_get' : ∀ {vs : List V} {ds : List PyData} {i : Nat} {v : V}, DqAll K H vs ds → vs[i]? = some v → ∃ d, ds[i]? = some d ∧ Dq K H v d
  | _, _, _, _, .nil, e => by simp at e
  | _, _, 0, _, .cons a _, e => by simp at e; subst e; exact ⟨_, rfl, a⟩
  | _, _, i + 1, v, .cons _ b, e => by
    obtain ⟨d, h1, h2⟩ := dpa_get' (i := i) (v := v) b (by simpa using e)
    exact ⟨d, by simpa using h1, h2⟩
theorem dpa_drop : ∀ (n : Nat) {vs : List V} {ds : List PyData}, DqAll K H vs ds → DqAll K H (vs.drop n) (ds.drop n)
  | 0, _, _, h => h
  | _ + 1, _, _, .nil => .nil
  | n + 1, _, _, .cons _ b => dpa_drop n b
theorem dpa_take : ∀ (n : Nat) {vs : List V} {ds : List PyData}, DqAll K H vs ds → DqAll K H (vs.take n) (ds.take n)
  | 0, _, _, _ => .nil
  | _ + 1, _, _, .nil => .nil
  | n + 1, _, _, .cons a b => .cons a (dpa_take n b)
theorem dp_int {i : Int} (h : Dq K H v (.int i)) : v = .int i := by cases h; rfl
theorem dp_bl {b : Bool} (h : Dq K H v (.bool b)) : v = .bl b := by cases h; rfl
theorem dp_str {x : Str} (h : Dq K H v (.str x)) : v = .str x := by cases h; rfl
theorem dp_non (h : Dq K H v .none) : v = .non := by cases h; rfl
theorem dp_lst (h : Dq K H v (.list ds)) : ∃ a xs, v = .ref a ∧ H a = some (.lst xs) ∧ DqAll K H xs ds := by
  cases h with
  | lst h1 h2 => exact ⟨_, _, rfl, h1, h2⟩
theorem dp_tup (h : Dq K H v (.tuple ds)) : ∃ a xs, v = .ref a ∧ SqT K H a xs ∧ DqAll K H xs ds := by
  cases h with
  | tup h1 h2 => exact ⟨_, _, rfl, h1, h2⟩
end
/-! ### readings by themselves -/
def RE (X : Cx) (e : Expr) : TE := fun σ H Q => ∃ t, PE X e t ∧ t σ H Q
def RT (X : Cx) (e : Expr) : TT := fun σ H Q => ∃ t, PT X e t ∧ t σ H Q
def RW (X : Cx) (e : Expr) : TT := fun σ H Q => ∃ t, PW X e t ∧ t σ H Q
def RA (X : Cx) (es : List Expr) : TA := fun σ H Q => ∃ t, PA X es t ∧ t σ H Q
def RS (X : Cx) (st : Stmt) : TS := fun D σ H => ∃ t, PS X st t ∧ t D σ H
def RB (X : Cx) (st : List Stmt) : TS := fun D σ H => ∃ t, PSs X st t ∧ t D σ H
def RI (X : Cx) (tg e : Expr) : TI := fun σ H R => ∃ t, PI X tg e t ∧ t σ H R
section
variable {X : Cx} {e tg : Expr} {es : List Expr} {st : Stmt} {sts : List Stmt}
theorem re_ : PE X e (RE X e) := ⟨fun pins s σ H Q I ⟨_, h, q⟩ => h.run pins s σ H Q I q⟩
theorem rt_ : PT X e (RT X e) := ⟨fun pins s σ H Q I ⟨_, h, q⟩ => h.run pins s σ H Q I q⟩
theorem rw_ : PW X e (RW X e) := ⟨fun wh pins s σ H Q I ⟨_, h, q⟩ => h.run wh pins s σ H Q I q⟩
theorem ra_ : PA X es (RA X es) := ⟨fun pos pins s σ H Q I ⟨_, h, q⟩ => h.run pos pins s σ H Q I q⟩
theorem rs_ : PS X st (RS X st) := ⟨fun pins s σ H D I ⟨_, h, q⟩ => h.run pins s σ H D I q⟩
theorem rb_ : PSs X sts (RB X sts) := ⟨fun pins s σ H D I ⟨_, h, q⟩ => h.run pins s σ H D I q⟩
theorem ri_ : PI X tg e (RI X tg e) := ⟨fun pins s σ H R I ⟨_, h, q⟩ => h.run pins s σ H R I q⟩
end
/-! ### what an expression comes to -/
/-- the data d; an exact value v; a new list of the data ds; arguments; a test -/
def XD (X : Cx) (M : List Addr) (σ : L2.St) (H : Hp) (e : Expr) (d : PyData) : Prop := ∀ H1, Same H H1 → ∀ Q : VK, (∀ v H2, Same H1 H2 → Dq X.K (hid M H2) v d → Q v H2) → RE X e σ H1 Q
def XV (X : Cx) (σ : L2.St) (H : Hp) (e : Expr) (v : V) : Prop := ∀ H1, Same H H1 → ∀ Q : VK, (∀ H2, Same H1 H2 → Q v H2) → RE X e σ H1 Q
def XL (X : Cx) (M : List Addr) (σ : L2.St) (H : Hp) (e : Expr) (ds : List PyData) : Prop :=
  ∀ H1, Same H H1 → ∀ Q : VK, (∀ p xs H2, Same H1 H2 → H1 p = none → H2 p = some (.lst xs) → DqAll X.K (hid M H2) xs ds → Q (.ref p) H2) → RE X e σ H1 Q
def XA (X : Cx) (M : List Addr) (σ : L2.St) (H : Hp) (es : List Expr) (ds : List PyData) : Prop := ∀ H1, Same H H1 → ∀ Q : List V → Hp → Prop, (∀ vs H2, Same H1 H2 → DqAll X.K (hid M H2) vs ds → Q vs H2) → RA X es σ H1 Q
def XT (X : Cx) (σ : L2.St) (H : Hp) (e : Expr) (b : Bool) : Prop := ∀ H1, Same H H1 → ∀ Q : Bool → Hp → Prop, (∀ H2, Same H1 H2 → Q b H2) → RT X e σ H1 Q
def XW (X : Cx) (σ : L2.St) (H : Hp) (e : Expr) (b : Bool) : Prop := ∀ H1, Same H H1 → ∀ Q : Bool → Hp → Prop, (∀ H2, Same H1 H2 → Q b H2) → RW X e σ H1 Q
section
variable {X : Cx} {M : List Addr} {σ : L2.St} {H H' : Hp} {e a b c : Expr} {es : List Expr} {d d1 d2 : PyData} {ds es' : List PyData} {i : Nat} {x : Str} {v : V} {pos : Pos}
theorem XD.up (h : XD X M σ H e d) (s : Same H H') : XD X M σ H' e d := fun H1 q => h H1 (s.trans q)
theorem XV.up (h : XV X σ H e v) (s : Same H H') : XV X σ H' e v := fun H1 q => h H1 (s.trans q)
theorem XL.up (h : XL X M σ H e ds) (s : Same H H') : XL X M σ H' e ds := fun H1 q => h H1 (s.trans q)
theorem XA.up (h : XA X M σ H es ds) (s : Same H H') : XA X M σ H' es ds := fun H1 q => h H1 (s.trans q)
theorem XT.up {b : Bool} (h : XT X σ H e b) (s : Same H H') : XT X σ H' e b := fun H1 q => h H1 (s.trans q)
theorem XD.to {d' : PyData} (h : XD X M σ H e d) (q : d = d') : XD X M σ H e d' := q ▸ h
theorem XL.to {ds' : List PyData} (h : XL X M σ H e ds) (q : ds = ds') : XL X M σ H e ds' := q ▸ h
theorem XT.to {k k' : Bool} (h : XT X σ H e k) (q : k = k') : XT X σ H e k' := q ▸ h
theorem XV.dd (h : XV X σ H e v) (hd : Dq X.K (hid M H) v d) : XD X M σ H e d := fun H1 s Q q => h H1 s Q fun H2 s2 => q v H2 s2 (dp_mono (hid_mono (s.trans s2)) d v hd)
theorem XV.int {n : Int} (h : XV X σ H e (.int n)) : XD X M σ H e (.int n) := h.dd (.int n)
theorem XD.vint {n : Int} (h : XD X M σ H e (.int n)) : XV X σ H e (.int n) := fun H1 s Q q => h H1 s Q fun v H2 s2 hv => by rw [dp_int hv]; exact q H2 s2
theorem XD.vbl {k : Bool} (h : XD X M σ H e (.bool k)) : XV X σ H e (.bl k) := fun H1 s Q q => h H1 s Q fun v H2 s2 hv => by rw [dp_bl hv]; exact q H2 s2
theorem XD.vstr {z : Str} (h : XD X M σ H e (.str z)) : XV X σ H e (.str z) := fun H1 s Q q => h H1 s Q fun v H2 s2 hv => by rw [dp_str hv]; exact q H2 s2
theorem XL.dd (h : XL X M σ H e ds) (L : Live M H) : XD X M σ H e (.list ds) := fun H1 s Q q => h H1 s Q fun p xs H2 s2 hp h2 hd =>
  q _ H2 s2 (.lst (by rw [hid_of (fun z => (L.mono s) p z hp)]; exact h2) hd)
/-! names, constants -/
theorem xv_name (i : Nat) {x : Str} {v : V} {pos : Pos} (hv : σ[i]? = some (some v)) (hN : X.N[i]? = some x := by rfl) (hs : Vis X.env.scope x := by first | exact Or.inl rfl | exact Or.inr (Or.inl rfl) | exact Or.inr (Or.inr rfl))
    (hb : (x == ("__debug__" : Str)) = false := by decide) (hc : (x == ("__classdict__" : Str)) = false := by decide) : XV X σ H (.Name x pos) v := fun H1 _ Q q => ⟨_, pe_var hN hs hb hc, v, hv, q H1 (Same.refl _)⟩
theorem xd_name (i : Nat) {x : Str} {v : V} {pos : Pos} (hv : σ[i]? = some (some v)) (hd : Dq X.K (hid M H) v d) (hN : X.N[i]? = some x := by rfl) (hs : Vis X.env.scope x := by first | exact Or.inl rfl | exact Or.inr (Or.inl rfl) | exact Or.inr (Or.inr rfl))
    (hb : (x == ("__debug__" : Str)) = false := by decide) (hc : (x == ("__classdict__" : Str)) = false := by decide) : XD X M σ H (.Name x pos) d := (xv_name i hv hN hs hb hc).dd hd
theorem xv_int {n : Int} {j} : XV X σ H (.Constant (.int n) j pos) (.int n) := fun H1 _ Q q => ⟨_, pe_int, q H1 (Same.refl _)⟩
theorem xd_int {n : Int} {j} : XD X M σ H (.Constant (.int n) j pos) (.int n) := xv_int.int
theorem xv_str {z : Str} {j} : XV X σ H (.Constant (.str z) j pos) (.str z) := fun H1 _ Q q => ⟨_, pe_str, q H1 (Same.refl _)⟩
theorem xd_str {z : Str} {j} : XD X M σ H (.Constant (.str z) j pos) (.str z) := xv_str.dd (.str z)
theorem xd_bl {k : Bool} {j} : XD X M σ H (.Constant (.bool k) j pos) (.bool k) := fun H1 _ Q q => ⟨_, pe_bl, q _ H1 (Same.refl _) (.bl k)⟩
theorem xd_non {j} : XD X M σ H (.Constant .none j pos) .none := fun H1 _ Q q => ⟨_, pe_non, q _ H1 (Same.refl _) .non⟩
theorem xv_glob {u : Value} (hm : X.mg x = some u) (r : RelV v u) (hg : Gl X x := by rfl) (hd : (x == ("__debug__" : Str)) = false := by decide) : XV X σ H (.Name x pos) v := fun H1 _ Q q => ⟨_, pe_glob hg hm r hd, q H1 (Same.refl _)⟩
theorem xv_bltn {u : Value} (hm : X.mg x = none) (hv : bootBuiltins x = some u) (r : RelV v u) (hg : Gl X x := by rfl) (hn : x ≠ "__name__" := by decide) (hd : (x == ("__debug__" : Str)) = false := by decide) : XV X σ H (.Name x pos) v :=
  fun H1 _ Q q => ⟨_, pe_bltn hg hm hv r hn hd, q H1 (Same.refl _)⟩
/-! displays -/
theorem xa_nil : XA X M σ H [] [] := fun H1 _ Q q => ⟨_, pa_nil, q [] H1 (Same.refl _) .nil⟩
theorem xa_cons (ha : XD X M σ H e d) (hr : XA X M σ H es ds) (hs : starEach (e :: es) X.env = (false, eval e X.env) :: starEach es X.env := by rfl) : XA X M σ H (e :: es) (d :: ds) := fun H1 s Q q =>
  ⟨_, pa_cons re_ ra_ hs, ha H1 s _ fun v H2 s2 hv => hr H2 (s.trans s2) _ fun vs H3 s3 hvs => q _ H3 (s2.trans s3) (.cons (hv.up (hid_mono s3)) hvs)⟩
theorem small_sz {n : Nat} (h : n ≤ 100000) : n ≤ sizeLine := Nat.le_trans h (by decide)
theorem xd_tup {x1} (L : Live M H) (h : XA X M σ H es ds) (hl : ds.length ≤ 100000 := by simp) : XD X M σ H (.Tuple es x1 pos) (.tuple ds) := fun H1 s Q q =>
  ⟨_, pe_tup ra_, h H1 s _ fun vs H2 s2 hvs => ⟨by rw [dpa_len hvs]; exact small_sz hl, fun p hp => q _ _ (s2.trans (same_new hp)) (by
    rw [hid_new (L.mono (s.trans s2)) hp]
    exact .tup (SqT.of upd_same) (hvs.up (same_new (hid_free hp))))⟩⟩
theorem xl_lst (L : Live M H) (h : XA X M σ H es ds) (hl : ds.length ≤ 100000 := by simp) : XL X M σ H (.List es pos) ds := fun H1 s Q q =>
  ⟨_, pe_lst ra_, h H1 s _ fun vs H2 s2 hvs => ⟨by rw [dpa_len hvs]; exact small_sz hl, fun p hp => q p vs _ (s2.trans (same_new hp)) (s2.free hp) upd_same (by
    rw [hid_new (L.mono (s.trans s2)) hp]
    exact hvs.up (same_new (hid_free hp)))⟩⟩
theorem xd_lst (L : Live M H) (h : XA X M σ H es ds) (hl : ds.length ≤ 100000 := by simp) : XD X M σ H (.List es pos) (.list ds) := (xl_lst L h hl).dd L
/-! operators -/
theorem xd_bin {op : Operator} {r : R2} (ho : OpR X (binaryOp op) r) (ha : XD X M σ H a d1) (hb : XD X M σ H b d2)
    (hr : ∀ H1 v w, Same H H1 → Dq X.K (hid M H1) v d1 → Dq X.K (hid M H1) w d2 → ∀ Q : VK, (∀ u H2, Same H1 H2 → Dq X.K (hid M H2) u d → Q u H2) → r v w H1 Q) : XD X M σ H (.BinOp a op b pos) d := fun H1 s Q q =>
  ⟨_, pe_op ho re_ re_, ha H1 s _ fun v H2 s2 hv => hb H2 (s.trans s2) _ fun w H3 s3 hw => hr H3 v w ((s.trans s2).trans s3) (hv.up (hid_mono s3)) hw Q fun u H4 s4 hu => q u H4 ((s2.trans s3).trans s4) hu⟩
theorem xd_binI {op : Operator} {C : Int → Int → Prop} {g : Int → Int → Int} {m n : Int} (ho : OpR X (binaryOp op) (rI C fun i j => .int (g i j))) (ha : XD X M σ H a (.int m)) (hb : XD X M σ H b (.int n)) (hc : C m n) : XD X M σ H (.BinOp a op b pos) (.int (g m n)) :=
  xd_bin ho ha hb fun H1 v w s hv hw Q q => ⟨m, n, dp_int hv, dp_int hw, hc, q _ H1 (Same.refl _) (.int _)⟩
theorem xd_binI0 {op : Operator} {g : Int → Int → Int} {m n : Int} (ho : OpR X (binaryOp op) (rI0 fun i j => .int (g i j))) (ha : XD X M σ H a (.int m)) (hb : XD X M σ H b (.int n)) : XD X M σ H (.BinOp a op b pos) (.int (g m n)) :=
  xd_bin ho ha hb fun H1 v w s hv hw Q q => ⟨m, n, dp_int hv, dp_int hw, q _ H1 (Same.refl _) (.int _)⟩
theorem xd_add {m n : Int} (ha : XD X M σ H a (.int m)) (hb : XD X M σ H b (.int n)) : XD X M σ H (.BinOp a .Add b pos) (.int (m + n)) := xd_binI0 op_add ha hb
theorem xd_sub {m n : Int} (ha : XD X M σ H a (.int m)) (hb : XD X M σ H b (.int n)) : XD X M σ H (.BinOp a .Sub b pos) (.int (m - n)) := xd_binI0 op_sub ha hb
theorem xd_mul {m n : Int} (ha : XD X M σ H a (.int m)) (hb : XD X M σ H b (.int n)) (hc : (-(2 ^ 64) < m ∧ m < 2 ^ 64) ∨ (-(2 ^ 64) < n ∧ n < 2 ^ 64)) : XD X M σ H (.BinOp a .Mult b pos) (.int (m * n)) := xd_binI op_mul ha hb hc
theorem xd_neg {m : Int} (ha : XD X M σ H a (.int m)) : XD X M σ H (.UnaryOp .USub a pos) (.int (-m)) := fun H1 s Q q =>
  ⟨_, pe_un un_neg re_, ha H1 s _ fun v H2 s2 hv => ⟨m, dp_int hv, q _ H2 s2 (.int _)⟩⟩
/-! comparisons -/
theorem xd_cmp {op : CmpOp} {r : R2} (ho : OpR X (compareOp op) r) (ha : XD X M σ H a d1) (hb : XD X M σ H b d2)
    (hr : ∀ H1 v w, Same H H1 → Dq X.K (hid M H1) v d1 → Dq X.K (hid M H1) w d2 → ∀ Q : VK, (∀ u H2, Same H1 H2 → Dq X.K (hid M H2) u d → Q u H2) → r v w H1 Q)
    (hm : behindInMarks op b = false := by first | exact nomark _ | rfl) : XD X M σ H (.Compare a [op] [b] pos) d := fun H1 s Q q =>
  ⟨_, pe_cmpR ho re_ re_ hm, ha H1 s _ fun v H2 s2 hv => hb H2 (s.trans s2) _ fun w H3 s3 hw => hr H3 v w ((s.trans s2).trans s3) (hv.up (hid_mono s3)) hw Q fun u H4 s4 hu => q u H4 ((s2.trans s3).trans s4) hu⟩
theorem xt_cmp {k : Bool} {op : CmpOp} {r : R2} (ho : OpR X (compareOp op) r) (ha : XD X M σ H a d1) (hb : XD X M σ H b d2)
    (hr : ∀ H1 v w, Same H H1 → Dq X.K (hid M H1) v d1 → Dq X.K (hid M H1) w d2 → ∀ Q : VK, (∀ H2, Same H1 H2 → Q (.bl k) H2) → r v w H1 Q)
    (hm : behindInMarks op b = false := by first | exact nomark _ | rfl) : XT X σ H (.Compare a [op] [b] pos) k := fun H1 s Q q =>
  ⟨_, pt_cmpR ho re_ re_ hm, ha H1 s _ fun v H2 s2 hv => hb H2 (s.trans s2) _ fun w H3 s3 hw => hr H3 v w ((s.trans s2).trans s3) (hv.up (hid_mono s3)) hw _ fun H4 s4 => ⟨k, rfl, q H4 ((s2.trans s3).trans s4)⟩⟩
theorem xt_cmpI {op : CmpOp} {g : Int → Int → Bool} {m n : Int} (ho : OpR X (compareOp op) (rI0 fun i j => .bl (g i j))) (ha : XD X M σ H a (.int m)) (hb : XD X M σ H b (.int n)) (hm : behindInMarks op b = false := by exact nomark _) : XT X σ H (.Compare a [op] [b] pos) (g m n) :=
  xt_cmp ho ha hb (fun H1 v w s hv hw Q q => ⟨m, n, dp_int hv, dp_int hw, q H1 (Same.refl _)⟩) hm
theorem xd_cmpI {op : CmpOp} {g : Int → Int → Bool} {m n : Int} (ho : OpR X (compareOp op) (rI0 fun i j => .bl (g i j))) (ha : XD X M σ H a (.int m)) (hb : XD X M σ H b (.int n)) (hm : behindInMarks op b = false := by exact nomark _) : XD X M σ H (.Compare a [op] [b] pos) (.bool (g m n)) :=
  xd_cmp ho ha hb (fun H1 v w s hv hw Q q => ⟨m, n, dp_int hv, dp_int hw, q _ H1 (Same.refl _) (.bl _)⟩) hm
theorem dec_int {m n : Int} : decide (V.int m = V.int n) = decide (m = n) := by
  by_cases h : m = n
  · subst h; simp
  · rw [decide_eq_false h, decide_eq_false fun z => h (V.int.inj z)]
theorem xd_eqI {m n : Int} (ha : XD X M σ H a (.int m)) (hb : XD X M σ H b (.int n)) : XD X M σ H (.Compare a [.Eq] [b] pos) (.bool (decide (m = n))) :=
  xd_cmp op_eq ha hb fun H1 v w s hv hw Q q => by
    rw [dp_int hv, dp_int hw]
    exact ⟨rfl, by rw [dec_int]; exact q _ H1 (Same.refl _) (.bl _)⟩
theorem xd_neI {m n : Int} (ha : XD X M σ H a (.int m)) (hb : XD X M σ H b (.int n)) : XD X M σ H (.Compare a [.NotEq] [b] pos) (.bool (!decide (m = n))) :=
  xd_cmp op_ne ha hb fun H1 v w s hv hw Q q => by
    rw [dp_int hv, dp_int hw]
    exact ⟨rfl, by rw [dec_int]; exact q _ H1 (Same.refl _) (.bl _)⟩
theorem xt_eqI {m n : Int} (ha : XD X M σ H a (.int m)) (hb : XD X M σ H b (.int n)) : XT X σ H (.Compare a [.Eq] [b] pos) (decide (m = n)) :=
  xt_cmp op_eq ha hb fun H1 v w s hv hw Q q => by
    rw [dp_int hv, dp_int hw]
    exact ⟨rfl, by rw [dec_int]; exact q H1 (Same.refl _)⟩
theorem xt_neI {m n : Int} (ha : XD X M σ H a (.int m)) (hb : XD X M σ H b (.int n)) : XT X σ H (.Compare a [.NotEq] [b] pos) (!decide (m = n)) :=
  xt_cmp op_ne ha hb fun H1 v w s hv hw Q q => by
    rw [dp_int hv, dp_int hw]
    exact ⟨rfl, by rw [dec_int]; exact q H1 (Same.refl _)⟩
theorem xd_eqD (hu : X.A.units + 64 < cLine) (ha : XD X M σ H a d1) (hb : XD X M σ H b d2) (s1 : SeqAt.shaped d1 = true) (s2 : SeqAt.shaped d2 = true) : XD X M σ H (.Compare a [.Eq] [b] pos) (.bool (PyData.eqv d1 d2)) :=
  xd_cmp (op_eqD hu) ha hb fun H1 v w s hv hw Q q => ⟨d1, d2, (hv.up hid_le).dp, (hw.up hid_le).dp, s1, s2, q _ H1 (Same.refl _) (.bl _)⟩
theorem xd_neD (hu : X.A.units + 64 < cLine) (ha : XD X M σ H a d1) (hb : XD X M σ H b d2) (s1 : SeqAt.shaped d1 = true) (s2 : SeqAt.shaped d2 = true) : XD X M σ H (.Compare a [.NotEq] [b] pos) (.bool (!PyData.eqv d1 d2)) :=
  xd_cmp (op_neD hu) ha hb fun H1 v w s hv hw Q q => ⟨d1, d2, (hv.up hid_le).dp, (hw.up hid_le).dp, s1, s2, q _ H1 (Same.refl _) (.bl _)⟩
theorem xt_eqD (hu : X.A.units + 64 < cLine) (ha : XD X M σ H a d1) (hb : XD X M σ H b d2) (s1 : SeqAt.shaped d1 = true) (s2 : SeqAt.shaped d2 = true) : XT X σ H (.Compare a [.Eq] [b] pos) (PyData.eqv d1 d2) :=
  xt_cmp (op_eqD hu) ha hb fun H1 v w s hv hw Q q => ⟨d1, d2, (hv.up hid_le).dp, (hw.up hid_le).dp, s1, s2, q H1 (Same.refl _)⟩
theorem xt_neD (hu : X.A.units + 64 < cLine) (ha : XD X M σ H a d1) (hb : XD X M σ H b d2) (s1 : SeqAt.shaped d1 = true) (s2 : SeqAt.shaped d2 = true) : XT X σ H (.Compare a [.NotEq] [b] pos) (!PyData.eqv d1 d2) :=
  xt_cmp (op_neD hu) ha hb fun H1 v w s hv hw Q q => ⟨d1, d2, (hv.up hid_le).dp, (hw.up hid_le).dp, s1, s2, q H1 (Same.refl _)⟩
/-! not, and, or -/
theorem xd_not {k : Bool} (ha : XD X M σ H a (.bool k)) : XD X M σ H (.UnaryOp .Not a pos) (.bool (!k)) := fun H1 s Q q =>
  ⟨_, pe_not re_, ha H1 s _ fun v H2 s2 hv => ⟨k, dp_bl hv, q _ H2 s2 (.bl _)⟩⟩
theorem xd_one {op} (ha : XD X M σ H a d) : XD X M σ H (.BoolOp op [a] pos) d := fun H1 s Q q => ⟨_, pe_one re_, ha H1 s Q q⟩
theorem xd_andT {rest : List Expr} (ha : XD X M σ H a (.bool true)) (hb : XD X M σ H (.BoolOp .And (b :: rest) pos) d) : XD X M σ H (.BoolOp .And (a :: b :: rest) pos) d := fun H1 s Q q =>
  ⟨_, pe_and re_ re_, ha H1 s _ fun v H2 s2 hv => ⟨true, dp_bl hv, iteT (hb H2 (s.trans s2) Q fun u H3 s3 hu => q u H3 (s2.trans s3) hu)⟩⟩
theorem xd_andF {rest : List Expr} (ha : XD X M σ H a (.bool false)) : XD X M σ H (.BoolOp .And (a :: b :: rest) pos) (.bool false) := fun H1 s Q q =>
  ⟨_, pe_and re_ re_, ha H1 s _ fun v H2 s2 hv => ⟨false, dp_bl hv, iteF (q _ H2 s2 (.bl _))⟩⟩
theorem xd_and2 {k1 k2 : Bool} (ha : XD X M σ H a (.bool k1)) (hb : k1 = true → XD X M σ H b (.bool k2)) : XD X M σ H (.BoolOp .And [a, b] pos) (.bool (k1 && k2)) := by
  cases k1 with
  | true => exact xd_andT ha (xd_one (hb rfl))
  | false => exact xd_andF ha
theorem xd_orF {rest : List Expr} (ha : XD X M σ H a (.bool false)) (hb : XD X M σ H (.BoolOp .Or (b :: rest) pos) d) : XD X M σ H (.BoolOp .Or (a :: b :: rest) pos) d := fun H1 s Q q =>
  ⟨_, pe_or re_ re_, ha H1 s _ fun v H2 s2 hv => ⟨false, dp_bl hv, iteF (hb H2 (s.trans s2) Q fun u H3 s3 hu => q u H3 (s2.trans s3) hu)⟩⟩
theorem xd_orT {rest : List Expr} (ha : XD X M σ H a (.bool true)) : XD X M σ H (.BoolOp .Or (a :: b :: rest) pos) (.bool true) := fun H1 s Q q =>
  ⟨_, pe_or re_ re_, ha H1 s _ fun v H2 s2 hv => ⟨true, dp_bl hv, iteT (q _ H2 s2 (.bl _))⟩⟩
theorem xt_val {k : Bool} (h : XD X M σ H e (.bool k)) (he : ∀ whole, isTrue e X.env whole = (do let v ← whole; standAt e.pos; holding [v] (truthy v)) := by intro _; rfl) : XT X σ H e k := fun H1 s Q q =>
  ⟨_, pt_val re_ he, h H1 s _ fun v H2 s2 hv => ⟨k, dp_bl hv, q H2 s2⟩⟩
theorem xt_not {k : Bool} (ha : XT X σ H a k) : XT X σ H (.UnaryOp .Not a pos) (!k) := fun H1 s Q q => ⟨_, pt_not rt_, ha H1 s _ q⟩
theorem xw_and1 {k : Bool} (ha : XT X σ H a k) : XW X σ H (.BoolOp .And [a] pos) k := fun H1 s Q q => ⟨_, pw_and1 rt_, ha H1 s _ q⟩
theorem xw_or1 {k : Bool} (ha : XT X σ H a k) : XW X σ H (.BoolOp .Or [a] pos) k := fun H1 s Q q => ⟨_, pw_or1 rt_, ha H1 s _ q⟩
theorem xw_andT {k : Bool} {rest : List Expr} (ha : XT X σ H a true) (hb : XW X σ H (.BoolOp .And (b :: rest) pos) k) : XW X σ H (.BoolOp .And (a :: b :: rest) pos) k := fun H1 s Q q =>
  ⟨_, pw_and rt_ rw_, ha H1 s _ fun H2 s2 => iteT (hb H2 (s.trans s2) Q fun H3 s3 => q H3 (s2.trans s3))⟩
theorem xw_andF {rest : List Expr} (ha : XT X σ H a false) : XW X σ H (.BoolOp .And (a :: b :: rest) pos) false := fun H1 s Q q =>
  ⟨_, pw_and rt_ rw_, ha H1 s _ fun H2 s2 => iteF (q H2 s2)⟩
theorem xw_orF {k : Bool} {rest : List Expr} (ha : XT X σ H a false) (hb : XW X σ H (.BoolOp .Or (b :: rest) pos) k) : XW X σ H (.BoolOp .Or (a :: b :: rest) pos) k := fun H1 s Q q =>
  ⟨_, pw_or rt_ rw_, ha H1 s _ fun H2 s2 => iteF (hb H2 (s.trans s2) Q fun H3 s3 => q H3 (s2.trans s3))⟩
theorem xw_orT {rest : List Expr} (ha : XT X σ H a true) : XW X σ H (.BoolOp .Or (a :: b :: rest) pos) true := fun H1 s Q q =>
  ⟨_, pw_or rt_ rw_, ha H1 s _ fun H2 s2 => iteT (q H2 s2)⟩
theorem XW.t {k : Bool} (h : XW X σ H e k) : XT X σ H e k := fun H1 s Q q => ⟨_, PW.pt rw_, h H1 s Q q⟩
theorem xt_and2 {k1 k2 : Bool} (ha : XT X σ H a k1) (hb : k1 = true → XT X σ H b k2) : XT X σ H (.BoolOp .And [a, b] pos) (k1 && k2) := by
  cases k1 with
  | true => exact (xw_andT ha (xw_and1 (hb rfl))).t
  | false => exact (xw_andF ha).t
theorem xt_or2 {k1 k2 : Bool} (ha : XT X σ H a k1) (hb : k1 = false → XT X σ H b k2) : XT X σ H (.BoolOp .Or [a, b] pos) (k1 || k2) := by
  cases k1 with
  | false => exact (xw_orF ha (xw_or1 (hb rfl))).t
  | true => exact (xw_orT ha).t
theorem xd_ifT {k : Expr} (hc : XT X σ H k true) (ha : XD X M σ H a d) : XD X M σ H (.IfExp k a b pos) d := fun H1 s Q q =>
  ⟨_, pe_ifExp rt_ re_ re_, hc H1 s _ fun H2 s2 => iteT (ha H2 (s.trans s2) Q fun u H3 s3 hu => q u H3 (s2.trans s3) hu)⟩
theorem xd_ifF {k : Expr} (hc : XT X σ H k false) (hb : XD X M σ H b d) : XD X M σ H (.IfExp k a b pos) d := fun H1 s Q q =>
  ⟨_, pe_ifExp rt_ re_ re_, hc H1 s _ fun H2 s2 => iteF (hb H2 (s.trans s2) Q fun u H3 s3 hu => q u H3 (s2.trans s3) hu)⟩
end
end Dl

set_option Elab.async false
set_option linter.all false
set_option maxRecDepth 100000
set_option maxHeartbeats 4000000
/-! Data layer, part 2: statements, subscripts, built-ins, lists, comprehensions, loops. -/
namespace Dl
open PySem PySem.Spec PyProof.Rows L2
section
variable {X : Cx} {M : List Addr} {σ : L2.St} {H H' : Hp} {e a b c o : Expr} {es : List Expr} {d d1 d2 : PyData} {ds es' : List PyData} {i : Nat} {x : Str} {v : V} {pos p1 p2 p3 : Pos} {D : Ends} {rest sts : List Stmt} {st : Stmt}
theorem XD.go {Q : VK} (h : XD X M σ H e d) (k : ∀ v H2, Same H H2 → Dq X.K (hid M H2) v d → Q v H2) : RE X e σ H Q := h H (Same.refl H) Q k
theorem XL.go {Q : VK} (h : XL X M σ H e ds) (k : ∀ p xs H2, Same H H2 → H p = none → H2 p = some (.lst xs) → DqAll X.K (hid M H2) xs ds → Q (.ref p) H2) : RE X e σ H Q := h H (Same.refl H) Q k
theorem XV.go {Q : VK} (h : XV X σ H e v) (k : ∀ H2, Same H H2 → Q v H2) : RE X e σ H Q := h H (Same.refl H) Q k
theorem XA.go {Q : List V → Hp → Prop} (h : XA X M σ H es ds) (k : ∀ vs H2, Same H H2 → DqAll X.K (hid M H2) vs ds → Q vs H2) : RA X es σ H Q := h H (Same.refl H) Q k
/-! ### statements -/
theorem rb_nil (h : D.nx σ H) : RB X [] D σ H := ⟨_, pss_nil, h⟩
theorem rb_cons (h : RS X st { D with nx := RB X rest D } σ H) : RB X (st :: rest) D σ H := ⟨_, pss_cons rs_ rb_, h⟩
/-- x = e, by the raw reading -/
theorem rb_setR (i : Nat) {x : Str} {pos' : Pos} (h : RE X e σ H fun v H1 => RB X rest D (σ.set i (some v)) H1) (hN : X.N.Nodup) (hi : X.N[i]? = some x := by rfl) (hx : Loc X.env.scope x := by first | exact Or.inl rfl | exact Or.inr rfl)
    (hs : swapsWith e (some (.Name x pos')) pos.line X.env = pure false := by rfl) (hf : X.fn x = true ∨ X.env.scope.names.lookup x = some .local := by first | exact .inl rfl | exact .inr rfl) : RB X (.Assign [.Name x pos'] e pos :: rest) D σ H :=
  ⟨_, pss_cons (ps_set hN hi hx re_ hs hf) rb_, h⟩
theorem rb_set (i : Nat) {x : Str} {pos' : Pos} (h : XD X M σ H e d) (k : ∀ v H1, Same H H1 → Dq X.K (hid M H1) v d → RB X rest D (σ.set i (some v)) H1) (hN : X.N.Nodup) (hi : X.N[i]? = some x := by rfl) (hx : Loc X.env.scope x := by first | exact Or.inl rfl | exact Or.inr rfl)
    (hs : swapsWith e (some (.Name x pos')) pos.line X.env = pure false := by rfl) (hf : X.fn x = true ∨ X.env.scope.names.lookup x = some .local := by first | exact .inl rfl | exact .inr rfl) : RB X (.Assign [.Name x pos'] e pos :: rest) D σ H :=
  rb_setR i (h H (Same.refl H) _ fun v H1 s hv => k v H1 s hv) hN hi hx hs hf
theorem rb_setL (i : Nat) {x : Str} {pos' : Pos} (h : XL X M σ H e ds) (k : ∀ p xs H1, Same H H1 → H p = none → H1 p = some (.lst xs) → DqAll X.K (hid M H1) xs ds → RB X rest D (σ.set i (some (.ref p))) H1) (hN : X.N.Nodup) (hi : X.N[i]? = some x := by rfl) (hx : Loc X.env.scope x := by first | exact Or.inl rfl | exact Or.inr rfl)
    (hs : swapsWith e (some (.Name x pos')) pos.line X.env = pure false := by rfl) (hf : X.fn x = true ∨ X.env.scope.names.lookup x = some .local := by first | exact .inl rfl | exact .inr rfl) : RB X (.Assign [.Name x pos'] e pos :: rest) D σ H :=
  rb_setR i (h H (Same.refl H) _ fun p xs H1 s hp h1 hd => k p xs H1 s hp h1 hd) hN hi hx hs hf
theorem rb_setV (i : Nat) {x : Str} {pos' : Pos} (h : XV X σ H e v) (k : ∀ H1, Same H H1 → RB X rest D (σ.set i (some v)) H1) (hN : X.N.Nodup) (hi : X.N[i]? = some x := by rfl) (hx : Loc X.env.scope x := by first | exact Or.inl rfl | exact Or.inr rfl)
    (hs : swapsWith e (some (.Name x pos')) pos.line X.env = pure false := by rfl) (hf : X.fn x = true ∨ X.env.scope.names.lookup x = some .local := by first | exact .inl rfl | exact .inr rfl) : RB X (.Assign [.Name x pos'] e pos :: rest) D σ H :=
  rb_setR i (h H (Same.refl H) _ fun H1 s => k H1 s) hN hi hx hs hf
theorem rb_retR (h : RE X e σ H D.rt) : RB X (.Return (some e) pos :: rest) D σ H := ⟨_, pss_cons (ps_ret re_) rb_, h⟩
theorem rb_ret (h : XD X M σ H e d) (k : ∀ v H1, Same H H1 → Dq X.K (hid M H1) v d → D.rt v H1) : RB X (.Return (some e) pos :: rest) D σ H := rb_retR (h H (Same.refl H) _ fun v H1 s hv => k v H1 s hv)
theorem rb_exprR (h : RE X e σ H fun _ H1 => RB X rest D σ H1) (hs : swapsWith e none pos.line X.env = pure false := by rfl) : RB X (.Expr e pos :: rest) D σ H := ⟨_, pss_cons (ps_expr re_ hs) rb_, h⟩
theorem rb_expr (h : XD X M σ H e d) (k : ∀ H1, Same H H1 → RB X rest D σ H1) (hs : swapsWith e none pos.line X.env = pure false := by rfl) : RB X (.Expr e pos :: rest) D σ H := rb_exprR (h H (Same.refl H) _ fun _ H1 s _ => k H1 s) hs
theorem rb_ifR {t f : List Stmt} (h : RT X c σ H fun k H1 => if k = true then RB X t { D with nx := RB X rest D } σ H1 else RB X f { D with nx := RB X rest D } σ H1) : RB X (.If c t f pos :: rest) D σ H := ⟨_, pss_cons (ps_if rt_ rb_ rb_) rb_, h⟩
theorem rb_if {k : Bool} {t f : List Stmt} (h : XT X σ H c k) (hT : k = true → ∀ H1, Same H H1 → RB X t { D with nx := RB X rest D } σ H1) (hF : k = false → ∀ H1, Same H H1 → RB X f { D with nx := RB X rest D } σ H1) : RB X (.If c t f pos :: rest) D σ H :=
  rb_ifR (h H (Same.refl H) _ fun H1 s => by
    cases k with
    | true => exact iteT (hT rfl H1 s)
    | false => exact iteF (hF rfl H1 s))
/-- if c: .. (no else) with c false -/
theorem rb_ifF {t : List Stmt} (h : XT X σ H c false) (k : ∀ H1, Same H H1 → RB X rest D σ H1) : RB X (.If c t [] pos :: rest) D σ H := rb_if h (fun z => Bool.noConfusion z) fun _ H1 s => rb_nil (k H1 s)
theorem rb_ifT {t f : List Stmt} (h : XT X σ H c true) (k : ∀ H1, Same H H1 → RB X t { D with nx := RB X rest D } σ H1) : RB X (.If c t f pos :: rest) D σ H := rb_if h (fun _ => k) fun z => Bool.noConfusion z
theorem rb_par (i j : Nat) {x y : Str} {px py pt : Pos} {kt k2 pt2} (ha : XA X M σ H [a, b] [d1, d2]) (k : ∀ v w H1, Same H H1 → Dq X.K (hid M H1) v d1 → Dq X.K (hid M H1) w d2 → RB X rest D ((σ.set i (some v)).set j (some w)) H1) (hN : X.N.Nodup)
    (hw : swappedStores [.Tuple [.Name x px, .Name y py] kt pt] (.Tuple [a, b] k2 pt2) X.env = pure (some [x, y]) := by rfl) (hc : X.calm = true := by rfl) (hi : X.N[i]? = some x := by rfl) (hj : X.N[j]? = some y := by rfl) (hij : i ≠ j := by decide)
    (hx : X.env.scope.names.lookup x = some .local := by rfl) (hy : X.env.scope.names.lookup y = some .local := by rfl)
    (hs : swapsWithSole [.Tuple [.Name x px, .Name y py] kt pt] (.Tuple [a, b] k2 pt2) pos.line X.env = pure false := by rfl) : RB X (.Assign [.Tuple [.Name x px, .Name y py] kt pt] (.Tuple [a, b] k2 pt2) pos :: rest) D σ H :=
  ⟨_, pss_cons (ps_par hc hN hi hj hij hx hy ra_ hw hs) rb_, ha H (Same.refl H) _ fun vs H1 s hv => by
    cases hv with
    | cons h1 h2 => cases h2 with
      | cons h2 h3 => cases h3; exact ⟨_, _, rfl, k _ _ H1 s h1 h2⟩⟩
/-- targets: a name; names of a tuple -/
def RG (X : Cx) (tg : Expr) : TG := fun v σ H Q => ∃ g, PG X tg g ∧ g v σ H Q
theorem rg_ {tg : Expr} : PG X tg (RG X tg) := ⟨fun pins s σ H v u Q I r ⟨_, h, q⟩ => h.run pins s σ H v u Q I r q⟩
def RGs (X : Cx) (tg : List Expr) : TGs := fun v σ H Q => ∃ g, PGs X tg g ∧ g v σ H Q
theorem rgs_ {tg : List Expr} : PGs X tg (RGs X tg) := ⟨fun pins s σ H v u Q I r ⟨_, h, q⟩ => h.run pins s σ H v u Q I r q⟩
theorem rg_name (i : Nat) {x : Str} {Q : L2.St → Hp → Prop} (q : Q (σ.set i (some v)) H) (hN : X.N.Nodup) (hi : X.N[i]? = some x := by rfl) (hx : Loc X.env.scope x := by first | exact Or.inl rfl | exact Or.inr rfl) (hf : X.fn x = true ∨ X.env.scope.names.lookup x = some .local := by first | exact .inl rfl | exact .inr rfl) :
    RG X (.Name x pos) v σ H Q := ⟨_, pg_name hN hi hx hf, q⟩
theorem rgs_nil {Q : L2.St → Hp → Prop} (q : Q σ H) : RGs X [] [] σ H Q := ⟨_, pgs_nil, rfl, q⟩
theorem rgs_cons {tg : Expr} {tgs : List Expr} {vs : List V} {Q : L2.St → Hp → Prop} (h : RG X tg v σ H fun σ1 H1 => RGs X tgs vs σ1 H1 Q) (hs : (assignEach (tg :: tgs) X.env).map (·.2) = assign tg X.env :: (assignEach tgs X.env).map (·.2) := by rfl) : RGs X (tg :: tgs) (v :: vs) σ H Q :=
  ⟨_, pgs_cons rg_ rgs_ hs, v, vs, rfl, h⟩
theorem rg_tup {tgs : List Expr} {k : Nat} {xs : List V} {p : Addr} {Q : L2.St → Hp → Prop} (hT : SqT X.K H p xs) (h : RGs X tgs xs σ H Q) (hc : X.calm = true := by rfl)
    (hn : (assignEach tgs X.env).length = xs.length := by rfl) (hst : (assignEach tgs X.env).findIdx? (·.1) = none := by rfl) : RG X (.Tuple tgs k pos) (.ref p) σ H Q := ⟨_, pg_tup (n := xs.length) hc rgs_ hn hst, p, xs, rfl, hT, rfl, h⟩
theorem rb_asgR {tg : Expr} (h : RE X e σ H fun v H1 => RG X tg v σ H1 (RB X rest D)) (hs : swapsWithSole [tg] e pos.line X.env = pure false := by rfl) (hw : swappedStores [tg] e X.env = pure none := by rfl)
    (h1 : (assignEach [tg] X.env).map (·.2) = [assign tg X.env] := by rfl) : RB X (.Assign [tg] e pos :: rest) D σ H := ⟨_, pss_cons (ps_asg re_ rg_ hs hw h1) rb_, h⟩
/-! ### calls of built-ins -/
theorem re_B {id : String} {r : List V → Hp → VK → Prop} {Q : VK} (hc : CallR X (.builtin id) r) (h : RA X (e :: es) σ H fun vs H1 => r vs H1 Q) (hm : X.mg x = none) (hv : bootBuiltins x = some (.builtin id)) (hg : Gl X x := by rfl) (hn : x ≠ "__name__" := by decide) (hdb : (x == ("__debug__" : Str)) = false := by decide)
    (he : starEach (e :: es) X.env = (false, eval e X.env) :: starEach es X.env := by rfl) (hpl : (backTo pos (starEach es X.env)).any (·.1) = false := by rfl) : RE X (.Call (.Name x p1) (e :: es) [] pos) σ H Q := ⟨_, pe_callB hc hg hm hv ra_ hn hdb he hpl, h⟩
theorem re_Ty {T : String} {r : List V → Hp → VK → Prop} {Q : VK} (hc : CallR X (.type T) r) (h : RA X (e :: es) σ H fun vs H1 => r vs H1 Q) (hm : X.mg x = none) (hv : bootBuiltins x = some (.type T)) (hg : Gl X x := by rfl) (hn : x ≠ "__name__" := by decide) (hdb : (x == ("__debug__" : Str)) = false := by decide)
    (he : starEach (e :: es) X.env = (false, eval e X.env) :: starEach es X.env := by rfl) (hpl : (backTo pos (starEach es X.env)).any (·.1) = false := by rfl) : RE X (.Call (.Name x p1) (e :: es) [] pos) σ H Q := ⟨_, pe_callTy hc hg hm hv ra_ hn hdb he hpl, h⟩
theorem ra_nil {Q : List V → Hp → Prop} (q : Q [] H) : RA X [] σ H Q := ⟨_, pa_nil, q⟩
theorem ra_cons {Q : List V → Hp → Prop} (h : RE X e σ H fun v H1 => RA X es σ H1 fun vs H2 => Q (v :: vs) H2) (hs : starEach (e :: es) X.env = (false, eval e X.env) :: starEach es X.env := by rfl) : RA X (e :: es) σ H Q := ⟨_, pa_cons re_ ra_ hs, h⟩
end
end Dl

set_option Elab.async false
set_option linter.all false
set_option maxRecDepth 100000
set_option maxHeartbeats 4000000
/-! Data layer, part 3: built-ins, subscripts, lists, loops, comprehensions. -/
namespace Dl
open PySem PySem.Spec PyProof.Rows L2
section
variable {X : Cx} {M : List Addr} {σ : L2.St} {H H' : Hp} {e a b c o : Expr} {es : List Expr} {d d1 d2 : PyData} {ds ds2 es' : List PyData} {x : Str} {v : V} {pos p1 p2 p3 : Pos} {D : Ends} {rest sts : List Stmt} {st : Stmt}
theorem re_mono {Q Q' : VK} (h : RE X e σ H Q) (k : ∀ v H1, Q v H1 → Q' v H1) : RE X e σ H Q' := by
  obtain ⟨t, ht, q⟩ := h
  exact ⟨fun σ H Q' => ∃ Q, t σ H Q ∧ ∀ v H1, Q v H1 → Q' v H1, ⟨fun pins s σ H Q' I ⟨Q, q, k⟩ => thn (ht.run pins s σ H Q I q) fun u s' ⟨v, H1, I1, r1, q1⟩ => ⟨v, H1, I1, r1, k v H1 q1⟩⟩, Q, q, k⟩
theorem ra_mono {Q Q' : List V → Hp → Prop} (h : RA X es σ H Q) (k : ∀ v H1, Q v H1 → Q' v H1) : RA X es σ H Q' := by
  obtain ⟨t, ht, q⟩ := h
  exact ⟨fun σ H Q' => ∃ Q, t σ H Q ∧ ∀ v H1, Q v H1 → Q' v H1, ⟨fun pos pins s σ H Q' I ⟨Q, q, k⟩ => thn (ht.run pos pins s σ H Q I q) fun u s' ⟨v, H1, I1, r1, q1⟩ => ⟨v, H1, I1, r1, k v H1 q1⟩⟩, Q, q, k⟩
theorem rb_mono {D D' : Ends} (h : RB X sts D σ H) (h1 : ∀ σ H, D.nx σ H → D'.nx σ H) (h2 : ∀ v H, D.rt v H → D'.rt v H) (h3 : ∀ σ H, D.bk σ H → D'.bk σ H) (h4 : ∀ σ H, D.ct σ H → D'.ct σ H) : RB X sts D' σ H := by
  obtain ⟨t, ht, q⟩ := h
  refine ⟨fun D' σ H => ∃ D, t D σ H ∧ (∀ σ H, D.nx σ H → D'.nx σ H) ∧ (∀ v H, D.rt v H → D'.rt v H) ∧ (∀ σ H, D.bk σ H → D'.bk σ H) ∧ (∀ σ H, D.ct σ H → D'.ct σ H), ⟨fun pins s σ H D' I ⟨D, q, h1, h2, h3, h4⟩ => thn (ht.run pins s σ H D I q) fun f s' hs => ?_⟩, D, q, h1, h2, h3, h4⟩
  cases f with
  | next => obtain ⟨σ', H', I', q⟩ := hs; exact ⟨σ', H', I', h1 _ _ q⟩
  | brk => obtain ⟨σ', H', I', q⟩ := hs; exact ⟨σ', H', I', h3 _ _ q⟩
  | cont => obtain ⟨σ', H', I', q⟩ := hs; exact ⟨σ', H', I', h4 _ _ q⟩
  | ret u => obtain ⟨v, σ', H', I', r, q⟩ := hs; exact ⟨v, σ', H', I', r, h2 _ _ q⟩
theorem ra_1 {Q : List V → Hp → Prop} (h : RE X e σ H fun v H1 => Q [v] H1) (hs : starEach [e] X.env = (false, eval e X.env) :: starEach [] X.env := by rfl) : RA X [e] σ H Q := ra_cons (re_mono h fun v H1 q => ra_nil q) hs
/-- a call of a built-in whose reading asks nothing but data -/
theorem xd_B {id : String} {r : List V → Hp → VK → Prop} (hc : CallR X (.builtin id) r) (ha : XA X M σ H (e :: es) ds)
    (hr : ∀ H1 vs, Same H H1 → DqAll X.K (hid M H1) vs ds → ∀ Q : VK, (∀ u H2, Same H1 H2 → Dq X.K (hid M H2) u d → Q u H2) → r vs H1 Q) (hm : X.mg x = none) (hv : bootBuiltins x = some (.builtin id)) (hg : Gl X x := by rfl) (hn : x ≠ "__name__" := by decide) (hdb : (x == ("__debug__" : Str)) = false := by decide)
    (he : starEach (e :: es) X.env = (false, eval e X.env) :: starEach es X.env := by rfl) (hpl : (backTo pos (starEach es X.env)).any (·.1) = false := by rfl) : XD X M σ H (.Call (.Name x p1) (e :: es) [] pos) d := fun H1 s Q q =>
  re_B hc (ha H1 s _ fun vs H2 s2 hvs => hr H2 vs (s.trans s2) hvs Q fun u H3 s3 hu => q u H3 (s2.trans s3) hu) hm hv hg hn hdb he hpl
theorem xd_len (hm : X.mg "len" = none) (ha : XD X M σ H e (.list ds)) (hg : Gl X "len" := by rfl) (he : starEach [e] X.env = (false, eval e X.env) :: starEach [] X.env := by rfl) (hpl : (backTo pos (starEach [] X.env)).any (·.1) = false := by rfl) :
    XD X M σ H (.Call (.Name "len" p1) [e] [] pos) (.int ds.length) :=
  xd_B call_len_seq (xa_cons ha xa_nil he) (fun H1 vs s h Q q => by
    cases h with
    | cons h1 h2 =>
      cases h2
      obtain ⟨p, xs, rfl, hp, hx⟩ := dp_lst h1
      exact ⟨p, xs, rfl, .inl (SqL.of (hid_le _ _ hp)), by rw [dpa_len hx]; exact q _ _ (Same.refl _) (.int _)⟩) hm PySem.boot_len hg (by decide) (by decide) he hpl
theorem xd_lenT (hm : X.mg "len" = none) (ha : XD X M σ H e (.tuple ds)) (hg : Gl X "len" := by rfl) (he : starEach [e] X.env = (false, eval e X.env) :: starEach [] X.env := by rfl) (hpl : (backTo pos (starEach [] X.env)).any (·.1) = false := by rfl) :
    XD X M σ H (.Call (.Name "len" p1) [e] [] pos) (.int ds.length) :=
  xd_B call_len_seq (xa_cons ha xa_nil he) (fun H1 vs s h Q q => by
    cases h with
    | cons h1 h2 =>
      cases h2
      obtain ⟨p, xs, rfl, hp, hx⟩ := dp_tup h1
      exact ⟨p, xs, rfl, .inr (same_seqT hid_le hp), by rw [dpa_len hx]; exact q _ _ (Same.refl _) (.int _)⟩) hm PySem.boot_len hg (by decide) (by decide) he hpl
theorem xd_abs {n : Int} (hm : X.mg "abs" = none) (ha : XD X M σ H e (.int n)) (hg : Gl X "abs" := by rfl) (he : starEach [e] X.env = (false, eval e X.env) :: starEach [] X.env := by rfl) (hpl : (backTo pos (starEach [] X.env)).any (·.1) = false := by rfl) :
    XD X M σ H (.Call (.Name "abs" p1) [e] [] pos) (.int (if n < 0 then -n else n)) :=
  xd_B call_abs (xa_cons ha xa_nil he) (fun H1 vs s h Q q => by
    cases h with
    | cons h1 h2 => cases h2; exact ⟨n, by rw [dp_int h1], q _ _ (Same.refl _) (.int _)⟩) hm (by decide +kernel) hg (by decide) (by decide) he hpl
theorem xd_max {m n : Int} (hm : X.mg "max" = none) (ha : XA X M σ H [a, b] [.int m, .int n]) (hc : X.calm = true := by rfl) (hg : Gl X "max" := by rfl) (he : starEach [a, b] X.env = (false, eval a X.env) :: starEach [b] X.env := by rfl) (hpl : (backTo pos (starEach [b] X.env)).any (·.1) = false := by rfl) :
    XD X M σ H (.Call (.Name "max" p1) [a, b] [] pos) (.int (if n > m then n else m)) :=
  xd_B (call_max2 hc) ha (fun H1 vs s h Q q => by
    cases h with
    | cons h1 h2 => cases h2 with
      | cons h2 h3 => cases h3; exact ⟨m, n, by rw [dp_int h1, dp_int h2], q _ _ (Same.refl _) (.int _)⟩) hm (by decide +kernel) hg (by decide) (by decide) he hpl
theorem xd_min {m n : Int} (hm : X.mg "min" = none) (ha : XA X M σ H [a, b] [.int m, .int n]) (hc : X.calm = true := by rfl) (hg : Gl X "min" := by rfl) (he : starEach [a, b] X.env = (false, eval a X.env) :: starEach [b] X.env := by rfl) (hpl : (backTo pos (starEach [b] X.env)).any (·.1) = false := by rfl) :
    XD X M σ H (.Call (.Name "min" p1) [a, b] [] pos) (.int (if n < m then n else m)) :=
  xd_B (call_min2 hc) ha (fun H1 vs s h Q q => by
    cases h with
    | cons h1 h2 => cases h2 with
      | cons h2 h3 => cases h3; exact ⟨m, n, by rw [dp_int h1, dp_int h2], q _ _ (Same.refl _) (.int _)⟩) hm (by decide +kernel) hg (by decide) (by decide) he hpl
/-- list(x) of a list, of a tuple -/
theorem xl_listT (hm : X.mg "list" = none) (L : Live M H) (ha : XD X M σ H e (.tuple ds)) (hg : Gl X "list" := by rfl) (he : starEach [e] X.env = (false, eval e X.env) :: starEach [] X.env := by rfl) (hpl : (backTo pos (starEach [] X.env)).any (·.1) = false := by rfl) :
    XL X M σ H (.Call (.Name "list" p1) [e] [] pos) ds := fun H1 s Q q =>
  re_Ty call_list_of (ra_1 (ha H1 s _ fun v H2 s2 hv => by
    obtain ⟨p, xs, rfl, hp, hx⟩ := dp_tup hv
    refine ⟨p, xs, rfl, .inr (same_seqT hid_le hp), fun l hl => q l xs _ (s2.trans (same_new hl)) (s2.free hl) upd_same ?_⟩
    rw [hid_new (L.mono (s.trans s2)) hl]
    exact hx.up (same_new (hid_free hl))) he) hm (by decide +kernel) hg (by decide) (by decide) he hpl
theorem xl_listL (hm : X.mg "list" = none) (L : Live M H) (ha : XD X M σ H e (.list ds)) (hg : Gl X "list" := by rfl) (he : starEach [e] X.env = (false, eval e X.env) :: starEach [] X.env := by rfl) (hpl : (backTo pos (starEach [] X.env)).any (·.1) = false := by rfl) :
    XL X M σ H (.Call (.Name "list" p1) [e] [] pos) ds := fun H1 s Q q =>
  re_Ty call_list_of (ra_1 (ha H1 s _ fun v H2 s2 hv => by
    obtain ⟨p, xs, rfl, hp, hx⟩ := dp_lst hv
    refine ⟨p, xs, rfl, .inl (SqL.of (hid_le _ _ hp)), fun l hl => q l xs _ (s2.trans (same_new hl)) (s2.free hl) upd_same ?_⟩
    rw [hid_new (L.mono (s.trans s2)) hl]
    exact hx.up (same_new (hid_free hl))) he) hm (by decide +kernel) hg (by decide) (by decide) he hpl
/-- tuple(x) of a list -/
theorem xd_tupleL (hm : X.mg "tuple" = none) (L : Live M H) (ha : XD X M σ H e (.list ds)) (hg : Gl X "tuple" := by rfl) (he : starEach [e] X.env = (false, eval e X.env) :: starEach [] X.env := by rfl) (hpl : (backTo pos (starEach [] X.env)).any (·.1) = false := by rfl) :
    XD X M σ H (.Call (.Name "tuple" p1) [e] [] pos) (.tuple ds) := fun H1 s Q q =>
  re_Ty call_tuple_of (ra_1 (ha H1 s _ fun v H2 s2 hv => by
    obtain ⟨p, xs, rfl, hp, hx⟩ := dp_lst hv
    refine ⟨p, xs, rfl, .inl ⟨SqL.of (hid_le _ _ hp), fun l hl => q _ _ (s2.trans (same_new hl)) ?_⟩⟩
    rw [hid_new (L.mono (s.trans s2)) hl]
    exact .tup (SqT.of upd_same) (hx.up (same_new (hid_free hl)))) he) hm (by decide +kernel) hg (by decide) (by decide) he hpl
theorem xd_intB {k : Bool} (hm : X.mg "int" = none) (ha : XD X M σ H e (.bool k)) (hg : Gl X "int" := by rfl) (he : starEach [e] X.env = (false, eval e X.env) :: starEach [] X.env := by rfl) (hpl : (backTo pos (starEach [] X.env)).any (·.1) = false := by rfl) :
    XD X M σ H (.Call (.Name "int" p1) [e] [] pos) (.int (if k then 1 else 0)) := fun H1 s Q q =>
  re_Ty call_int1 (ra_1 (ha H1 s _ fun v H2 s2 hv => .inr ⟨k, by rw [dp_bl hv], q _ _ s2 (.int _)⟩) he) hm (by decide +kernel) hg (by decide) (by decide) he hpl
/-! ### subscripts -/
theorem atI_map {α β : Type} {xs : List α} {ys : List β} {P : α → β → Prop} (hl : xs.length = ys.length) (hg : ∀ (i : Nat) (y : β), ys[i]? = some y → ∃ x, xs[i]? = some x ∧ P x y) {n : Int} {y : β} (h : atI ys n = some y) : ∃ x, atI xs n = some x ∧ P x y := by
  unfold atI at h ⊢
  rw [hl]
  cases e : ixN ys.length n with
  | none => rw [e] at h; cases h
  | some j =>
    rw [e] at h
    exact hg j y h
theorem xd_ixL {n : Int} (hs : PlainIx b) (ha : XD X M σ H a (.list ds)) (hb : XD X M σ H b (.int n)) (h : atI ds n = some d) : XD X M σ H (.Subscript a b pos) d := fun H1 s Q q =>
  ⟨_, pe_ix ix_list re_ re_ hs, ha H1 s _ fun v H2 s2 hv => hb H2 (s.trans s2) _ fun w H3 s3 hw => by
    obtain ⟨p, xs, rfl, hp, hx⟩ := dp_lst (hv.up (hid_mono s3))
    obtain ⟨u, hu, hd⟩ := atI_map (dpa_len hx) (fun i y h => dpa_get hx h) h
    exact ⟨p, xs, n, u, rfl, dp_int hw, SqL.of (hid_le _ _ hp), hu, q u H3 (s2.trans s3) hd⟩⟩
theorem xd_ixT {n : Int} (hs : PlainIx b) (ha : XD X M σ H a (.tuple ds)) (hb : XD X M σ H b (.int n)) (h : atI ds n = some d) : XD X M σ H (.Subscript a b pos) d := fun H1 s Q q =>
  ⟨_, pe_ix ix_tup re_ re_ hs, ha H1 s _ fun v H2 s2 hv => hb H2 (s.trans s2) _ fun w H3 s3 hw => by
    obtain ⟨p, xs, rfl, hp, hx⟩ := dp_tup (hv.up (hid_mono s3))
    obtain ⟨u, hu, hd⟩ := atI_map (dpa_len hx) (fun i y h => dpa_get hx h) h
    exact ⟨p, xs, n, u, rfl, dp_int hw, same_seqT hid_le hp, hu, q u H3 (s2.trans s3) hd⟩⟩
/-- xs[lo:hi] of a list -/
def XO (X : Cx) (σ : L2.St) (H : Hp) (e : Option Expr) (n : Option Int) : Prop := ∀ H1, Same H H1 → ∀ Q : Option Int → Hp → Prop, (∀ H2, Same H1 H2 → Q n H2) → ∃ t, PO X e t ∧ t σ H1 Q
theorem xo_none : XO X σ H none none := fun H1 s Q q => ⟨_, po_none, q H1 (Same.refl _)⟩
theorem xo_some {n : Int} (h : XD X M σ H e (.int n)) : XO X σ H (some e) (some n) := fun H1 s Q q => ⟨_, po_some re_, h H1 s _ fun v H2 s2 hv => ⟨n, dp_int hv, q H2 s2⟩⟩
def cutD (xs : List PyData) (lo hi : Option Int) : List PyData := (xs.drop (HT.sIx xs.length 0 lo)).take (HT.sIx xs.length xs.length hi - HT.sIx xs.length 0 lo)
def RO (X : Cx) (e : Option Expr) : L2.St → Hp → (Option Int → Hp → Prop) → Prop := fun σ H Q => ∃ t, PO X e t ∧ t σ H Q
theorem ro_ {e : Option Expr} : PO X e (RO X e) := ⟨fun pins s σ H Q I ⟨_, h, q⟩ => h.run pins s σ H Q I q⟩
theorem xl_cut {lo hi : Option Expr} {m n : Option Int} (L : Live M H) (ha : XD X M σ H a (.list ds)) (hl : XO X σ H lo m) (hu : XO X σ H hi n) : XL X M σ H (.Subscript a (.Slice lo hi none p2) pos) (cutD ds m n) := fun H1 s Q q =>
  ⟨_, pe_slice sl_list re_ ro_ ro_, ha H1 s _ fun v H2 s2 hv => hl H2 (s.trans s2) _ fun H3 s3 => hu H3 ((s.trans s2).trans s3) _ fun H4 s4 => by
    obtain ⟨p, xs, rfl, hp, hx⟩ := dp_lst (hv.up (hid_mono (s3.trans s4)))
    refine ⟨p, xs, rfl, SqL.of (hid_le _ _ hp), fun l hl => q l _ _ ((s2.trans (s3.trans s4)).trans (same_new hl)) ((s2.trans (s3.trans s4)).free hl) upd_same ?_⟩
    rw [hid_new (L.mono (s.trans (s2.trans (s3.trans s4)))) hl]
    have hz := dpa_len hx
    unfold cutV cutD
    rw [hz]
    exact (dpa_take _ (dpa_drop _ hx)).up (same_new (hid_free hl))⟩
/-! ### lists -/
theorem xl_cat (L : Live M H) (ha : XD X M σ H a (.list ds)) (hb : XD X M σ H b (.list ds2)) (hz : ds.length + ds2.length ≤ 100000) : XL X M σ H (.BinOp a .Add b pos) (ds ++ ds2) := fun H1 s Q q =>
  ⟨_, pe_op op_cat re_ re_, ha H1 s _ fun v H2 s2 hv => hb H2 (s.trans s2) _ fun w H3 s3 hw => by
    obtain ⟨p, xs, rfl, hp, hx⟩ := dp_lst (hv.up (hid_mono s3))
    obtain ⟨p', ys, rfl, hp', hy⟩ := dp_lst hw
    refine ⟨p, p', xs, ys, rfl, rfl, hid_le _ _ hp, hid_le _ _ hp', by rw [dpa_len hx, dpa_len hy]; exact small_sz hz, fun l hl => q l _ _ ((s2.trans s3).trans (same_new hl)) ((s2.trans s3).free hl) upd_same ?_⟩
    rw [hid_new (L.mono ((s.trans s2).trans s3)) hl]
    exact (dpa_app hx hy).up (same_new (hid_free hl))⟩
/-- l.append(e), l one of M's lists -/
theorem rb_append {l : Addr} {xs : List V} (hl : l ∈ M) (ho : XV X σ H o (.ref l)) (h1 : H l = some (.lst xs)) (he : XD X M σ H e d) (hz : xs.length < 100000) (k : ∀ v H1, Same H H1 → Dq X.K (hid M H1) v d → RB X rest D σ (upd H1 l (.lst (xs ++ [v]))))
    (hbase : attributeBase o "append" X.env (eval o X.env) = eval o X.env := by rfl)
    (hfew : ((backTo p2 (starEach [e] X.env)).all (fun x => !x.1) && (backToKw p2 (keywordEach [] X.env)).all (fun x => x.1.isSome) && decide ([e].length + ([] : List Keyword).length + (if ([] : List Keyword).isEmpty then 0 else 1) < 30)) = true := by rfl)
    (hline : (p1.endLine == p2.line) = true := by rfl) (hs : starEach [e] X.env = (false, eval e X.env) :: starEach [] X.env := by rfl) (hplain : (backTo p2 (starEach [] X.env)).any (·.1) = false := by rfl)
    (hsw : swapsWith (.Call (.Attribute o "append" p1) [e] [] p2) none pos.line X.env = pure false := by rfl) : RB X (.Expr (.Call (.Attribute o "append" p1) [e] [] p2) pos :: rest) D σ H :=
  rb_exprR ⟨_, pe_bm PySem.F.plainAttrs_list PySem.F.slot_list_append PySem.F.type_list_append mt_append re_ ra_ hbase hfew hline hs hplain,
    ho H (Same.refl H) _ fun H1 s1 => ⟨.inl ⟨rfl, xs, SqL.of (s1 _ _ h1)⟩, ra_1 (he H1 s1 _ fun v H2 s2 hv => ⟨l, xs, v, rfl, rfl, (s1.trans s2) _ _ h1, Nat.lt_of_lt_of_le hz (by decide), k v H2 (s1.trans s2) hv⟩) hs⟩⟩ hsw
/-- l.extend(e) -/
theorem rb_extend {l : Addr} {xs : List V} (hl : l ∈ M) (ho : XV X σ H o (.ref l)) (h1 : H l = some (.lst xs)) (he : XD X M σ H e (.list ds)) (hz : xs.length + ds.length ≤ 100000) (k : ∀ vs H1, Same H H1 → DqAll X.K (hid M H1) vs ds → RB X rest D σ (upd H1 l (.lst (xs ++ vs))))
    (hbase : attributeBase o "extend" X.env (eval o X.env) = eval o X.env := by rfl)
    (hfew : ((backTo p2 (starEach [e] X.env)).all (fun x => !x.1) && (backToKw p2 (keywordEach [] X.env)).all (fun x => x.1.isSome) && decide ([e].length + ([] : List Keyword).length + (if ([] : List Keyword).isEmpty then 0 else 1) < 30)) = true := by rfl)
    (hline : (p1.endLine == p2.line) = true := by rfl) (hs : starEach [e] X.env = (false, eval e X.env) :: starEach [] X.env := by rfl) (hplain : (backTo p2 (starEach [] X.env)).any (·.1) = false := by rfl)
    (hsw : swapsWith (.Call (.Attribute o "extend" p1) [e] [] p2) none pos.line X.env = pure false := by rfl) : RB X (.Expr (.Call (.Attribute o "extend" p1) [e] [] p2) pos :: rest) D σ H :=
  rb_exprR ⟨_, pe_bm PySem.F.plainAttrs_list PySem.F.slot_list_extend PySem.F.type_list_extend mt_extend re_ ra_ hbase hfew hline hs hplain,
    ho H (Same.refl H) _ fun H1 s1 => ⟨.inl ⟨rfl, xs, SqL.of (s1 _ _ h1)⟩, ra_1 (he H1 s1 _ fun v H2 s2 hv => by
      obtain ⟨b, ys, rfl, hb, hy⟩ := dp_lst hv
      exact ⟨l, b, xs, ys, rfl, rfl, (s1.trans s2) _ _ h1, hid_le _ _ hb, by rw [dpa_len hy]; exact small_sz hz, k ys H2 (s1.trans s2) hy⟩) hs⟩⟩ hsw
/-! ### loops -/
/-- for tg in e: .., e a list; Pv: by the turn; the known part must stand -/
theorem rb_for {tg : Expr} {body : List Stmt} (hit : XD X M σ H e (.list ds))
    (h : ∀ H1, Same H H1 → ∃ Pv : Nat → L2.St → Hp → Prop, Pv 0 σ H1 ∧ (∀ k σ' H', Pv k σ' H' → Same (hid M H1) (hid M H')) ∧
      (∀ k d, ds[k]? = some d → ∀ σ' H' v, Pv k σ' H' → Dq X.K (hid M H') v d → RG X tg v σ' H' fun σ2 H2 => RB X body { D with nx := Pv (k + 1), ct := Pv (k + 1), bk := RB X rest D } σ2 H2) ∧ ∀ σ' H', Pv ds.length σ' H' → RB X rest D σ' H')
    (hp : PassesOwn (model X.prog X.w) X.A X.env X.xe := by exact PassesOwn.never) (hc : X.calm = true := by rfl) (hs : ∀ x, foldedSetIterable e X.env x = pure x := by intro _; rfl) : RB X (.For tg e body [] pos :: rest) D σ H :=
  ⟨_, pss_cons (ps_for hp hc (pi_list re_) rg_ rb_ hs) rb_, hit H (Same.refl H) _ fun v H1 s1 hv => by
    obtain ⟨a, xs, rfl, ha, hx⟩ := dp_lst hv
    obtain ⟨Pv, h0, hk, hst, hd⟩ := h H1 s1
    refine ⟨a, rfl, ⟨xs, SqL.of (hid_le _ _ ha)⟩, for_list (xs := xs) Pv h0 (fun i σ' H' _ p => SqL.of (hid_le _ _ (hk i σ' H' p _ _ ha))) (fun i x σ' H' hi p => ?_) (by rw [dpa_len hx]; exact hd)⟩
    obtain ⟨d, h1, h2⟩ := dpa_get' hx hi
    exact hst i d h1 σ' H' x p (h2.up (hk i σ' H' p))⟩
theorem rb_forT {tg : Expr} {body : List Stmt} (hit : XD X M σ H e (.tuple ds))
    (h : ∀ H1, Same H H1 → ∃ Pv : Nat → L2.St → Hp → Prop, Pv 0 σ H1 ∧ (∀ k σ' H', Pv k σ' H' → Same (hid M H1) (hid M H')) ∧
      (∀ k d, ds[k]? = some d → ∀ σ' H' v, Pv k σ' H' → Dq X.K (hid M H') v d → RG X tg v σ' H' fun σ2 H2 => RB X body { D with nx := Pv (k + 1), ct := Pv (k + 1), bk := RB X rest D } σ2 H2) ∧ ∀ σ' H', Pv ds.length σ' H' → RB X rest D σ' H')
    (hp : PassesOwn (model X.prog X.w) X.A X.env X.xe := by exact PassesOwn.never) (hc : X.calm = true := by rfl) (hs : ∀ x, foldedSetIterable e X.env x = pure x := by intro _; rfl) : RB X (.For tg e body [] pos :: rest) D σ H :=
  ⟨_, pss_cons (ps_for hp hc (pi_tup re_) rg_ rb_ hs) rb_, hit H (Same.refl H) _ fun v H1 s1 hv => by
    obtain ⟨a, xs, rfl, ha, hx⟩ := dp_tup hv
    obtain ⟨Pv, h0, hk, hst, hd⟩ := h H1 s1
    refine ⟨a, rfl, ⟨xs, same_seqT hid_le ha⟩, for_tup (xs := xs) Pv h0 (fun i σ' H' _ p => same_seqT hid_le (same_seqT (hk i σ' H' p) ha)) (fun i x σ' H' hi p => ?_) (by rw [dpa_len hx]; exact hd)⟩
    obtain ⟨d, h1, h2⟩ := dpa_get' hx hi
    exact hst i d h1 σ' H' x p (h2.up (hk i σ' H' p))⟩
/-- for tg in range(e): .. -/
theorem rb_range {tg : Expr} {body : List Stmt} (hm : X.mg "range" = none) (hit : RE X e σ H fun v H1 => ∃ n : Nat, v = .int (n : Int) ∧ n < 2 ^ 61 ∧ ∃ Pv : Nat → L2.St → Hp → Prop, Pv 0 σ H1 ∧
      (∀ k σ' H', k < n → Pv k σ' H' → RG X tg (.int (k : Int)) σ' H' fun σ2 H2 => RB X body { D with nx := Pv (k + 1), ct := Pv (k + 1), bk := RB X rest D } σ2 H2) ∧ ∀ σ' H', Pv n σ' H' → RB X rest D σ' H')
    (hg : Gl X "range" := by rfl) (he : starEach [e] X.env = [(false, eval e X.env)] := by rfl) (hp : PassesOwn (model X.prog X.w) X.A X.env X.xe := by exact PassesOwn.never) (hc : X.calm = true := by rfl)
    (hs : ∀ x, foldedSetIterable (.Call (.Name "range" p1) [e] [] p2) X.env x = pure x := by intro _; rfl) : RB X (.For tg (.Call (.Name "range" p1) [e] [] p2) body [] pos :: rest) D σ H :=
  ⟨_, pss_cons (ps_for hp hc (pi_range1 hg hm ra_ he) rg_ rb_ hs) rb_, ra_1 (re_mono hit fun v H1 ⟨n, ev, hn, Pv, h0, hst, hd⟩ => by
    refine ⟨(n : Int), by rw [ev], by omega, by omega, ?_⟩
    rw [Int.toNat_natCast]
    refine for_range Pv h0 (fun i σ' H' hi p => ?_) hd
    rw [Int.zero_add]
    exact hst i σ' H' hi p) he⟩
end
/-! ### comprehensions -/
/-- what is read within a comprehension -/
def BE (X : Cx) (scope : Scope) (e : Expr) : TE := fun σ H Q => ∀ (s : Shared) (H0 : Hp) (C : Addr) (cl : List (Str × Addr)) (fp : List Addr), RE (X.blk s H0 scope (compEnvC scope cl C X.env) fp) e σ H Q
def BG (X : Cx) (scope : Scope) (e : Expr) : TG := fun v σ H Q => ∀ (s : Shared) (H0 : Hp) (C : Addr) (cl : List (Str × Addr)) (fp : List Addr), RG (X.blk s H0 scope (compEnvC scope cl C X.env) fp) e v σ H Q
def BT (X : Cx) (scope : Scope) (es : List Expr) : TT := fun σ H Q => ∀ (s : Shared) (H0 : Hp) (C : Addr) (cl : List (Str × Addr)) (fp : List Addr), ∃ t, PTs (X.blk s H0 scope (compEnvC scope cl C X.env) fp) es t ∧ t σ H Q
section
variable {X : Cx} {M : List Addr} {σ : L2.St} {H H' : Hp} {e a b c o elt tg iter : Expr} {ifs : List Expr} {scope : Scope} {own : List (Str × Nat)} {es : List Expr} {d d1 d2 : PyData} {ds ds2 es' : List PyData} {x : Str} {v : V} {pos p1 p2 p3 : Pos}
theorem be_ {s : Shared} {H0 : Hp} {C : Addr} {cl : List (Str × Addr)} {fp : List Addr} : PE (X.blk s H0 scope (compEnvC scope cl C X.env) fp) e (BE X scope e) := ⟨fun pins s' σ H Q I h => by
  obtain ⟨_, ht, q⟩ := h s H0 C cl fp
  exact ht.run pins s' σ H Q I q⟩
theorem bg_ {s : Shared} {H0 : Hp} {C : Addr} {cl : List (Str × Addr)} {fp : List Addr} : PG (X.blk s H0 scope (compEnvC scope cl C X.env) fp) e (BG X scope e) := ⟨fun pins s' σ H v u Q I r h => by
  obtain ⟨_, ht, q⟩ := h s H0 C cl fp
  exact ht.run pins s' σ H v u Q I r q⟩
theorem bt_ {s : Shared} {H0 : Hp} {C : Addr} {cl : List (Str × Addr)} {fp : List Addr} : PTs (X.blk s H0 scope (compEnvC scope cl C X.env) fp) es (BT X scope es) := ⟨fun pins s' σ H Q I h => by
  obtain ⟨_, ht, q⟩ := h s H0 C cl fp
  exact ht.run pins s' σ H Q I q⟩
theorem bt_nil {Q : Bool → Hp → Prop} (q : Q true H) : BT X scope [] σ H Q := fun _ _ _ _ _ => ⟨_, pts_nil, q⟩
theorem bt_one {k : Bool} {Q : Bool → Hp → Prop} (h : ∀ (s : Shared) (H0 : Hp) (C : Addr) (cl : List (Str × Addr)) (fp : List Addr), XT (X.blk s H0 scope (compEnvC scope cl C X.env) fp) σ H c k) (q : ∀ H2, Same H H2 → Q k H2) : BT X scope [c] σ H Q := fun s H0 C cl fp =>
  ⟨_, pts_one rt_, h s H0 C cl fp H (Same.refl H) _ q⟩
theorem rg_mono {Q Q' : L2.St → Hp → Prop} (h : RG X tg v σ H Q) (k : ∀ σ1 H1, Q σ1 H1 → Q' σ1 H1) : RG X tg v σ H Q' := by
  obtain ⟨g, hg, q⟩ := h
  exact ⟨fun v σ H Q' => ∃ Q, g v σ H Q ∧ ∀ σ1 H1, Q σ1 H1 → Q' σ1 H1, ⟨fun pins s σ H v u Q' I r ⟨Q, q, k⟩ => thn (hg.run pins s σ H v u Q I r q) fun _ s' ⟨σ', H', I', q'⟩ => ⟨σ', H', I', k _ _ q'⟩⟩, Q, q, k⟩
theorem bg_mono {Q Q' : L2.St → Hp → Prop} (h : BG X scope tg v σ H Q) (k : ∀ σ1 H1, Q σ1 H1 → Q' σ1 H1) : BG X scope tg v σ H Q' := fun s H0 C cl fp => rg_mono (h s H0 C cl fp) k
theorem be_mono {Q Q' : VK} (h : BE X scope e σ H Q) (k : ∀ v H1, Q v H1 → Q' v H1) : BE X scope e σ H Q' := fun s H0 C cl fp => re_mono (h s H0 C cl fp) k
theorem bt_mono {Q Q' : Bool → Hp → Prop} (h : BT X scope es σ H Q) (k : ∀ v H1, Q v H1 → Q' v H1) : BT X scope es σ H Q' := fun s H0 C cl fp => by
  obtain ⟨t, ht, q⟩ := h s H0 C cl fp
  exact ⟨fun σ H Q' => ∃ Q, t σ H Q ∧ ∀ v H1, Q v H1 → Q' v H1, ⟨fun pins s σ H Q' I ⟨Q, q, k⟩ => thn (ht.run pins s σ H Q I q) fun u s' ⟨H1, I1, q1⟩ => ⟨H1, I1, k u H1 q1⟩⟩, Q, q, k⟩
theorem hid_step {p : Addr} {H1 : Hp} (hp : H p = none) (s : Same H H1) : Same (hid M H) (hid (p :: M) H1) := fun b o e => by
  have nM : b ∉ M := fun z => by unfold hid at e; rw [if_pos z] at e; cases e
  have e' := hid_le _ _ e
  have np : b ≠ p := ne_of_none e' hp
  rw [hid_of (by simp [np, nM])]
  exact s _ _ e'
theorem hid_upd_ne {p : Addr} {o : HO} {H1 : Hp} : hid (p :: M) (upd H1 p o) = hid (p :: M) H1 := hid_upd_mem (List.mem_cons_self ..)
/-- [elt for tg in iter if ..]: f gives what an item comes to, none where it is left out -/
theorem xl_comp (f : PyData → Option PyData) (L : Live M H) (hN : X.N.Nodup) (hit : XD X M σ H iter (.list ds)) (ok : BlkOk X.N X.env.scope scope own) (hz : ds.length ≤ 100000)
    (hst : ∀ p d v H1, d ∈ ds → H p = none → Same H H1 → Live (p :: M) H1 → Dq X.K (hid (p :: M) H1) v d → BG X scope tg v (wipe σ (own.map (·.2))) H1 fun σ2 H2 => wipe σ2 (own.map (·.2)) = wipe σ (own.map (·.2)) ∧ BT X scope ifs σ2 H2 fun k H3 =>
      Same H1 H3 ∧ ((k = true ∧ ∃ d', f d = some d' ∧ BE X scope elt σ2 H3 fun y H4 => Same H3 H4 ∧ Dq X.K (hid (p :: M) H4) y d') ∨ (k = false ∧ f d = none)))
    (hc : X.calm = true := by rfl) (hs : ∀ x, foldedSetIterable iter X.env x = pure x := by intro _; rfl) : XL X M σ H (.ListComp elt [⟨tg, iter, ifs, 0⟩] scope pos) (ds.filterMap f) := fun H1 s1 Q q =>
  ⟨_, pe_lc (own := own) hc hN (pi_list re_) ok (fun _ _ _ _ _ => bg_) (fun _ _ _ _ _ => bt_) (fun _ _ _ _ _ => be_) hs, hit H1 s1 _ fun v H2 s2 hv => by
    obtain ⟨a, xs, rfl, ha, hx⟩ := dp_lst hv
    have L2' : Live M H2 := L.mono (s1.trans s2)
    refine ⟨a, rfl, ⟨xs, SqL.of (hid_le _ _ ha)⟩, fun p hp => ?_⟩
    have hpM : p ∉ M := L2'.fresh hp
    have hp0 : H p = none := (s1.trans s2).free hp
    refine lc_list (xs := xs) (a := a) (fun i H' => Same H2 H' ∧ ∃ acc, H' p = some (.lst acc) ∧ DqAll X.K (hid (p :: M) H') acc ((ds.take i).filterMap f)) ⟨same_new hp, [], upd_same, by simpa using DqAll.nil⟩ (fun i H' _ w => SqL.of (w.1 _ _ (hid_le _ _ ha))) (fun i x H' hi w => ?_) (fun H' w => ?_)
    · obtain ⟨sH, acc, hacc, hda⟩ := w
      obtain ⟨d, hd1, hd2⟩ := dpa_get' hx hi
      have hdm : d ∈ ds := List.mem_of_getElem? hd1
      have etake : ds.take (i + 1) = ds.take i ++ [d] := by
        rw [List.take_add_one, hd1]; rfl
      have hlen : acc.length < sizeLine := by
        rw [dpa_len hda]
        have h1 : ((ds.take i).filterMap f).length ≤ (ds.take i).length := List.length_filterMap_le ..
        have h2 : (ds.take i).length ≤ i := by rw [List.length_take]; omega
        have h3 : i < ds.length := (List.getElem?_eq_some_iff.mp hd1).1
        have h4 : 100000 < sizeLine := by decide
        omega
      have Lp : Live (p :: M) H' := fun b hb => by
        rcases List.mem_cons.mp hb with z | hb
        · subst z; rw [hacc]; simp
        · exact L2'.mono sH b hb
      have kx : Dq X.K (hid (p :: M) H') x d := hd2.up (hid_step hp sH)
      refine bg_mono (hst p d x H' hdm hp0 ((s1.trans s2).trans sH) Lp kx) fun σ2 Ha ⟨hw, hbt⟩ => ⟨hw, bt_mono hbt fun k Hb ⟨sb, hk⟩ => ?_⟩
      have sH' : Same H' Hb := sb
      rcases hk with ⟨hk, d', hf, hbe⟩ | ⟨hk, hf⟩
      · subst hk
        refine iteT (be_mono hbe fun y Hc ⟨sc, hy⟩ => ?_)
        have sd := sH'.trans sc
        refine ⟨acc, sd _ _ hacc, hlen, fun b o e => ?_, acc ++ [y], upd_same, ?_⟩
        · have nb : b ≠ p := ne_of_none e hp
          rw [upd_ne nb]
          exact sd _ _ (sH _ _ e)
        · rw [hid_upd_ne, etake, List.filterMap_append]
          have e2 : [d].filterMap f = [d'] := by simp [hf]
          rw [e2]
          exact dpa_app (hda.up (hid_mono sd)) (.cons hy .nil)
      · subst hk
        refine iteF ⟨sH.trans sH', acc, sH' _ _ hacc, ?_⟩
        rw [etake, List.filterMap_append]
        have e2 : [d].filterMap f = [] := by simp [hf]
        rw [e2, List.append_nil]
        exact hda.up (hid_mono sH')
    · obtain ⟨sH, acc, hacc, hda⟩ := w
      have e1 : ds.take xs.length = ds := by rw [dpa_len hx]; exact List.take_length
      rw [e1] at hda
      refine q p acc H' (s2.trans sH) (s2.free hp) hacc (hda.up fun b o e => ?_)
      have n1 : b ∉ p :: M := fun z => by unfold hid at e; rw [if_pos z] at e; cases e
      rw [hid_of (fun z => n1 (List.mem_cons_of_mem _ z))]
      exact hid_le _ _ e⟩
end
end Dl

set_option Elab.async false
set_option linter.all false
set_option maxRecDepth 100000
set_option maxHeartbeats 4000000
/-! Data layer, part 4: own defs by data, calls where no repr is under way, repr, isinstance, instances. -/
namespace Dl
open PySem PySem.Spec PyProof.Rows L2
/-! ### a def by data -/
/-- arguments ds with R ds d: the data d comes back, all stands -/
def spR (K : PySem.W.Frag) (R : List PyData → PyData → Prop) : Sp := fun vs H Q _ => ∃ (M : List Addr) (ds : List PyData) (d : PyData), Live M H ∧ DqAll K (hid M H) vs ds ∧ R ds d ∧ ∀ v H1, Same H H1 → Dq K (hid M H1) v d → Q v H1
/-- .. a new list of the data es -/
def spL (K : PySem.W.Frag) (R : List PyData → List PyData → Prop) : Sp := fun vs H Q _ => ∃ (M : List Addr) (ds es : List PyData), Live M H ∧ DqAll K (hid M H) vs ds ∧ R ds es ∧ ∀ p xs H1, Same H H1 → H p = none → H1 p = some (.lst xs) → DqAll K (hid M H1) xs es → Q (.ref p) H1
section
variable {X : Cx} {M : List Addr} {σ : L2.St} {H H' : Hp} {e a b c o : Expr} {es : List Expr} {d d1 d2 : PyData} {ds ds2 es' : List PyData} {x : Str} {v : V} {pos p1 p2 p3 : Pos} {D : Ends} {rest sts : List Stmt} {st : Stmt} {k : Nat} {f C : Addr} {fd : FuncData} {ps : List Str}
theorem re_call {sp : Sp} {Q : VK} (F : FnOk X.prog X.w X.K X.mg X.base CX0 k f fd ps sp) (hr : Room k X.A) (hm : X.mg x = some (.ref f)) (hk : PySem.W.keepIn X.K (.ref f) = true) (hb : Binds X.K fd ps []) (ha : RA X (e :: es) σ H fun vs H1 => sp vs H1 Q E0) (hg : Gl X x := by rfl)
    (hdb : (x == ("__debug__" : Str)) = false := by decide) (he : starEach (e :: es) X.env = (false, eval e X.env) :: starEach es X.env := by rfl) (hpl : (backTo pos (starEach es X.env)).any (·.1) = false := by rfl) : RE X (.Call (.Name x p1) (e :: es) [] pos) σ H Q :=
  ⟨_, pe_call F hr hg hm hk hb .nil pass0 ra_ hdb he hpl, ra_mono ha fun vs H1 q => by rw [List.append_nil]; exact q⟩
theorem re_callD {sp : Sp} {Q : VK} {dvs : List V} {dl : List Value} (F : FnOk X.prog X.w X.K X.mg X.base CX0 k f fd ps sp) (hr : Room k X.A) (hm : X.mg x = some (.ref f)) (hk : PySem.W.keepIn X.K (.ref f) = true) (hb : Binds X.K fd ps dl) (hd : Vals dvs dl) (ha : RA X (e :: es) σ H fun vs H1 => sp (vs ++ dvs) H1 Q E0) (hg : Gl X x := by rfl)
    (hdb : (x == ("__debug__" : Str)) = false := by decide) (he : starEach (e :: es) X.env = (false, eval e X.env) :: starEach es X.env := by rfl) (hpl : (backTo pos (starEach es X.env)).any (·.1) = false := by rfl) : RE X (.Call (.Name x p1) (e :: es) [] pos) σ H Q :=
  ⟨_, pe_call F hr hg hm hk hb hd pass0 ra_ hdb he hpl, ha⟩
theorem xd_call {R : List PyData → PyData → Prop} (L : Live M H) (F : FnOk X.prog X.w X.K X.mg X.base CX0 k f fd ps (spR X.K R)) (hr : Room k X.A) (hm : X.mg x = some (.ref f)) (hk : PySem.W.keepIn X.K (.ref f) = true) (hb : Binds X.K fd ps []) (ha : XA X M σ H (e :: es) ds) (hR : R ds d) (hg : Gl X x := by rfl)
    (hdb : (x == ("__debug__" : Str)) = false := by decide) (he : starEach (e :: es) X.env = (false, eval e X.env) :: starEach es X.env := by rfl) (hpl : (backTo pos (starEach es X.env)).any (·.1) = false := by rfl) : XD X M σ H (.Call (.Name x p1) (e :: es) [] pos) d := fun H1 s Q q =>
  re_call F hr hm hk hb (ha H1 s _ fun vs H2 s2 hv => ⟨M, ds, d, L.mono (s.trans s2), hv, hR, fun v H3 s3 hd => q v H3 (s2.trans s3) hd⟩) hg hdb he hpl
theorem xl_call {R : List PyData → List PyData → Prop} (L : Live M H) (F : FnOk X.prog X.w X.K X.mg X.base CX0 k f fd ps (spL X.K R)) (hr : Room k X.A) (hm : X.mg x = some (.ref f)) (hk : PySem.W.keepIn X.K (.ref f) = true) (hb : Binds X.K fd ps []) (ha : XA X M σ H (e :: es) ds) (hR : R ds ds2) (hg : Gl X x := by rfl)
    (hdb : (x == ("__debug__" : Str)) = false := by decide) (he : starEach (e :: es) X.env = (false, eval e X.env) :: starEach es X.env := by rfl) (hpl : (backTo pos (starEach es X.env)).any (·.1) = false := by rfl) : XL X M σ H (.Call (.Name x p1) (e :: es) [] pos) ds2 := fun H1 s Q q =>
  re_call F hr hm hk hb (ha H1 s _ fun vs H2 s2 hv => ⟨M, ds, ds2, L.mono (s.trans s2), hv, hR, fun p xs H3 s3 hp h3 hd => q p xs H3 (s2.trans s3) (s2.free hp) h3 hd⟩) hg hdb he hpl
/-! ### a def, called where no repr is under way -/
structure FnG (P : Program) (w : World) (K : PySem.W.Frag) (mg : Str → Option Value) (base : Heap) (k : Nat) (f : Addr) (fd : FuncData) (ps : List Str) (sp : Sp) : Prop where
  len : ∀ vs H Q E, sp vs H Q E → vs.length = ps.length
  run : ∀ (A : Around), A.guards = some [] → Room k A → ∀ (outer : List Env) (s : Shared) (H : Hp) (args : Args) (us : List Value) (vs : List V) (Q : VK) (E : XK), Env0 P w K mg base A outer s H → BindsTo s fd args (ps.zip us) → Vals vs us → sp vs H Q E →
    codeAny (model P w) A (.call (.ref f) args) (CR CX0 outer P w H s Q E) s
theorem fn_g {P : Program} {w : World} {K : PySem.W.Frag} {mg : Str → Option Value} {base : Heap} {sp : Sp} {qual x : Str} {st : Stmt} {N : List Str} (F : Fun K x qual st f fd) (S : FnScope N ps (defScope st)) (len : ∀ vs H Q E, sp vs H Q E → vs.length = ps.length)
    (hbody : ∀ (cdv : Value) (A : Around) (outer : List Env) (s : Shared) (H : Hp) (vs : List V) (Q : VK) (E : XK), A.guards = some [] → Room k (A.deeper (envOfC qual (defScope st) s.heap.objs.size f cdv)) → sp vs H Q E →
      RB (cxOf CX0 P w K mg base N qual (defScope st) f cdv A outer s H E).nox (defBody st) { nx := fun _ H1 => Q .non H1, rt := Q } (start N vs) H) : FnG P w K mg base (k + 1) f fd ps sp where
  len := len
  run := fun A hA hr outer s H args us vs Q E e0 hb r hsp => by
    obtain ⟨oc, od, kV, doc, pm, an, cdv, ct, osl, hfd, lk, hcd⟩ := F.ex
    subst hfd
    have hz := len _ _ _ _ hsp
    have KX : K.In s.heap := e0.mod.kin.keeps (fun b o e => (e0.bs b o e).1)
    have nl : s.heap.NoLimit := e0.mod.nolimit.keeps (fun b o e => (e0.bs b o e).1)
    have kinds : ∀ y ∈ ps.zip us, (defScope st).names.lookup y.1 = some .local ∨ ((defScope st).names.lookup y.1 = some .cell ∧ ((cellsFrom (s.heap.objs.size + 1) (defScope st).names []).lookup y.1).isSome = true) := by
      intro y hy
      rcases S.par y.1 (List.of_mem_zip (show (y.1, y.2) ∈ ps.zip us from hy)).1 with z | z
      · exact .inl z
      · exact .inr ⟨z, PySem.W.cellsFrom_some _ _ _ (.inl z)⟩
    refine codeAny_call_function (Room.depth hr) (KX _ _ lk) rfl S.co S.gen rfl (PySem.W.codeRec_of KX hcd) (hb _ _ _ _ ?_)
    refine wpAny_newFunctionEnv_cells S.kind kinds (fun env henv s1 inc => ?_)
    subst henv
    refine ⟨nl.keeps inc.toInCall.keep, codeAny_func ?_⟩
    obtain ⟨t, ht, q⟩ := hbody cdv A outer s H vs Q E hA (hr.deeper _) hsp
    have I0 := inv_start (CX := CX0) (E := E) S hr.hd e0 hz r inc
    refine wpAny_mono (ht.nox.run [] s1 (start N vs) H _ I0 q) (fun fl s2 hs => ?_) (fun _ _ z => z)
    cases fl with
    | ret u =>
      obtain ⟨v, _, H2, J, rv, q2⟩ := hs
      exact ⟨v, H2, J.os, J.bare, J.base, J.hok, rv, q2⟩
    | next =>
      obtain ⟨_, H2, J, q2⟩ := hs
      exact ⟨.non, H2, J.os, J.bare, J.base, J.hok, rfl, q2⟩
    | brk => obtain ⟨_, _, _, q2⟩ := hs; exact q2.elim
    | cont => obtain ⟨_, _, _, q2⟩ := hs; exact q2.elim
/-- f(..), f such a def -/
theorem re_callG {sp : Sp} {Q : VK} (F : FnG X.prog X.w X.K X.mg X.base k f fd ps sp) (hA : X.A.guards = some []) (hr : Room k X.A) (hm : X.mg x = some (.ref f)) (hk : PySem.W.keepIn X.K (.ref f) = true) (hb : Binds X.K fd ps []) (ha : RA X (e :: es) σ H fun vs H1 => sp vs H1 Q E0) (hg : Gl X x := by rfl)
    (hdb : (x == ("__debug__" : Str)) = false := by decide) (he : starEach (e :: es) X.env = (false, eval e X.env) :: starEach es X.env := by rfl) (hpl : (backTo pos (starEach es X.env)).any (·.1) = false := by rfl) : RE X (.Call (.Name x p1) (e :: es) [] pos) σ H Q := by
  refine ⟨fun σ H Q => RA X (e :: es) σ H fun vs H1 => sp vs H1 Q E0, ⟨fun pins s σ H Q I h => ?_⟩, ha⟩
  refine wpAny_Call_Name_kw (ld_glob I hg hm ?_ hdb)
  refine PySem.W.callWith_K (h₀ := X.base) I.ok.mod.kin hk (thn (ra_.run pos pins s σ H _ I h) fun us s1 ⟨vs, H1, I1, r, q⟩ => ⟨I1.kIn, ?_⟩) he hpl
  have hz : us.length = ps.length := by rw [← r.length]; exact F.len _ _ _ _ q
  have hb' := hb s1 us I1.kIn (by rw [List.append_nil]; exact hz)
  rw [List.append_nil] at hb'
  refine wpAny_call (codeAny_mono (F.run X.A hA hr X.stack s1 H1 ⟨us, []⟩ us vs Q E0 I1.env0 hb' r q) fun r' s' hq => ?_)
  cases r' with
  | error e => exact hq.elim
  | ok fl =>
    cases fl with
    | ret u => exact I1.after hq
    | next => exact hq.elim
    | brk => exact hq.elim
    | cont => exact hq.elim
/-! ### repr of data -/
theorem call_reprD (hA : X.A.guards = some []) (hu : X.A.units + 64 < cLine) : CallR X (.builtin "repr") (fun xs H Q => ∃ (p : Addr) (d : PyData), xs = [.ref p] ∧ Dp X.K H (.ref p) d ∧ d.showable = true ∧ d.hasDict = false ∧ d.depth ≤ 60 ∧ d.shown.length ≤ sizeLine ∧ Q (.str d.shown) H) := by
  intro pins s σ H xs us Q I r h
  obtain ⟨p, d, rfl, hd, h1, h2, h3, h4, q⟩ := h
  obtain ⟨u, rfl, rx⟩ := vals1 r
  obtain ⟨as, rd⟩ := Dp.reads I d _ u hd rx
  cases rx
  exact repr_of_reads' rd h1 (fun z => by rw [h2] at z; cases z) hA (by omega) (fun _ _ z => z) (fun h' u tk hk => ⟨.str d.shown, H, I.kept (t' := tk) hk, ⟨u, rfl⟩, q⟩) h4
/-- repr(a) != repr(b) of the same data: False -/
theorem xt_reprNe {pa pb : Pos} (hA : X.A.guards = some []) (hu : X.A.units + 64 < cLine) (hm : X.mg "repr" = none) (ha : XD X M σ H a (.list ds)) (hb : XD X M σ H b (.list ds)) (h1 : (PyData.list ds).showable = true) (h2 : (PyData.list ds).hasDict = false) (h3 : (PyData.list ds).depth ≤ 60) (h4 : (PyData.list ds).shown.length ≤ sizeLine) (hg : Gl X "repr" := by rfl)
    (he : starEach [a] X.env = (false, eval a X.env) :: starEach [] X.env := by rfl) (hpl : (backTo pa (starEach [] X.env)).any (·.1) = false := by rfl) (he2 : starEach [b] X.env = (false, eval b X.env) :: starEach [] X.env := by rfl) (hpl2 : (backTo pb (starEach [] X.env)).any (·.1) = false := by rfl) :
    XT X σ H (.Compare (.Call (.Name "repr" p1) [a] [] pa) [.NotEq] [.Call (.Name "repr" p2) [b] [] pb] pos) false := by
  have key : ∀ {e : Expr} {pp qq : Pos}, XD X M σ H e (.list ds) → starEach [e] X.env = (false, eval e X.env) :: starEach [] X.env → (backTo qq (starEach [] X.env)).any (·.1) = false → XD X M σ H (.Call (.Name "repr" pp) [e] [] qq) (.str (PyData.list ds).shown) := fun {e pp qq} h z1 z2 H1 s Q q =>
    re_B (call_reprD hA hu) (ra_1 (h H1 s _ fun v H2 s2 hv => by
      obtain ⟨p, xs, rfl, hp, hx⟩ := dp_lst hv
      exact ⟨p, _, rfl, (hv.up hid_le).dp, h1, h2, h3, h4, q _ H2 s2 (.str _)⟩) z1) hm (by decide +kernel) hg (by decide) (by decide) z1 z2
  refine xt_cmp op_ne (key ha he hpl) (key hb he2 hpl2) fun H1 v w s hv hw Q q => ?_
  rw [dp_str hv, dp_str hw]
  exact ⟨rfl, by rw [decide_eq_true rfl]; exact q H1 (Same.refl _)⟩
theorem xd_reprEq {pa pb : Pos} (hA : X.A.guards = some []) (hu : X.A.units + 64 < cLine) (hm : X.mg "repr" = none) (ha : XD X M σ H a (.list ds)) (hb : XD X M σ H b (.list ds)) (h1 : (PyData.list ds).showable = true) (h2 : (PyData.list ds).hasDict = false) (h3 : (PyData.list ds).depth ≤ 60) (h4 : (PyData.list ds).shown.length ≤ sizeLine) (hg : Gl X "repr" := by rfl)
    (he : starEach [a] X.env = (false, eval a X.env) :: starEach [] X.env := by rfl) (hpl : (backTo pa (starEach [] X.env)).any (·.1) = false := by rfl) (he2 : starEach [b] X.env = (false, eval b X.env) :: starEach [] X.env := by rfl) (hpl2 : (backTo pb (starEach [] X.env)).any (·.1) = false := by rfl) :
    XD X M σ H (.Compare (.Call (.Name "repr" p1) [a] [] pa) [.Eq] [.Call (.Name "repr" p2) [b] [] pb] pos) (.bool true) := by
  have key : ∀ {e : Expr} {pp qq : Pos}, XD X M σ H e (.list ds) → starEach [e] X.env = (false, eval e X.env) :: starEach [] X.env → (backTo qq (starEach [] X.env)).any (·.1) = false → XD X M σ H (.Call (.Name "repr" pp) [e] [] qq) (.str (PyData.list ds).shown) := fun {e pp qq} h z1 z2 H1 s Q q =>
    re_B (call_reprD hA hu) (ra_1 (h H1 s _ fun v H2 s2 hv => by
      obtain ⟨p, xs, rfl, hp, hx⟩ := dp_lst hv
      exact ⟨p, _, rfl, (hv.up hid_le).dp, h1, h2, h3, h4, q _ H2 s2 (.str _)⟩) z1) hm (by decide +kernel) hg (by decide) (by decide) z1 z2
  refine xd_cmp op_eq (key ha he hpl) (key hb he2 hpl2) fun H1 v w s hv hw Q q => ?_
  rw [dp_str hv, dp_str hw]
  exact ⟨rfl, by rw [decide_eq_true rfl]; exact q _ H1 (Same.refl _) (.bl _)⟩
/-! ### isinstance -/
def tyN : PyData → String
  | .none => "NoneType"
  | .bool _ => "bool"
  | .int _ => "int"
  | .str _ => "str"
  | .list _ => "list"
  | .tuple _ => "tuple"
  | .dict _ => "dict"
theorem ty_dq {K : PySem.W.Frag} (h : Dq K H v d) : TyX K H v (.type (tyN d)) := by
  cases h with
  | non => exact .base .non
  | bl b => exact .base (.bl b)
  | int i => exact .base (.int i)
  | str z => exact .base (.str z)
  | lst h1 _ => exact .base (.lst h1)
  | tup h1 _ =>
    rcases h1 with (h1 | ⟨o, h1⟩) | ⟨o, its, n, h1, h2, _⟩
    · exact .base (.tup h1)
    · exact .fTuple h1
    · exact .kTuple h1 h2
/-- isinstance(a, T), T a built-in type by its name -/
theorem xd_is1 {T : String} {r : Bool} {nm : Str} (hk : kitB (tyN d) T = some r) (hm : X.mg "isinstance" = none) (hmT : X.mg nm = none) (hvT : bootBuiltins nm = some (.type T)) (ha : XD X M σ H a d) (hg : Gl X "isinstance" := by rfl) (hgT : Gl X nm := by rfl) (hnT : nm ≠ "__name__" := by decide) (hdT : (nm == ("__debug__" : Str)) = false := by decide)
    (he : starEach [a, .Name nm p2] X.env = (false, eval a X.env) :: starEach [.Name nm p2] X.env := by rfl) (he2 : starEach [.Name nm p2] X.env = (false, eval (.Name nm p2) X.env) :: starEach [] X.env := by rfl) (hpl : (backTo pos (starEach [.Name nm p2] X.env)).any (·.1) = false := by rfl) :
    XD X M σ H (.Call (.Name "isinstance" p1) [a, .Name nm p2] [] pos) (.bool r) := fun H1 s Q q =>
  re_B call_isi (ra_cons (ha H1 s _ fun v H2 s2 hv => ra_1 (xv_bltn (v := .ty T) hmT hvT rfl hgT hnT hdT H2 (Same.refl _) _ fun H3 s3 =>
    ⟨v, .ty T, _, _, r, rfl, .ty T, ty_dq ((hv.up hid_le).up s3), kit_ty hk, q _ H3 (s2.trans s3) (.bl _)⟩) he2) he) hm (by decide +kernel) hg (by decide) (by decide) he hpl
/-- isinstance(a, (T1, T2)) -/
theorem xd_is2 {T1 T2 : String} {r1 r2 : Bool} {n1 n2 : Str} {k3} (h1 : kitB (tyN d) T1 = some r1) (h2 : kitB (tyN d) T2 = some r2) (hm : X.mg "isinstance" = none) (hm1 : X.mg n1 = none) (hv1 : bootBuiltins n1 = some (.type T1)) (hm2 : X.mg n2 = none) (hv2 : bootBuiltins n2 = some (.type T2)) (ha : XD X M σ H a d)
    (hg : Gl X "isinstance" := by rfl) (hg1 : Gl X n1 := by rfl) (hg2 : Gl X n2 := by rfl) (hn1 : n1 ≠ "__name__" := by decide) (hn2 : n2 ≠ "__name__" := by decide) (hd1 : (n1 == ("__debug__" : Str)) = false := by decide) (hd2 : (n2 == ("__debug__" : Str)) = false := by decide) {q1 q2 q3 : Pos}
    (he : starEach [a, .Tuple [.Name n1 q1, .Name n2 q2] k3 q3] X.env = (false, eval a X.env) :: starEach [.Tuple [.Name n1 q1, .Name n2 q2] k3 q3] X.env := by rfl) (he2 : starEach [.Tuple [.Name n1 q1, .Name n2 q2] k3 q3] X.env = (false, eval (.Tuple [.Name n1 q1, .Name n2 q2] k3 q3) X.env) :: starEach [] X.env := by rfl)
    (hs1 : starEach [.Name n1 q1, .Name n2 q2] X.env = (false, eval (.Name n1 q1) X.env) :: starEach [.Name n2 q2] X.env := by rfl) (hs2 : starEach [.Name n2 q2] X.env = (false, eval (.Name n2 q2) X.env) :: starEach [] X.env := by rfl)
    (hpl : (backTo pos (starEach [.Tuple [.Name n1 q1, .Name n2 q2] k3 q3] X.env)).any (·.1) = false := by rfl) :
    XD X M σ H (.Call (.Name "isinstance" p1) [a, .Tuple [.Name n1 q1, .Name n2 q2] k3 q3] [] pos) (.bool (r1 || r2)) := fun H1 s Q q =>
  re_B call_isiT (ra_cons (ha H1 s _ fun v H2 s2 hv => ra_1 ⟨_, pe_tup ra_, ra_cons (xv_bltn (v := .ty T1) hm1 hv1 rfl hg1 hn1 hd1 H2 (Same.refl _) _ fun H3 s3 => ra_1 (xv_bltn (v := .ty T2) hm2 hv2 rfl hg2 hn2 hd2 H3 (Same.refl _) _ fun H4 s4 => by
    refine ⟨by show 2 ≤ sizeLine; decide, fun p hp => ?_⟩
    have s5 : Same H2 (upd H4 p (.tup [V.ty T1, V.ty T2])) := (s3.trans s4).trans (same_new hp)
    refine ⟨v, p, [.ty T1, .ty T2], _, _, r1 || r2, rfl, upd_same, .cons (.ty T1) (.cons (.ty T2) .nil), ty_dq ((hv.up hid_le).up s5), ?_, q _ _ (s2.trans s5) (.bl _)⟩
    refine kitAny_cons (kit_ty h1) (fun z => ?_) (fun z => by rw [z]; rfl)
    rw [z, Bool.false_or]
    exact kitAny_cons (kit_ty h2) (fun z2 => by rw [z2]; exact kitAny_nil) (fun z2 => z2)) hs2) hs1⟩ he2) he) hm (by decide +kernel) hg (by decide) (by decide) he hpl
/-! ### instances -/
theorem xv_fld {dx pa : Addr} {fs : List (Str × V)} {f : Str} (ho : XV X σ H o (.ref pa)) (h1 : H pa = some (.ins C dx fs)) (hc : Cls X.K C) (hn : NoAttr X.K C f) (hl : fs.lookup f = some v) (hb : attributeBase o f X.env (eval o X.env) = eval o X.env := by rfl) : XV X σ H (.Attribute o f pos) v := fun H1 s Q q =>
  ⟨_, pe_fld re_ hb, ho H1 s _ fun H2 s2 => ⟨pa, C, dx, fs, v, rfl, (s.trans s2) _ _ h1, hc, hn, hl, q H2 s2⟩⟩
theorem re_meth {dx pa : Addr} {fs : List (Str × V)} {m : Str} {sp : Sp} {Q : VK} {pl : Sem Bool} {apos : Pos} (ho : XV X σ H o (.ref pa)) (h1 : H pa = some (.ins C dx fs)) (hc : Cls X.K C) (hM : Meth X.K C m f) (hl : fs.lookup m = none) (F : FnOk X.prog X.w X.K X.mg X.base CX0 k f fd ps sp) (hr : Room k X.A) (hb : Binds X.K fd ps [])
    (ha : ∀ H1, Same H H1 → RA X (e :: es) σ H1 fun vs H2 => sp (.ref pa :: vs) H2 Q E0) (hst : starEach (e :: es) X.env = (false, eval e X.env) :: starEach es X.env := by rfl) (hpl : (backTo pos (starEach es X.env)).any (·.1) = false := by rfl)
    (ht : eval (.Call (.Attribute o m apos) (e :: es) [] pos) X.env = (do
      let ov ← eval o X.env
      standAt apos.atName
      let (f, first) ← holding [ov] (getMethod ov m pl)
      callWith pos f first (backTo pos (starEach (e :: es) X.env)) (backToKw pos (keywordEach [] X.env))) := by rfl) : RE X (.Call (.Attribute o m apos) (e :: es) [] pos) σ H Q :=
  ⟨_, pe_meth re_ hc hM F hr hb .nil pass0 ra_ hst hpl ht, ho H (Same.refl H) _ fun H1 s1 => ⟨pa, dx, fs, rfl, s1 _ _ h1, hl, ra_mono (ha H1 s1) fun vs H2 q => by rw [List.append_nil]; exact q⟩⟩
theorem re_meth0 {dx pa : Addr} {fs : List (Str × V)} {m : Str} {sp : Sp} {Q : VK} {pl : Sem Bool} {apos : Pos} (ho : XV X σ H o (.ref pa)) (h1 : H pa = some (.ins C dx fs)) (hc : Cls X.K C) (hM : Meth X.K C m f) (hl : fs.lookup m = none) (F : FnOk X.prog X.w X.K X.mg X.base CX0 k f fd ps sp) (hr : Room k X.A) (hb : Binds X.K fd ps [])
    (ha : ∀ H1, Same H H1 → sp [.ref pa] H1 Q E0)
    (ht : eval (.Call (.Attribute o m apos) [] [] pos) X.env = (do
      let ov ← eval o X.env
      standAt apos.atName
      let (f, first) ← holding [ov] (getMethod ov m pl)
      callWith pos f first (backTo pos (starEach [] X.env)) (backToKw pos (keywordEach [] X.env))) := by rfl) : RE X (.Call (.Attribute o m apos) [] [] pos) σ H Q :=
  ⟨_, pe_meth0 re_ hc hM F hr hb .nil pass0 ht, ho H (Same.refl H) _ fun H1 s1 => ⟨pa, dx, fs, rfl, s1 _ _ h1, hl, ha H1 s1⟩⟩
end
end Dl

set_option Elab.async false
set_option linter.all false
set_option maxRecDepth 100000
set_option maxHeartbeats 4000000
/-! Data layer, part 5: operators of an own class; the end. -/
namespace Dl
open PySem PySem.Spec PyProof.Rows L2
/-- a namespace of the written part -/
theorem ns_at {K : PySem.W.Frag} {h : Heap} {N : Addr} {mN : Str → Option Value} {n : Str} {v : Value} (X : K.In h) (G : h.Ns N mN) (e : PySem.W.nsIn K N n = some (some v)) : mN n = some v := by
  obtain ⟨o, es, ep, ho, hd, _, hf⟩ := G
  unfold PySem.W.nsIn at e
  split at e
  · rename_i cc dd es2 nn sl q
    have z := X _ _ q
    rw [ho] at z
    cases z
    cases hd
    split at e
    · rename_i en he
      cases e
      rw [← hf]
      unfold nsFind findBy
      rw [← Array.find?_toList, he]
      rfl
    · split at e <;> cases e
  · cases e
/-- what the written part says of a class with an own == and no != -/
structure ClsEq (K : PySem.W.Frag) (C f : Addr) : Prop where
  cls : ∃ nm q N bs hdct sn sub ab col dd k0 k1 k2 k3 k5 newId, K.lookup C = some (excClassObj nm q C N bs [.type "object"] hdct sn sub ab col dd k0 k1 k2 k3 k5 newId) ∧ PySem.W.nsOkIn K N = true ∧ PySem.W.nsIn K N "__eq__" = some (some (.ref f)) ∧ PySem.W.nsIn K N "__ne__" = some none
  at_ : PySem.W.findIn K (.ref C) "__eq__" = some (some (.ref f))
  fn : PySem.W.isFn K (.ref f) = true
  obj : ∃ o, K.lookup f = some o ∧ o.cls = .type "function"
section
variable {X : Cx} {M : List Addr} {σ : L2.St} {H H' : Hp} {e a b c o : Expr} {es : List Expr} {d d1 d2 : PyData} {ds ds2 es' : List PyData} {x : Str} {v : V} {pos p1 p2 p3 : Pos} {D : Ends} {rest sts : List Stmt} {st : Stmt} {k : Nat} {f C : Addr} {fd : FuncData} {ps : List Str} {sp : Sp}
/-- a bool comes back -/
def bk (Q : Bool → Hp → Prop) : VK := fun v H => ∃ b, v = .bl b ∧ Q b H
theorem run_bool {A : Around} {E : Value → Shared → Prop} {pins : List (Addr × Obj)} {s : Shared} {us : List Value} {vs : List V} {Q : Bool → Hp → Prop} {R : Value → Shared → Prop} (I : Inv X pins σ H s) (fr : A.frames = X.A.frames) (F : FnOk X.prog X.w X.K X.mg X.base CX0 k f fd ps sp) (hr : Room k A) (hb : Binds X.K fd ps []) (r : Vals vs us) (h : sp vs H (bk Q) E0)
    (q : ∀ b s' H', Inv X pins σ H' s' → Q b H' → R (.bool b) s') : wpAny (model X.prog X.w) A (call (.ref f) us) R E s := by
  have hz : us.length = ps.length := by rw [← r.length]; exact F.len _ _ _ _ h
  have hb' := hb s us I.kIn (by rw [List.append_nil]; exact hz)
  rw [List.append_nil] at hb'
  have e := I.env0
  have e0 : Env0 X.prog X.w X.K X.mg X.base A X.stack s H := ⟨by rw [fr]; exact e.frames, e.mod, e.bs, e.bsz, e.funs, e.frf, e.hok, e.bare⟩
  refine wpAny_call (codeAny_mono (F.run A X.stack s H ⟨us, []⟩ us vs (bk Q) E0 hr e0 hb' r h) fun r' s' hq => ?_)
  cases r' with
  | error e => exact hq.elim
  | ok fl =>
    cases fl with
    | ret u =>
      obtain ⟨z, H1, I1, rz, b, ez, q1⟩ := I.after hq
      subst ez
      cases rz
      exact q b s' H1 I1 q1
    | next => exact hq.elim
    | brk => exact hq.elim
    | cont => exact hq.elim
/-- a == b, a of an own class; the other one of that class, or of a type that is not below it -/
theorem op_eqO {tb : Value → Prop} (E : ClsEq X.K C f) (F : FnOk X.prog X.w X.K X.mg X.base CX0 k f fd ps sp) (hr : Room k X.A) (hb : Binds X.K fd ps []) :
    OpR X (compareOp .Eq) (fun x y H Q => ∃ pa dx fs, x = .ref pa ∧ H pa = some (.ins C dx fs) ∧ ((∃ pb dy gs, y = .ref pb ∧ H pb = some (.ins C dy gs)) ∨ (PySem.W.subIn X.K (.type "list") (.ref C) = some false ∧ ∃ pb xs, y = .ref pb ∧ H pb = some (.lst xs))) ∧ sp [x, y] H (bk fun b H1 => Q (.bl b) H1) E0) := by
  intro pins s σ H x y u v Q I rx ry h
  obtain ⟨pa, dx, fs, rfl, ha, hy, hsp⟩ := h
  cases rx
  obtain ⟨mA, J, _⟩ := ins_get I.hok ha
  obtain ⟨od, J, _⟩ := J.look
  obtain ⟨m, hF⟩ := I.fr
  show wpAny (model X.prog X.w) X.A (richCompare .Eq (.ref pa) v) (EP X pins σ Q) X.xe s
  have fin : wpAny (model X.prog X.w) X.A (call (.ref f) [.ref pa, v]) (PySem.W.CmpBack (EP X pins σ Q)) X.xe s :=
    run_bool (Q := fun b H1 => Q (.bl b) H1) I rfl F hr hb (.cons (show RelV (.ref pa) (.ref pa) from rfl) (.cons ry .nil)) hsp fun b s' H' I' q => ⟨.bl b, H', I', rfl, q⟩
  rcases hy with ⟨pb, dy, gs, rfl, hb2⟩ | ⟨hsub, pb, xs, rfl, hb2⟩
  · cases ry
    obtain ⟨mB, J2, _⟩ := ins_get I.hok hb2
    obtain ⟨od2, J2, _⟩ := J2.look
    exact PySem.W.cmp_K (op := .Eq) (tb := .ref C) hr.units0 hF I.ok.mod.kin J J2.type (by simp [PySem.W.notFirst]) E.at_ E.fn fin
  · cases ry
    obtain ⟨_, its, n, r, e⟩ := (show ObjOk X.prog X.w H s.heap pb (.lst xs) from I.hok pb _ hb2)
    have z : PySem.W.Looks (model X.prog X.w) s.heap (typeOf (.ref pb)) (.type "list") := (PySem.W.Looks.ld e).andThen .now
    exact PySem.W.cmp_K (op := .Eq) (tb := .type "list") hr.units0 hF I.ok.mod.kin J z (by unfold PySem.W.notFirst; rw [hsub]; simp) E.at_ E.fn fin
/-- a != b of one own class -/
theorem op_neO (E : ClsEq X.K C f) (F : FnOk X.prog X.w X.K X.mg X.base CX0 k f fd ps sp) (hr : Room (k + 1) X.A) (hb : Binds X.K fd ps []) :
    OpR X (compareOp .NotEq) (fun x y H Q => ∃ pa dx fs pb dy gs, x = .ref pa ∧ H pa = some (.ins C dx fs) ∧ y = .ref pb ∧ H pb = some (.ins C dy gs) ∧ sp [x, y] H (bk fun b H1 => Q (.bl (!b)) H1) E0) := by
  intro pins s σ H x y u v Q I rx ry h
  obtain ⟨pa, dx, fs, pb, dy, gs, rfl, ha, rfl, hb2, hsp⟩ := h
  cases rx
  cases ry
  obtain ⟨mA, J, _⟩ := ins_get I.hok ha
  obtain ⟨od, J, _⟩ := J.look
  obtain ⟨mB, J2, _⟩ := ins_get I.hok hb2
  obtain ⟨od2, J2, _⟩ := J2.look
  obtain ⟨hox, hoc, _⟩ := J
  obtain ⟨hoy, hoyc, _⟩ := J2
  obtain ⟨nm, q, N, bs, hdct, sn, sub, ab, col, dd, k0, k1, k2, k3, k5, newId, hC, hN, he, hne⟩ := E.cls
  obtain ⟨of, hfo, hfc⟩ := E.obj
  have KX := I.kIn
  have hns := Heap.Ns.of_isNs (PySem.W.isNs_of_in KX hN)
  have Y : s.heap.OwnEqNoNe pa C f "object" [.type "object"] :=
    ⟨_, of, nm, q, N, bs, hdct, sn, sub, ab, col, dd, k0, k1, k2, k3, k5, newId, _, _, hox, hoc, KX _ _ hC, hns, ns_at KX hns he, KX _ _ hfo, hfc, PySem.F.mro_object, PySem.F.cmp_object.eq.lookup, PySem.W.ns_none_of KX hns hne⟩
  have hu := hr.units0
  obtain ⟨hh, g, dr, tk, os⟩ := s
  refine compareOp_ne_ownEq PySem.F.cmp_object Y hoy hoyc (by have := hr.un; omega) ?_
  exact run_bool (A := X.A.in1) (Q := fun b H1 => Q (.bl (!b)) H1) I rfl F hr.in1 hb (.cons (show RelV (.ref pa) (.ref pa) from rfl) (.cons (show RelV (.ref pb) (.ref pb) from rfl) .nil)) hsp fun b s' H' I' q => ⟨b, rfl, ⟨.bl (!b), H', I', rfl, q⟩⟩
/-- x in o, o of an own class -/
theorem op_inO (hs : PySem.W.findIn X.K (.ref C) "__contains__" = some (some (.ref f))) (hf : PySem.W.isFn X.K (.ref f) = true) (F : FnOk X.prog X.w X.K X.mg X.base CX0 k f fd ps sp) (hr : Room k X.A) (hb : Binds X.K fd ps []) :
    OpR X (compareOp .In) (fun x y H Q => ∃ pa dx fs, y = .ref pa ∧ H pa = some (.ins C dx fs) ∧ sp [y, x] H (bk fun b H1 => Q (.bl b) H1) E0) := by
  intro pins s σ H x y u v Q I rx ry h
  obtain ⟨pa, dx, fs, rfl, ha, hsp⟩ := h
  cases ry
  obtain ⟨mA, J, _⟩ := ins_get I.hok ha
  obtain ⟨od, J, _⟩ := J.look
  obtain ⟨m, hF⟩ := I.fr
  exact PySem.W.in_K hF I.ok.mod.kin J hs hf (run_bool (Q := fun b H1 => Q (.bl b) H1) I rfl F hr hb (.cons (show RelV (.ref pa) (.ref pa) from rfl) (.cons rx .nil)) hsp fun b s' H' I' q => wpAny_truthy_bool ⟨.bl b, H', I', rfl, q⟩)
/-- len(o) -/
theorem call_lenO (hs : PySem.W.findIn X.K (.ref C) "__len__" = some (some (.ref f))) (hf : PySem.W.isFn X.K (.ref f) = true) (F : FnOk X.prog X.w X.K X.mg X.base CX0 k f fd ps sp) (hr : Room (k + 1) X.A) (hb : Binds X.K fd ps []) :
    CallR X (.builtin "len") (fun xs H Q => ∃ pa dx fs, xs = [.ref pa] ∧ H pa = some (.ins C dx fs) ∧ sp xs H (fun v H1 => ∃ n : Nat, v = .int n ∧ n < 2 ^ 62 ∧ Q (.int n) H1) E0) := by
  intro pins s σ H xs us Q I r h
  obtain ⟨pa, dx, fs, rfl, ha, hsp⟩ := h
  obtain ⟨u, rfl, rx⟩ := vals1 r
  cases rx
  obtain ⟨mA, J, _⟩ := ins_get I.hok ha
  obtain ⟨od, J, _⟩ := J.look
  obtain ⟨m, hF⟩ := I.fr
  refine PySem.W.len_K hF I.ok.mod.kin J hs hf ?_
  have hz : [Value.ref pa].length = ps.length := F.len _ _ _ _ hsp
  have hb' := hb s [.ref pa] I.kIn (by rw [List.append_nil]; exact hz)
  rw [List.append_nil] at hb'
  have e := I.env0.in1
  refine wpAny_call (codeAny_mono (F.run X.A.in1 X.stack s H ⟨[.ref pa], []⟩ [.ref pa] [.ref pa] _ E0 hr.in1 e hb' (.cons rfl .nil) hsp) fun r' s' hq => ?_)
  cases r' with
  | error e => exact hq.elim
  | ok fl =>
    cases fl with
    | ret u =>
      obtain ⟨z, H1, I1, rz, n, ez, hn, q1⟩ := I.after hq
      subst ez
      obtain ⟨t, rfl⟩ := rz
      exact ⟨⟨by omega, by omega⟩, ⟨.int n, H1, I1.tok _, ⟨_, rfl⟩, q1⟩⟩
    | next => exact hq.elim
    | brk => exact hq.elim
    | cont => exact hq.elim
/-- o.p, a property -/
theorem re_prop {dx pa pp : Addr} {fs : List (Str × V)} {m : Str} {Q : VK} (ho : XV X σ H o (.ref pa)) (h1 : H pa = some (.ins C dx fs)) (hc : Cls X.K C) (hp : PropOf X.K C m pp f) (F : FnOk X.prog X.w X.K X.mg X.base CX0 k f fd ps sp) (hr : Room (k + 1) X.A) (hb : Binds X.K fd ps []) (ha : ∀ H1, Same H H1 → sp [.ref pa] H1 Q E0)
    (hab : attributeBase o m X.env (eval o X.env) = eval o X.env := by rfl) : RE X (.Attribute o m pos) σ H Q :=
  ⟨_, pe_prop re_ hc hp F hr hb .nil pass0 hab, ho H (Same.refl H) _ fun H1 s1 => ⟨pa, dx, fs, rfl, s1 _ _ h1, ha H1 s1⟩⟩
/-- C(e, ..) -/
theorem re_make {Q : VK} {dvs : List V} {dl : List Value} (Mm : Mk X.K C f) (F : FnOk X.prog X.w X.K X.mg X.base CX0 k f fd ps sp) (hr : Room (k + 1) X.A) (hm : X.mg x = some (.ref C)) (hb : Binds X.K fd ps dl) (hd : Vals dvs dl)
    (ha : RA X (e :: es) σ H fun vs H1 => ∀ y dx, H1 y = none → H1 dx = none → dx ≠ y → sp (.ref y :: (vs ++ dvs)) (upd (upd H1 dx (.own y)) y (.ins C dx [])) (fun v H2 => v = .non ∧ Q (.ref y) H2) E0) (hg : Gl X x := by rfl)
    (hdb : (x == ("__debug__" : Str)) = false := by decide) (he : starEach (e :: es) X.env = (false, eval e X.env) :: starEach es X.env := by rfl) (hpl : (backTo pos (starEach es X.env)).any (·.1) = false := by rfl) : RE X (.Call (.Name x p1) (e :: es) [] pos) σ H Q :=
  ⟨_, pe_make Mm F hr hg hm hb hd pass0 ra_ hdb he hpl, ha⟩
/-- o.f = e -/
theorem rb_fld {m : Str} {dx pa : Addr} {fs : List (Str × V)} {ap : Pos} (he : RE X e σ H fun v H1 => H1 pa = some (.ins C dx fs) ∧ fs.length < 1000 ∧ XV X σ H1 o (.ref pa) ∧ ∀ H2, Same H1 H2 → RB X rest D σ (upd H2 pa (.ins C dx (putF m v fs)))) (hc : Cls X.K C) (hn : NoAttr X.K C m) (hs : swapsWith e (some (.Attribute o m ap)) pos.line X.env = pure false := by rfl) :
    RB X (.Assign [.Attribute o m ap] e pos :: rest) D σ H :=
  ⟨_, pss_cons (ps_fld re_ re_ hs) rb_, re_mono he fun v H1 ⟨h1, hl, ho, q⟩ => ho H1 (Same.refl _) _ fun H2 s2 => ⟨pa, C, dx, fs, rfl, s2 _ _ h1, hc, hn, hl, q H2 s2⟩⟩
end
end Dl

set_option Elab.async false
set_option linter.all false
set_option maxRecDepth 100000
set_option maxHeartbeats 4000000
/-! Data layer, part 6: sets of whole numbers by a comprehension, sorted; repr of one value; sums; dicts by texts. -/
namespace Dl
open PySem PySem.Spec PyProof.Rows L2
section
variable {X : Cx}
/-- {e for t in it if ..}, e a whole number; p: the set -/
def tSetI (w : World) (wi : TI) (g : TG) (tt : TT) (te : TE) (vs : List Nat) : TE := fun σ H Q => wi σ H fun J Ha => ∀ p, Ha p = none → ∃ Z : Nat → Nat → Hp → Prop,
  (∃ k, Z 0 k (upd Ha p (SetO w p (fun _ => false) 0))) ∧ ∀ i k Hb, Z i k Hb → (J.stop i Hb ∧ Q (.ref p) Hb) ∨ (J.go i Hb ∧ ∃ Nx : Hp → Prop, (∀ Hc, Nx Hc → ∃ j, j < k ∧ Z (i + 1) j Hc) ∧
    ∀ x Hc, J.yld i Hb x Hc → g x (wipe σ vs) Hc fun τ Hd => wipe τ vs = wipe σ vs ∧ tt τ Hd fun b He =>
      if b = true then te τ He fun y Hf => ∃ (n : Int) (S : Int → Bool) (c : Nat), y = .int n ∧ Hf p = some (SetO w p S c) ∧ c + 1 < scanBound ∧ Nx (upd Hf p (SetO w p (fun j => S j || decide (j = n)) (if S n = true then c else c + 1))) else Nx He)
theorem setI_run {ps : List (Addr × Obj)} {z : Shared} {σ : L2.St} {H : Hp} {Q : VK} {elt tg iter : Expr} {ifs : List Expr} {scope : Scope} {own : List (PySem.Str × Nat)} {pos pf : Pos} {wi : TI} {g : TG} {tt : TT} {te : TE} {Qf : Value → Shared → Prop}
    (hc : X.calm = true) (hN : X.N.Nodup) (inv : Inv X ps σ H z) (hi : PI X tg iter wi) (ok : BlkOk X.N X.env.scope scope own)
    (Pg : ∀ (y : Shared) (Hy : Hp) (c : Addr) (l : List (PySem.Str × Addr)) (q : List Addr), PG (X.blk y Hy scope (compEnvC scope l c X.env) q) tg g)
    (Pt : ∀ (y : Shared) (Hy : Hp) (c : Addr) (l : List (PySem.Str × Addr)) (q : List Addr), PTs (X.blk y Hy scope (compEnvC scope l c X.env) q) ifs tt)
    (Pe : ∀ (y : Shared) (Hy : Hp) (c : Addr) (l : List (PySem.Str × Addr)) (q : List Addr), PE (X.blk y Hy scope (compEnvC scope l c X.env) q) elt te)
    (hs : ∀ x, foldedSetIterable iter X.env x = pure x) (owed : tSetI X.w wi g tt te (own.map (·.2)) σ H Q)
    (back : ∀ p c y m Hy, Inv X ps σ Hy y → Q (.ref p) Hy → y.heap.Ns c m → FpOk X ps Hy c → compPost (model X.prog X.w) X.A X.xe none Qf (.ref p) c (.ok .next) y) :
    wpAny (model X.prog X.w) X.A (comprehension (.SetComp elt [⟨tg, iter, ifs, 0⟩] scope pos) scope X.env pf (newSet (.type "set")) false (eval iter X.env) none) Qf X.xe z := by
  have cells : ∀ y ∈ scope.names, y.2 = .free → ∃ c, X.env.cells.lookup y.1 = some c := fun y hy e => (ok.free y hy e).elim (fun k => inv.ok.has _ (.inl k)) (fun k => inv.ok.has _ (.inr k))
  have names : ∀ y ∈ scope.names, y.2 = .local → scope.names.lookup y.1 = some .local := fun y hy e => by
    have u := ok.uniq y hy
    rw [e] at u
    exact u
  refine wpAny_comprehension_free (use := none) rfl hs (closure_ok cells) ok.kind names (thn (hi.run ps z σ H _ inv owed) fun _ za ha => thn ha fun _ zb hb => ?_)
  obtain ⟨it, fp, tn, J, Hb, rfl, invB, T, t0, fB, body⟩ := hb
  refine PpSet.newSet_ok (newEnv_comp ?_)
  generalize hp : zb.heap.objs.size = p
  have free : Hb p = none := invB.hok.fresh (Nat.le_of_eq hp)
  obtain ⟨Z, ⟨k0, start⟩, turn⟩ := body p free
  generalize hcz : ({ zb with heap := zb.heap.push { cls := .type "set", dict := none, data := .set #[] 0 (.fresh 0 0 (!X.w.params.followText "set-order")) } } : Shared) = zc
  have eqz : zc.heap = zb.heap.push { cls := .type "set", dict := none, data := .set #[] 0 (.fresh 0 0 (!X.w.params.followText "set-order")) } := by rw [← hcz]
  generalize hHc : upd Hb p (SetO X.w p (fun _ => false) 0) = Hc at start
  have invC : Inv X ps σ Hc zc := by
    subst hHc
    subst hcz
    refine invB.laid (t' := zb.toks) (fun _ _ e => Heap.get?_push_of_some _ e) (Nat.le_of_eq hp) ?_
    subst hp
    exact setO_new (setR_fresh X.w)
  have inB : ∀ b ∈ fp, b < zb.heap.objs.size := fun b hb => let ⟨_, e, _⟩ := T.obj _ _ t0 b hb; Heap.lt_size e
  have fC : ∀ b ∈ fp, FpOk X ps Hc b ∧ b < zc.heap.objs.size := fun b hb => by
    have lt := inB b hb
    have ne : b ≠ p := by rw [← hp]; exact Nat.ne_of_lt lt
    have e : Hc b = none := by rw [← hHc, upd_ne ne]; exact (fB b hb).1
    exact ⟨⟨e, (fB b hb).2⟩, by rw [eqz, Heap.size_push]; exact Nat.lt_succ_of_lt lt⟩
  have t1 : tn 0 zc.heap := T.keep _ _ _ t0 fun _ _ _ e => by rw [eqz]; exact Heap.get?_push_of_some _ e
  have invD := block_start invC ok hN fC
  have rg := Pg zc Hc zc.heap.objs.size (cellsFrom (zc.heap.objs.size + 1) scope.names (cloFrom X.env.cells scope.names [])) fp
  have rt := Pt zc Hc zc.heap.objs.size (cellsFrom (zc.heap.objs.size + 1) scope.names (cloFrom X.env.cells scope.names [])) fp
  have re := Pe zc Hc zc.heap.objs.size (cellsFrom (zc.heap.objs.size + 1) scope.names (cloFrom X.env.cells scope.names [])) fp
  show codeAny _ _ (.compStart (.SetComp elt [⟨tg, iter, ifs, 0⟩] scope pos) 0 (.ref it) (.ref p) (compEnvC scope (cellsFrom (zc.heap.objs.size + 1) scope.names (cloFrom X.env.cells scope.names [])) zc.heap.objs.size X.env))
    (compPost (model X.prog X.w) X.A X.xe none Qf (.ref p) zc.heap.objs.size) { zc with heap := pushCells (zc.heap.push { cls := .type "dict", data := .dict #[] }) scope.names }
  have none0 : ∀ b ∈ fp, Hc b = none := fun b hb => (fC b hb).1.1
  generalize hen : compEnvC scope (cellsFrom (zc.heap.objs.size + 1) scope.names (cloFrom X.env.cells scope.names [])) zc.heap.objs.size X.env = en at invD rg rt re ⊢
  have enl : en.locals = zc.heap.objs.size := by subst hen; rfl
  generalize hzd : ({ zc with heap := pushCells (zc.heap.push { cls := .type "dict", data := .dict #[] }) scope.names } : Shared) = zd at invD ⊢
  have t2 : tn 0 zd.heap := T.keep _ _ _ t1 fun _ _ _ e => by rw [← hzd]; exact pushCells_keeps _ _ _ _ (Heap.get?_push_of_some _ e)
  have still : ∀ {τ : L2.St} {Hx : Hp} {zx : Shared}, Inv (X.blk zc Hc scope en fp) [] τ Hx zx → (∀ b ∈ fp, Hx b = none) → ∀ b ∈ fp, FpOk (X.blk zc Hc scope en fp) [] Hx b := fun i n b hb =>
    ⟨n b hb, (i.ok.exf b hb).1, i.ok.exfs b hb, .inl hb, fun x c e => (i.ok.exf b hb).2 x c e, fun q hq => by
      have hq : q ∈ ([] : List (Addr × Obj)) ++ [] := hq
      simp at hq⟩
  have laps : codeAny (model X.prog X.w) X.A (.compLoop (.SetComp elt [⟨tg, iter, ifs, 0⟩] scope pos) 0 (.ref it) (.ref p) en) (compPost (model X.prog X.w) X.A X.xe none Qf (.ref p) zc.heap.objs.size) zd := by
    refine PpSet.compLoopS_any (fun k zx => ∃ i Hx, Inv (X.blk zc Hc scope en fp) [] (wipe σ (own.map (·.2))) Hx zx ∧ tn i zx.heap ∧ (∀ b ∈ fp, Hx b = none) ∧ Z i k Hx) (fun k zx hx => ?_) k0 ⟨0, Hc, invD, t2, none0, start⟩
    obtain ⟨i, Hx, ix, tx, nx, zk⟩ := hx
    rcases turn i k Hx zk with ⟨st, done⟩ | ⟨go, Nx, toN, step⟩
    · refine thnF (T.done (X.blk zc Hc scope en fp) rfl rfl rfl hc i [] zx _ Hx (fun _ _ => False) ix (still ix nx) tx st) fun r zy hy => ?_
      obtain ⟨rfl, iy⟩ := hy
      have iz : Inv X ps σ Hx zy := invC.call' (ch := fp) iy.os iy.base iy.hok iy.bare fun b hb => ⟨(fC b hb).1.2.2.2.1, (fC b hb).1.2.1, (fC b hb).1.2.2.2.2.1, (fC b hb).1.2.2.2.2.2⟩
      have nC : Hx zc.heap.objs.size = none := by
        have q : Hx en.locals = none := iy.free
        rwa [enl] at q
      obtain ⟨m, hm, _⟩ := iy.loc
      have hm : zy.heap.Ns en.locals m := hm
      rw [enl] at hm
      exact back p _ zy m Hx iz done hm (invC.fpOk (Nat.le_refl _) nC)
    · refine thnF (T.item (X.blk zc Hc scope en fp) rfl rfl rfl hc i [] zx _ Hx (fun _ _ => False) ix (still ix nx) tx go) fun r zy hy => ?_
      obtain ⟨u, rfl, hy⟩ := hy
      refine thnF hy fun _ zz hz => ?_
      obtain ⟨x, Hz, iz, rz, yz, tz, nz⟩ := hz
      refine thnF (rg.run _ zz _ Hz x u _ (iz.pinned (still iz nz) (T.obj _ _ tz)) rz (step x Hz yz)) fun _ z1 h1 => ?_
      obtain ⟨τ, H1, i1, w1, q1⟩ := h1
      refine thnF (rt.run _ z1 τ H1 _ i1 q1) fun b z2 h2 => ?_
      obtain ⟨H2, i2, q2⟩ := h2
      have fin : ∀ {zf : Shared} {Hf : Hp}, Inv (X.blk zc Hc scope en fp) ([] ++ pinsAt fp zz.heap) τ Hf zf → Nx Hf → ∃ j, j < k ∧ ∃ i Hx, Inv (X.blk zc Hc scope en fp) [] (wipe σ (own.map (·.2))) Hx zf ∧ tn i zf.heap ∧ (∀ b ∈ fp, Hx b = none) ∧ Z i j Hx := fun {zf Hf} i' n' => by
        obtain ⟨j, hj, zj⟩ := toN Hf n'
        have kept : ∀ b ∈ fp, ∀ o, zz.heap.get? b = some o → zf.heap.get? b = some o ∧ Hf b = none := fun b hb o e => by
          have q := i'.pin (b, o) (List.mem_append_right _ (List.mem_append_right _ (mem_pinsAt hb e)))
          exact ⟨q.1, q.2.1⟩
        have len : (wipe σ (own.map (·.2))).length = τ.length := by rw [← w1, wipe_length]
        refine ⟨j, hj, i + 1, Hf, (i'.unpinned (pins := [])).weak len (fun a v e => by rw [← w1] at e; exact (wipe_some e).1), T.keep _ _ _ tz fun b hb o e => (kept b hb o e).1, fun b hb => ?_, zj⟩
        obtain ⟨o, e, _⟩ := T.obj _ _ tz b hb
        exact (kept b hb o e).2
      cases b with
      | false =>
        rw [if_neg Bool.false_ne_true] at q2 ⊢
        exact fin i2 q2
      | true =>
        rw [if_pos rfl] at q2 ⊢
        refine thnF (re.run _ z2 τ H2 _ i2 q2) fun v z3 h3 => ?_
        obtain ⟨yv, H3, i3, r3, n, S, c, rfl, hD, room, nx3⟩ := h3
        have hv : ∃ t, v = Value.int n t := r3
        obtain ⟨t, rfl⟩ := hv
        exact setR_add (setO_get (X := X.blk zc Hc scope en fp) i3 hD) room fun h' sb new => by
          have ex : ∃ o, h'.get? p = some o := let ⟨o, _, _, _, ho, _⟩ := new; ⟨o, ho⟩
          exact fin (i3.write (e := p) (t' := z3.toks + 1) (by rw [hD]; trivial) (.inl rfl) (fun b o hb ho => (sb.2 b hb).trans ho) ex (setO_new new)) nx3
  exact PpSet.codeAny_compStart_set laps (T.self X.A 0 _ _ _ t2 laps)
theorem pe_setI {elt tg iter : Expr} {ifs : List Expr} {scope : Scope} {own : List (PySem.Str × Nat)} {pos : Pos} {wi : TI} {g : TG} {tt : TT} {te : TE} (hc : X.calm = true) (hN : X.N.Nodup) (hi : PI X tg iter wi) (ok : BlkOk X.N X.env.scope scope own)
    (Pg : ∀ (y : Shared) (Hy : Hp) (c : Addr) (l : List (PySem.Str × Addr)) (q : List Addr), PG (X.blk y Hy scope (compEnvC scope l c X.env) q) tg g)
    (Pt : ∀ (y : Shared) (Hy : Hp) (c : Addr) (l : List (PySem.Str × Addr)) (q : List Addr), PTs (X.blk y Hy scope (compEnvC scope l c X.env) q) ifs tt)
    (Pe : ∀ (y : Shared) (Hy : Hp) (c : Addr) (l : List (PySem.Str × Addr)) (q : List Addr), PE (X.blk y Hy scope (compEnvC scope l c X.env) q) elt te)
    (hs : ∀ x, foldedSetIterable iter X.env x = pure x) : PE X (.SetComp elt [⟨tg, iter, ifs, 0⟩] scope pos) (tSetI X.w wi g tt te (own.map (·.2))) := by
  refine ⟨fun ps z σ H Q inv h => ?_⟩
  rw [PpSet.eval_SetComp]
  refine setI_run hc hN inv hi ok Pg Pt Pe hs h fun p c y m Hy iy q hm fp => ?_
  obtain ⟨a0, a1, a2, a3, a4, a5⟩ := fp
  exact ⟨m, hm, fun _ sb => ⟨.ref p, Hy, iy.turned (t' := y.toks) (fun b o hb e => (sb.2 b hb).trans e) a0 a1 a3 a4 a5, rfl, q⟩⟩
end
end Dl

set_option Elab.async false
set_option linter.all false
set_option maxRecDepth 100000
set_option maxHeartbeats 4000000
/-! Data layer, part 7: sorted({..}), sorted, sum, repr of one value, a chain of comparisons, {..}.get(..), comprehensions over range. -/
namespace Dl
open PySem PySem.Spec PyProof.Rows L2
/-- two strictly ascending lists with the same members -/
theorem asc_eq : ∀ {xs ys : List Int}, xs.Pairwise (· < ·) → ys.Pairwise (· < ·) → (∀ k, k ∈ xs ↔ k ∈ ys) → xs = ys
  | [], [], _, _, _ => rfl
  | [], y :: ys, _, _, h => by have := (h y).mpr (List.mem_cons_self ..); simp at this
  | x :: xs, [], _, _, h => by have := (h x).mp (List.mem_cons_self ..); simp at this
  | x :: xs, y :: ys, hx, hy, h => by
    obtain ⟨hx1, hx2⟩ := List.pairwise_cons.mp hx
    obtain ⟨hy1, hy2⟩ := List.pairwise_cons.mp hy
    have e : x = y := by
      have a := (h x).mp (List.mem_cons_self ..)
      have b := (h y).mpr (List.mem_cons_self ..)
      rcases List.mem_cons.mp a with a | a
      · exact a
      · rcases List.mem_cons.mp b with b | b
        · exact b.symm
        · have := hx1 y b; have := hy1 x a; omega
    subst e
    rw [asc_eq hx2 hy2 fun k => ?_]
    constructor
    · intro q
      rcases List.mem_cons.mp ((h k).mp (List.mem_cons_of_mem _ q)) with z | z
      · have := hx1 k q; omega
      · exact z
    · intro q
      rcases List.mem_cons.mp ((h k).mpr (List.mem_cons_of_mem _ q)) with z | z
      · have := hy1 k q; omega
      · exact z
theorem asc_of_le : ∀ {xs : List Int}, xs.Pairwise (· ≤ ·) → xs.Nodup → xs.Pairwise (· < ·)
  | [], _, _ => .nil
  | x :: xs, h, n => by
    obtain ⟨h1, h2⟩ := List.pairwise_cons.mp h
    obtain ⟨n1, n2⟩ := List.nodup_cons.mp n
    refine List.pairwise_cons.mpr ⟨fun y hy => ?_, asc_of_le h2 n2⟩
    have := h1 y hy
    have : x ≠ y := fun z => n1 (z ▸ hy)
    omega
theorem ints_dq {K : PySem.W.Frag} {H : Hp} : ∀ ns : List Int, DqAll K H (ns.map V.int) (ns.map PyData.int)
  | [] => .nil
  | n :: ns => .cons (.int n) (ints_dq ns)
theorem ints_v {K : PySem.W.Frag} {H : Hp} : ∀ {ns : List Int} {xs : List V}, DqAll K H xs (ns.map PyData.int) → xs = ns.map V.int
  | [], _, h => by cases h; rfl
  | n :: ns, _, h => by
    cases h with
    | cons a b => rw [dp_int a, ints_v b]; rfl
section
variable {X : Cx} {M : List Addr} {σ : L2.St} {H H' : Hp} {e a b c o elt tg iter : Expr} {ifs : List Expr} {scope : Scope} {own : List (Str × Nat)} {es : List Expr} {d d1 d2 : PyData} {ds ds2 : List PyData} {x : Str} {v : V} {pos p1 p2 p3 : Pos}
theorem set_list {w : World} {K : PySem.W.Frag} {a : Addr} {xs : List V} {g : TG} {tt : TT} {te : TE} {vs : List Nat} {Ha : Hp} {p : Addr} {Qd : Hp → Prop} (Pv : Nat → Hp → Prop) (h0 : Pv 0 (upd Ha p (SetO w p (fun _ => false) 0)))
    (hl : ∀ i Hb, i ≤ xs.length → Pv i Hb → SqL K Hb a xs)
    (hs : ∀ i x Hc, xs[i]? = some x → Pv i Hc → g x (wipe σ vs) Hc fun τ Hd => wipe τ vs = wipe σ vs ∧ tt τ Hd fun b He =>
      if b = true then te τ He fun y Hf => ∃ (n : Int) (S : Int → Bool) (c : Nat), y = .int n ∧ Hf p = some (SetO w p S c) ∧ c + 1 < scanBound ∧ Pv (i + 1) (upd Hf p (SetO w p (fun j => S j || decide (j = n)) (if S n = true then c else c + 1))) else Pv (i + 1) He)
    (hd : ∀ Hb, Pv xs.length Hb → Qd Hb) :
    ∃ Z : Nat → Nat → Hp → Prop, (∃ k, Z 0 k (upd Ha p (SetO w p (fun _ => false) 0))) ∧ ∀ i k Hb, Z i k Hb → ((Itl K a).stop i Hb ∧ Qd Hb) ∨ ((Itl K a).go i Hb ∧ ∃ Nx : Hp → Prop, (∀ Hc, Nx Hc → ∃ j, j < k ∧ Z (i + 1) j Hc) ∧
      ∀ x Hc, (Itl K a).yld i Hb x Hc → g x (wipe σ vs) Hc fun τ Hd => wipe τ vs = wipe σ vs ∧ tt τ Hd fun b He =>
        if b = true then te τ He fun y Hf => ∃ (n : Int) (S : Int → Bool) (c : Nat), y = .int n ∧ Hf p = some (SetO w p S c) ∧ c + 1 < scanBound ∧ Nx (upd Hf p (SetO w p (fun j => S j || decide (j = n)) (if S n = true then c else c + 1))) else Nx He) := by
  refine ⟨fun i k Hb => k + i = xs.length ∧ Pv i Hb, ⟨xs.length, rfl, h0⟩, fun i k Hb hz => ?_⟩
  obtain ⟨hk, hp⟩ := hz
  have here := hl i Hb (by omega) hp
  cases e : xs[i]? with
  | none =>
    have hge : xs.length ≤ i := List.getElem?_eq_none_iff.mp e
    have ei : i = xs.length := by omega
    subst ei
    exact .inl ⟨⟨xs, here, hge⟩, hd Hb hp⟩
  | some x0 =>
    have hlt := (List.getElem?_eq_some_iff.mp e).1
    refine .inr ⟨⟨xs, x0, here, e⟩, Pv (i + 1), fun Hc hc => ⟨k - 1, by omega, by omega, hc⟩, fun x Hc hy => ?_⟩
    obtain ⟨rfl, hy⟩ := hy
    exact hs i x _ (hy xs here) hp
/-- sorted({elt for tg in iter if ..}) -/
theorem xl_sortedSet (f : PyData → Option Int) (ns : List Int) (hm : X.mg "sorted" = none) (L : Live M H) (hN : X.N.Nodup) (hit : XD X M σ H iter (.list ds)) (ok : BlkOk X.N X.env.scope scope own) (hz : ds.length ≤ 60)
    (hst : ∀ p d v H1, d ∈ ds → H p = none → Same H H1 → Live (p :: M) H1 → Dq X.K (hid (p :: M) H1) v d → BG X scope tg v (wipe σ (own.map (·.2))) H1 fun τ H2 => wipe τ (own.map (·.2)) = wipe σ (own.map (·.2)) ∧ BT X scope ifs τ H2 fun k H3 =>
      Same H1 H3 ∧ ((k = true ∧ ∃ n, f d = some n ∧ BE X scope elt τ H3 fun y H4 => Same H3 H4 ∧ y = .int n) ∨ (k = false ∧ f d = none)))
    (hasc : ns.Pairwise (· < ·)) (hmem : ∀ k, k ∈ ns ↔ ∃ d ∈ ds, f d = some k) (hc : X.calm = true := by rfl) (hs : ∀ x, foldedSetIterable iter X.env x = pure x := by intro _; rfl) (hg : Gl X "sorted" := by rfl)
    (he : starEach [.SetComp elt [⟨tg, iter, ifs, 0⟩] scope pos] X.env = (false, eval (.SetComp elt [⟨tg, iter, ifs, 0⟩] scope pos) X.env) :: starEach [] X.env := by rfl) (hpl : (backTo p2 (starEach [] X.env)).any (·.1) = false := by rfl) :
    XL X M σ H (.Call (.Name "sorted" p1) [.SetComp elt [⟨tg, iter, ifs, 0⟩] scope pos] [] p2) (ns.map PyData.int) := fun H1 s1 Q q => by
  refine re_B (cr_sortedSet hc) (ra_1 ⟨_, pe_setI (own := own) hc hN (pi_list re_) ok (fun _ _ _ _ _ => bg_) (fun _ _ _ _ _ => bt_) (fun _ _ _ _ _ => be_) hs, hit H1 s1 _ fun v H2 s2 hv => ?_⟩ he) hm (by decide +kernel) hg (by decide) (by decide) he hpl
  obtain ⟨a, xs, rfl, ha, hx⟩ := dp_lst hv
  have L2' : Live M H2 := L.mono (s1.trans s2)
  refine ⟨a, rfl, ⟨xs, SqL.of (hid_le _ _ ha)⟩, fun p hp => ?_⟩
  have hp0 : H p = none := (s1.trans s2).free hp
  refine set_list (xs := xs) (a := a) (fun i H' => Same H2 H' ∧ ∃ S c, H' p = some (SetO X.w p S c) ∧ c ≤ i ∧ ∀ k, S k = true ↔ ∃ d ∈ ds.take i, f d = some k)
    ⟨same_new hp, fun _ => false, 0, upd_same, Nat.le_refl _, fun k => by simp⟩ (fun i H' _ z => SqL.of (z.1 _ _ (hid_le _ _ ha))) (fun i x H' hi z => ?_) (fun H' z => ?_)
  · obtain ⟨sH, S, n, hS, hn, hk⟩ := z
    obtain ⟨d, hd1, hd2⟩ := dpa_get' hx hi
    have hdm : d ∈ ds := List.mem_of_getElem? hd1
    have hi60 : i < 60 := by have := (List.getElem?_eq_some_iff.mp hd1).1; omega
    have etake : ds.take (i + 1) = ds.take i ++ [d] := by rw [List.take_add_one, hd1]; rfl
    have Lp : Live (p :: M) H' := fun b hb => by
      rcases List.mem_cons.mp hb with z | hb
      · subst z; rw [hS]; simp
      · exact L2'.mono sH b hb
    refine bg_mono (hst p d x H' hdm hp0 ((s1.trans s2).trans sH) Lp (hd2.up (hid_step hp sH))) fun τ Ha ⟨hw, hbt⟩ => ⟨hw, bt_mono hbt fun k Hb ⟨sb, hk'⟩ => ?_⟩
    rcases hk' with ⟨hk1, m, hf, hbe⟩ | ⟨hk1, hf⟩
    · subst hk1
      refine iteT (be_mono hbe fun y Hc ⟨sc, hy⟩ => ?_)
      have sd := sb.trans sc
      refine ⟨m, S, n, hy, sd _ _ hS, Nat.lt_of_lt_of_le (by omega : n + 1 < 4096) (Nat.le_refl _), fun b o e => ?_, fun j => S j || decide (j = m), (if S m = true then n else n + 1), upd_same, by split <;> omega, fun j => ?_⟩
      · rw [upd_ne (ne_of_none e hp)]
        exact sd _ _ (sH _ _ e)
      · rw [Bool.or_eq_true, decide_eq_true_eq, hk j, etake]
        constructor
        · rintro (⟨d', h1, h2⟩ | h)
          · exact ⟨d', List.mem_append_left _ h1, h2⟩
          · exact ⟨d, List.mem_append_right _ (List.mem_singleton.mpr rfl), by rw [hf, h]⟩
        · rintro ⟨d', h1, h2⟩
          rcases List.mem_append.mp h1 with h1 | h1
          · exact .inl ⟨d', h1, h2⟩
          · rw [List.mem_singleton.mp h1, hf] at h2
            exact .inr (Option.some.inj h2).symm
    · subst hk1
      refine iteF ⟨sH.trans sb, S, n, sb _ _ hS, by omega, fun j => ?_⟩
      rw [hk j, etake]
      constructor
      · rintro ⟨d', h1, h2⟩
        exact ⟨d', List.mem_append_left _ h1, h2⟩
      · rintro ⟨d', h1, h2⟩
        rcases List.mem_append.mp h1 with h1 | h1
        · exact ⟨d', h1, h2⟩
        · rw [List.mem_singleton.mp h1, hf] at h2
          cases h2
  · obtain ⟨sH, S, n, hS, hn, hk⟩ := z
    have hlen := dpa_len hx
    rw [hlen, List.take_length] at hk
    refine ⟨p, S, n, rfl, hS, by omega, fun ks l h1 h2 _ hl => ?_⟩
    have e : ks = ns := asc_eq h1 hasc fun k => (h2 k).trans ((hk k).trans (hmem k).symm)
    subst e
    refine q l _ _ ((s2.trans sH).trans (same_new hl)) ((s2.trans sH).free hl) upd_same ?_
    rw [hid_new (L2'.mono sH) hl]
    exact ints_dq ks
/-- sorted(l), l a list of different whole numbers -/
theorem xl_sortedI {ms : List Int} (ns : List Int) (hm : X.mg "sorted" = none) (L : Live M H) (ha : XD X M σ H e (.list (ms.map PyData.int))) (hz : ms.length < 64) (hnd : ms.Nodup) (hasc : ns.Pairwise (· < ·)) (hmem : ∀ k, k ∈ ns ↔ k ∈ ms) (hg : Gl X "sorted" := by rfl)
    (he : starEach [e] X.env = (false, eval e X.env) :: starEach [] X.env := by rfl) (hpl : (backTo p2 (starEach [] X.env)).any (·.1) = false := by rfl) : XL X M σ H (.Call (.Name "sorted" p1) [e] [] p2) (ns.map PyData.int) := fun H1 s1 Q q =>
  re_B cr_sorted (ra_1 (ha H1 s1 _ fun v H2 s2 hv => by
    obtain ⟨a, xs, rfl, ha, hx⟩ := dp_lst hv
    have ex := ints_v hx
    subst ex
    refine ⟨a, ms, rfl, SqL.of (hid_le _ _ ha), hz, fun ks l h1 h2 hl => ?_⟩
    have e : ks = ns := asc_eq (asc_of_le h2 (h1.nodup_iff.mpr hnd)) hasc fun k => h1.mem_iff.trans (hmem k).symm
    subst e
    refine q l _ _ (s2.trans (same_new hl)) (s2.free hl) upd_same ?_
    rw [hid_new (L.mono (s1.trans s2)) hl]
    exact ints_dq ks) he) hm (by decide +kernel) hg (by decide) (by decide) he hpl
/-- sum(l) -/
theorem xd_sum {ns : List Int} (hm : X.mg "sum" = none) (ha : XD X M σ H e (.list (ns.map PyData.int))) (hc : X.calm = true := by rfl) (hg : Gl X "sum" := by rfl)
    (he : starEach [e] X.env = (false, eval e X.env) :: starEach [] X.env := by rfl) (hpl : (backTo p2 (starEach [] X.env)).any (·.1) = false := by rfl) : XD X M σ H (.Call (.Name "sum" p1) [e] [] p2) (.int ns.sum) := fun H1 s1 Q q =>
  re_B (cr_sum hc) (ra_1 (ha H1 s1 _ fun v H2 s2 hv => by
    obtain ⟨a, xs, rfl, ha, hx⟩ := dp_lst hv
    have ex := ints_v hx
    subst ex
    exact ⟨a, ns, rfl, SqL.of (hid_le _ _ ha), q _ H2 s2 (.int _)⟩) he) hm (by decide +kernel) hg (by decide) (by decide) he hpl
/-! ### repr of one value -/
/-- a whole number of few digits, or None -/
def Plain (d : PyData) : Prop := d = .none ∨ ∃ i : Int, d = .int i ∧ i.natAbs.log2 < 1920
def txt : PyData → Str
  | .int i => Str.ofString (toString i)
  | _ => "None"
theorem call_reprN : CallR X (.builtin "repr") (fun xs H Q => xs = [.non] ∧ Q (.str "None") H) := by
  intro pins s σ H xs us Q I r h
  obtain ⟨rfl, q⟩ := h
  obtain ⟨u, rfl, rx⟩ := vals1 r
  cases rx
  exact PySem.P.repr_of_none ⟨.str _, H, I.tok _, ⟨_, rfl⟩, q⟩
theorem xd_reprP (hm : X.mg "repr" = none) (h : Plain d) (ha : XD X M σ H e d) (hg : Gl X "repr" := by rfl)
    (he : starEach [e] X.env = (false, eval e X.env) :: starEach [] X.env := by rfl) (hpl : (backTo p2 (starEach [] X.env)).any (·.1) = false := by rfl) : XD X M σ H (.Call (.Name "repr" p1) [e] [] p2) (.str (txt d)) := fun H1 s1 Q q => by
  rcases h with rfl | ⟨i, rfl, hi⟩
  · exact re_B call_reprN (ra_1 (ha H1 s1 _ fun v H2 s2 hv => ⟨by rw [dp_non hv], q _ H2 s2 (.str _)⟩) he) hm (by decide +kernel) hg (by decide) (by decide) he hpl
  · exact re_B SkE.call_repr_int (ra_1 (ha H1 s1 _ fun v H2 s2 hv => ⟨i, by rw [dp_int hv], hi, q _ H2 s2 (.str _)⟩) he) hm (by decide +kernel) hg (by decide) (by decide) he hpl
theorem xt_reprNeP {pa pb : Pos} (hm : X.mg "repr" = none) (h : Plain d) (ha : XD X M σ H a d) (hb : XD X M σ H b d) (hg : Gl X "repr" := by rfl)
    (he : starEach [a] X.env = (false, eval a X.env) :: starEach [] X.env := by rfl) (hpl : (backTo pa (starEach [] X.env)).any (·.1) = false := by rfl) (he2 : starEach [b] X.env = (false, eval b X.env) :: starEach [] X.env := by rfl) (hpl2 : (backTo pb (starEach [] X.env)).any (·.1) = false := by rfl) :
    XT X σ H (.Compare (.Call (.Name "repr" p1) [a] [] pa) [.NotEq] [.Call (.Name "repr" p2) [b] [] pb] pos) false :=
  xt_cmp op_ne (xd_reprP hm h ha hg he hpl) (xd_reprP hm h hb hg he2 hpl2) fun H1 v w s hv hw Q q => by
    rw [dp_str hv, dp_str hw]
    exact ⟨rfl, by rw [decide_eq_true rfl]; exact q H1 (Same.refl _)⟩
/-! ### l <= x < h -/
theorem xt_chainI {op op' : CmpOp} {g g' : Int → Int → Bool} {l m n : Int} (ho : OpR X (compareOp op) (rI0 fun i j => .bl (g i j))) (ho' : OpR X (compareOp op') (rI0 fun i j => .bl (g' i j))) (ha : XD X M σ H a (.int l)) (hb : XD X M σ H b (.int m)) (hc : XD X M σ H c (.int n))
    (hm : lastMarks [op, op'] [b, c] = false := by with_unfolding_all rfl) : XT X σ H (.Compare a [op, op'] [b, c] pos) (g l m && g' m n) := fun H1 s Q q =>
  ⟨_, pt_chain ho ho' re_ re_ re_ hm, ha H1 s _ fun v H2 s2 hv => hb H2 (s.trans s2) _ fun u H3 s3 hu => ⟨l, m, dp_int hv, dp_int hu, g l m, rfl, by
    cases e : g l m with
    | false =>
      rw [e] at q
      exact iteF ⟨false, rfl, q H3 (s2.trans s3)⟩
    | true =>
      rw [e] at q
      exact iteT (hc H3 ((s.trans s2).trans s3) _ fun y H4 s4 hy => ⟨m, n, dp_int hu, dp_int hy, g' m n, rfl, q H4 ((s2.trans s3).trans s4)⟩)⟩⟩
/-! ### {k1: a, k2: b}.get(c) -/
theorem xd_get2 {k1 k2 k : Str} {i1 i2 : Int} {j1 j2 : _} {q1 q2 : Pos} (hu : X.A.units + 1 < cLine) (ha : XD X M σ H a (.int i1)) (hb : XD X M σ H b (.int i2)) (hk : XD X M σ H c (.str k)) (hne : k1 ≠ k2)
    (mm : M1 X (.Dict [some (.Constant (.str k1) j1 q1), some (.Constant (.str k2) j2 q2)] [a, b] pos) "get" p1 c p2) :
    XD X M σ H (.Call (.Attribute (.Dict [some (.Constant (.str k1) j1 q1), some (.Constant (.str k2) j2 q2)] [a, b] pos) "get" p1) [c] [] p2) (if k = k1 then .int i1 else if k = k2 then .int i2 else .none) := fun H1 s1 Q q =>
  ⟨_, pe_dget1 hu (pe_disp (pps_cons pe_str re_ (pps_cons pe_str re_ pps_nil)) rfl rfl (by simp) (by simp)) re_ mm, fun p hp => ha _ (s1.trans (same_new hp)) _ fun v H2 s2 hv => hb H2 ((s1.trans (same_new hp)).trans s2) _ fun u H3 s3 hu => by
    have s13 : Same H1 H3 := ((same_new hp).trans s2).trans s3
    have h3p : H3 p = some (.dK []) := s3 _ _ (s2 _ _ upd_same)
    refine ⟨h3p, [(.inr k1, .int i1), (.inr k2, .int i2)], by rw [dp_int hv, dp_int hu]; rfl, by simp, p, rfl, .inl ⟨_, .inl upd_same⟩, ?_⟩
    have sx : Same H1 (upd H3 p (.dK (mergeK [] [(.inr k1, .int i1), (.inr k2, .int i2)]))) := fun b o e => by
      rw [upd_ne (ne_of_none e hp)]
      exact s13 b o e
    refine hk _ (s1.trans sx) _ fun y H4 s4 hy => ?_
    rw [dp_str hy]
    have e : mergeK [] [((Sum.inr k1 : L2.Key), V.int i1), (.inr k2, .int i2)] = [(.inr k1, .int i1), (.inr k2, .int i2)] := by
      have n : (Sum.inr k1 : L2.Key) ≠ .inr k2 := fun z => hne (Sum.inr.inj z)
      show putK (putK [] (Sum.inr k1 : L2.Key) (V.int i1)) (.inr k2) (.int i2) = _
      have e1 : putK [] (Sum.inr k1 : L2.Key) (V.int i1) = [(.inr k1, .int i1)] := rfl
      rw [e1]
      unfold putK
      rw [if_neg (by simp [hne])]
      rfl
    rw [e] at s4
    refine ⟨_, DGet.k (k := .inr k) (s4 _ _ upd_same), q _ H4 ?_ ?_⟩
    · rw [e] at sx; exact sx.trans s4
    · by_cases h1 : k = k1
      · subst h1
        rw [valV_pos rfl, if_pos rfl]
        exact .int _
      · rw [valV_neg (fun z => h1 (Sum.inr.inj z).symm), if_neg h1]
        by_cases h2 : k = k2
        · subst h2
          rw [valV_pos rfl, if_pos rfl]
          exact .int _
        · rw [valV_neg (fun z => h2 (Sum.inr.inj z).symm), if_neg h2, valV_nil]
          exact .non⟩
/-! ### [.. for x in range(a, b)], whole numbers -/
theorem xl_range2 {lo hi : Int} (g : Int → Int) (hm : X.mg "range" = none) (L : Live M H) (hN : X.N.Nodup) (ha : XD X M σ H a (.int lo)) (hb : XD X M σ H b (.int hi)) (ok : BlkOk X.N X.env.scope scope own) (hz : (-(1000 : Int) ≤ lo ∧ lo ≤ 1000) ∧ (-(1000 : Int) ≤ hi ∧ hi ≤ 1000))
    (hst : ∀ i H1, Same H H1 → BG X scope tg (.int i) (wipe σ (own.map (·.2))) H1 fun τ H2 => wipe τ (own.map (·.2)) = wipe σ (own.map (·.2)) ∧ Same H1 H2 ∧ BE X scope elt τ H2 fun y H3 => Same H2 H3 ∧ y = .int (g i))
    (hc : X.calm = true := by rfl) (hs : ∀ x, foldedSetIterable (.Call (.Name "range" p1) [a, b] [] p2) X.env x = pure x := by intro _; rfl) (hg : Gl X "range" := by rfl)
    (he : starEach [a, b] X.env = (false, eval a X.env) :: starEach [b] X.env := by rfl) (he2 : starEach [b] X.env = (false, eval b X.env) :: starEach [] X.env := by rfl)
    (he3 : starEach [b] X.env = [(false, eval b X.env)] := by rfl) : XL X M σ H (.ListComp elt [⟨tg, .Call (.Name "range" p1) [a, b] [] p2, [], 0⟩] scope pos) ((List.range (hi - lo).toNat).map fun i : Nat => PyData.int (g (lo + i))) := fun H1 s1 Q q =>
  ⟨_, pe_lc (own := own) hc hN (pi_range2 hg hm ra_ (by rw [he, he3]) he3) ok (fun _ _ _ _ _ => bg_) (fun _ _ _ _ _ => bt_) (fun _ _ _ _ _ => be_) hs, ra_cons (ha H1 s1 _ fun v H2 s2 hv => ra_1 (hb H2 (s1.trans s2) _ fun u H3 s3 hu => by
    have b1 : (1000 : Int) < 2 ^ 62 := by decide
    refine ⟨lo, hi, by rw [dp_int hv, dp_int hu], ⟨by omega, by omega, by omega, by omega⟩, fun p hp => ?_⟩
    have s13 := s2.trans s3
    have L3 := L.mono (s1.trans s13)
    refine lc_range (fun i H' => Same H3 H' ∧ ∃ acc, H' p = some (.lst acc) ∧ acc = ((List.range i).map fun i : Nat => V.int (g (lo + i)))) ⟨same_new hp, [], upd_same, rfl⟩ (fun i H' hi' z => ?_) (fun H' z => ?_)
    · obtain ⟨sH, acc, hacc, ea⟩ := z
      refine bg_mono (hst (lo + i) H' ((s1.trans s13).trans sH)) fun τ Ha ⟨hw, sa, hbe⟩ => ⟨hw, bt_nil (iteT (be_mono hbe fun y Hb ⟨sb, ey⟩ => ?_))⟩
      have sd := sa.trans sb
      refine ⟨acc, sd _ _ hacc, ?_, fun b o e => ?_, _, upd_same, ?_⟩
      · have h4 : 100000 < sizeLine := by decide
        rw [ea, List.length_map, List.length_range]
        omega
      · rw [upd_ne (ne_of_none e hp)]
        exact sd _ _ (sH _ _ e)
      · rw [ea, ey, List.range_succ, List.map_append]
        rfl
    · obtain ⟨sH, acc, hacc, ea⟩ := z
      refine q p acc H' (s13.trans sH) (s13.free hp) hacc ?_
      rw [ea]
      have e := ints_dq (K := X.K) (H := hid M H') ((List.range (hi - lo).toNat).map fun i : Nat => g (lo + i))
      rw [List.map_map, List.map_map] at e
      exact e) he2) he⟩
end
end Dl

set_option Elab.async false
set_option linter.all false
set_option maxRecDepth 100000
set_option maxHeartbeats 4000000
/-! Data layer, part 8: x = [..] on one line. -/
namespace Dl
open PySem PySem.Spec PyProof.Rows L2
section
variable {X : Cx} {M : List Addr} {σ : L2.St} {H H' : Hp} {e a b c o elt tg iter : Expr} {ifs : List Expr} {scope : Scope} {own : List (Str × Nat)} {es : List Expr} {d : PyData} {ds : List PyData} {x : Str} {v : V} {pos p0 p1 p2 p3 p4 : Pos} {D : Ends} {rest : List Stmt}
/-- a comprehension; Pv: what more is known of each item -/
theorem lc_P (f : PyData → Option PyData) (Pv : Addr → V → Hp → Prop) (mono : ∀ p v H1 H2, (∀ b o, b ≠ p → H1 b = some o → H2 b = some o) → Pv p v H1 → Pv p v H2) (L : Live M H) (hN : X.N.Nodup) (hit : XD X M σ H iter (.list ds)) (ok : BlkOk X.N X.env.scope scope own) (hz : ds.length ≤ 100000)
    (hst : ∀ p d v H1, d ∈ ds → H p = none → Same H H1 → Live (p :: M) H1 → Dq X.K (hid (p :: M) H1) v d → BG X scope tg v (wipe σ (own.map (·.2))) H1 fun σ2 H2 => wipe σ2 (own.map (·.2)) = wipe σ (own.map (·.2)) ∧ BT X scope ifs σ2 H2 fun k H3 =>
      Same H1 H3 ∧ ((k = true ∧ ∃ d', f d = some d' ∧ BE X scope elt σ2 H3 fun y H4 => Same H3 H4 ∧ Dq X.K (hid (p :: M) H4) y d' ∧ Pv p y H4) ∨ (k = false ∧ f d = none)))
    {Q : VK} (q : ∀ p xs H2, Same H H2 → H p = none → H2 p = some (.lst xs) → DqAll X.K (hid (p :: M) H2) xs (ds.filterMap f) → (∀ v ∈ xs, Pv p v H2) → Q (.ref p) H2)
    : ∃ wi, PI X tg iter wi ∧ tLc wi (BG X scope tg) (BT X scope ifs) (BE X scope elt) (own.map (·.2)) σ H Q :=
  ⟨_, pi_list re_, hit H (Same.refl H) _ fun v H2 s2 hv => by
    obtain ⟨a, xs, rfl, ha, hx⟩ := dp_lst hv
    have L2' : Live M H2 := L.mono s2
    refine ⟨a, rfl, ⟨xs, SqL.of (hid_le _ _ ha)⟩, fun p hp => ?_⟩
    have hpM : p ∉ M := L2'.fresh hp
    have hp0 : H p = none := s2.free hp
    refine lc_list (xs := xs) (a := a) (fun i H' => Same H2 H' ∧ ∃ acc, H' p = some (.lst acc) ∧ DqAll X.K (hid (p :: M) H') acc ((ds.take i).filterMap f) ∧ ∀ v ∈ acc, Pv p v H') ⟨same_new hp, [], upd_same, by simpa using DqAll.nil, fun v hv => by simp at hv⟩ (fun i H' _ w => SqL.of (w.1 _ _ (hid_le _ _ ha))) (fun i x H' hi w => ?_) (fun H' w => ?_)
    · obtain ⟨sH, acc, hacc, hda, hpv⟩ := w
      obtain ⟨d, hd1, hd2⟩ := dpa_get' hx hi
      have hdm : d ∈ ds := List.mem_of_getElem? hd1
      have etake : ds.take (i + 1) = ds.take i ++ [d] := by
        rw [List.take_add_one, hd1]; rfl
      have hlen : acc.length < sizeLine := by
        rw [dpa_len hda]
        have h1 : ((ds.take i).filterMap f).length ≤ (ds.take i).length := List.length_filterMap_le ..
        have h2 : (ds.take i).length ≤ i := by rw [List.length_take]; omega
        have h3 : i < ds.length := (List.getElem?_eq_some_iff.mp hd1).1
        have h4 : 100000 < sizeLine := by decide
        omega
      have Lp : Live (p :: M) H' := fun b hb => by
        rcases List.mem_cons.mp hb with z | hb
        · subst z; rw [hacc]; simp
        · exact L2'.mono sH b hb
      have kx : Dq X.K (hid (p :: M) H') x d := hd2.up (hid_step hp sH)
      refine bg_mono (hst p d x H' hdm hp0 (s2.trans sH) Lp kx) fun σ2 Ha ⟨hw, hbt⟩ => ⟨hw, bt_mono hbt fun k Hb ⟨sb, hk⟩ => ?_⟩
      have sH' : Same H' Hb := sb
      rcases hk with ⟨hk, d', hf, hbe⟩ | ⟨hk, hf⟩
      · subst hk
        refine iteT (be_mono hbe fun y Hc ⟨sc, hy, hpy⟩ => ?_)
        have sd := sH'.trans sc
        refine ⟨acc, sd _ _ hacc, hlen, fun b o e => ?_, acc ++ [y], upd_same, ?_, fun v hv => ?_⟩
        · have nb : b ≠ p := ne_of_none e hp
          rw [upd_ne nb]
          exact sd _ _ (sH _ _ e)
        · rw [hid_upd_ne, etake, List.filterMap_append]
          have e2 : [d].filterMap f = [d'] := by simp [hf]
          rw [e2]
          exact dpa_app (hda.up (hid_mono sd)) (.cons hy .nil)
        · rcases List.mem_append.mp hv with z | z
          · exact mono p v H' _ (fun b o nb e => by rw [upd_ne nb]; exact sd _ _ e) (hpv v z)
          · rw [List.mem_singleton.mp z]
            exact mono p y Hc _ (fun b o nb e => by rw [upd_ne nb]; exact e) hpy
      · subst hk
        refine iteF ⟨sH.trans sH', acc, sH' _ _ hacc, ?_, fun v hv => mono p v H' _ (fun b o _ e => sH' _ _ e) (hpv v hv)⟩
        rw [etake, List.filterMap_append]
        have e2 : [d].filterMap f = [] := by simp [hf]
        rw [e2, List.append_nil]
        exact hda.up (hid_mono sH')
    · obtain ⟨sH, acc, hacc, hda, hpv⟩ := w
      have e1 : ds.take xs.length = ds := by rw [dpa_len hx]; exact List.take_length
      rw [e1] at hda
      exact q p acc H' (s2.trans sH) hp0 hacc hda hpv⟩
theorem re_compP (f : PyData → Option PyData) (Pv : Addr → V → Hp → Prop) (mono : ∀ p v H1 H2, (∀ b o, b ≠ p → H1 b = some o → H2 b = some o) → Pv p v H1 → Pv p v H2) (L : Live M H) (hN : X.N.Nodup) (hit : XD X M σ H iter (.list ds)) (ok : BlkOk X.N X.env.scope scope own) (hz : ds.length ≤ 100000)
    (hst : ∀ p d v H1, d ∈ ds → H p = none → Same H H1 → Live (p :: M) H1 → Dq X.K (hid (p :: M) H1) v d → BG X scope tg v (wipe σ (own.map (·.2))) H1 fun σ2 H2 => wipe σ2 (own.map (·.2)) = wipe σ (own.map (·.2)) ∧ BT X scope ifs σ2 H2 fun k H3 =>
      Same H1 H3 ∧ ((k = true ∧ ∃ d', f d = some d' ∧ BE X scope elt σ2 H3 fun y H4 => Same H3 H4 ∧ Dq X.K (hid (p :: M) H4) y d' ∧ Pv p y H4) ∨ (k = false ∧ f d = none)))
    {Q : VK} (q : ∀ p xs H2, Same H H2 → H p = none → H2 p = some (.lst xs) → DqAll X.K (hid (p :: M) H2) xs (ds.filterMap f) → (∀ v ∈ xs, Pv p v H2) → Q (.ref p) H2)
    (hc : X.calm = true := by rfl) (hs : ∀ x, foldedSetIterable iter X.env x = pure x := by intro _; rfl) : RE X (.ListComp elt [⟨tg, iter, ifs, 0⟩] scope pos) σ H Q := by
  obtain ⟨wi, h1, h2⟩ := lc_P f Pv mono L hN hit ok hz hst q
  exact ⟨_, pe_lc (own := own) hc hN h1 ok (fun _ _ _ _ _ => bg_) (fun _ _ _ _ _ => bt_) (fun _ _ _ _ _ => be_) hs, h2⟩
/-- x = [..], on one line -/
theorem rb_setC (i : Nat) {py : Pos} {spos : Pos} (f : PyData → Option PyData) (Pv : Addr → V → Hp → Prop) (mono : ∀ p v H1 H2, (∀ b o, b ≠ p → H1 b = some o → H2 b = some o) → Pv p v H1 → Pv p v H2) (L : Live M H) (hN : X.N.Nodup) (hit : XD X M σ H iter (.list ds)) (ok : BlkOk X.N X.env.scope scope own) (hz : ds.length ≤ 100000)
    (hst : ∀ p d v H1, d ∈ ds → H p = none → Same H H1 → Live (p :: M) H1 → Dq X.K (hid (p :: M) H1) v d → BG X scope tg v (wipe σ (own.map (·.2))) H1 fun σ2 H2 => wipe σ2 (own.map (·.2)) = wipe σ (own.map (·.2)) ∧ BT X scope ifs σ2 H2 fun k H3 =>
      Same H1 H3 ∧ ((k = true ∧ ∃ d', f d = some d' ∧ BE X scope elt σ2 H3 fun y H4 => Same H3 H4 ∧ Dq X.K (hid (p :: M) H4) y d' ∧ Pv p y H4) ∨ (k = false ∧ f d = none)))
    (q : ∀ p xs H2, Same H H2 → H p = none → H2 p = some (.lst xs) → DqAll X.K (hid (p :: M) H2) xs (ds.filterMap f) → (∀ v ∈ xs, Pv p v H2) → RB X rest D (σ.set i (some (.ref p))) H2)
    (hi : X.N[i]? = some x := by rfl) (hx : X.env.scope.names.lookup x = some .local := by rfl) (hsw : swapsWith (.ListComp elt [⟨tg, iter, ifs, 0⟩] scope pos) (some (.Name x py)) spos.line X.env = pure true := by exact sw_true rfl rfl rfl rfl)
    (hc : X.calm = true := by rfl) (hs : ∀ x, foldedSetIterable iter X.env x = pure x := by intro _; rfl) : RB X (.Assign [.Name x py] (.ListComp elt [⟨tg, iter, ifs, 0⟩] scope pos) spos :: rest) D σ H := by
  obtain ⟨wi, h1, h2⟩ := lc_P (Q := fun v H1 => RB X rest D (σ.set i (some v)) H1) f Pv mono L hN hit ok hz hst q
  exact ⟨_, pss_cons (ps_setLc (own := own) hc hN hi hx hsw h1 ok (fun _ _ _ _ _ => bg_) (fun _ _ _ _ _ => bt_) (fun _ _ _ _ _ => be_) hs) rb_, h2⟩
/-- x = [..], on one line; nothing more of the items -/
theorem rb_setC0 (i : Nat) {py : Pos} {spos : Pos} (f : PyData → Option PyData) (L : Live M H) (hN : X.N.Nodup) (hit : XD X M σ H iter (.list ds)) (ok : BlkOk X.N X.env.scope scope own) (hz : ds.length ≤ 100000)
    (hst : ∀ p d v H1, d ∈ ds → H p = none → Same H H1 → Live (p :: M) H1 → Dq X.K (hid (p :: M) H1) v d → BG X scope tg v (wipe σ (own.map (·.2))) H1 fun σ2 H2 => wipe σ2 (own.map (·.2)) = wipe σ (own.map (·.2)) ∧ BT X scope ifs σ2 H2 fun k H3 =>
      Same H1 H3 ∧ ((k = true ∧ ∃ d', f d = some d' ∧ BE X scope elt σ2 H3 fun y H4 => Same H3 H4 ∧ Dq X.K (hid (p :: M) H4) y d') ∨ (k = false ∧ f d = none)))
    (q : ∀ p xs H2, Same H H2 → H p = none → H2 p = some (.lst xs) → DqAll X.K (hid M H2) xs (ds.filterMap f) → RB X rest D (σ.set i (some (.ref p))) H2)
    (hi : X.N[i]? = some x := by rfl) (hx : X.env.scope.names.lookup x = some .local := by rfl) (hsw : swapsWith (.ListComp elt [⟨tg, iter, ifs, 0⟩] scope pos) (some (.Name x py)) spos.line X.env = pure true := by exact sw_true rfl rfl rfl rfl)
    (hc : X.calm = true := by rfl) (hs : ∀ x, foldedSetIterable iter X.env x = pure x := by intro _; rfl) : RB X (.Assign [.Name x py] (.ListComp elt [⟨tg, iter, ifs, 0⟩] scope pos) spos :: rest) D σ H :=
  rb_setC i f (fun _ _ _ => True) (fun _ _ _ _ _ _ => trivial) L hN hit ok hz (fun p d v H1 hd hp s Lp hv => bg_mono (hst p d v H1 hd hp s Lp hv) fun σ2 H2 ⟨hw, hbt⟩ => ⟨hw, bt_mono hbt fun k H3 ⟨sk, hk⟩ => ⟨sk, hk.elim (fun ⟨a, d', b, c⟩ => .inl ⟨a, d', b, be_mono c fun y H4 ⟨s4, h4⟩ => ⟨s4, h4, trivial⟩⟩) .inr⟩⟩)
    (fun p xs H2 s hp h2 hx _ => q p xs H2 s hp h2 (hx.up fun b o e => by
      have n1 : b ∉ p :: M := fun z => by unfold hid at e; rw [if_pos z] at e; cases e
      rw [hid_of (fun z => n1 (List.mem_cons_of_mem _ z))]
      exact hid_le _ _ e)) hi hx hsw hc hs
end
end Dl

set_option Elab.async false
set_option linter.all false
set_option maxRecDepth 100000
set_option maxHeartbeats 8000000
/-! sorted of a list of tuples of a whole number and a text; comprehensions over range(e), any data -/
namespace Dl
open PySem PySem.Spec PyProof.Rows L2
def encIS (b : Int × Str) : PyData := .tuple [.int b.1, .str b.2]
theorem each_of {K : PySem.W.Frag} {H : Hp} : ∀ {xs : List V} {us : List Value} (bs : List (Int × Str)), Vals xs us → DqAll K H xs (bs.map encIS) → PySem.W.EachIs (fun (u : Value) b => ∃ x, RelV x u ∧ Dq K H x (encIS b)) us bs
  | _, _, [], r, h => by
    cases h
    cases r
    exact .nil
  | _, _, b :: bs, r, h => by
    cases h with
    | cons h1 h2 =>
      cases r with
      | cons r1 r2 => exact .cons ⟨_, r1, h1⟩ (each_of bs r2 h2)
theorem each_back {K : PySem.W.Frag} {H : Hp} : ∀ {us : List Value} {bs : List (Int × Str)}, PySem.W.EachIs (fun (u : Value) b => ∃ x, RelV x u ∧ Dq K H x (encIS b)) us bs → ∃ ys, Vals ys us ∧ DqAll K H ys (bs.map encIS)
  | _, _, .nil => ⟨[], .nil, .nil⟩
  | _, _, .cons ⟨x, r, d⟩ t => by
    obtain ⟨ys, h1, h2⟩ := each_back t
    exact ⟨x :: ys, .cons r h1, .cons d h2⟩
theorem perm_asc : ∀ {xs ys : List (Int × Str)}, ys.Perm xs → xs.Pairwise (fun a b => a.1 < b.1) → ys.Pairwise (fun a b => a.1 ≤ b.1) → ys = xs
  | [], ys, p, _, _ => List.Perm.eq_nil p
  | x :: xs, [], p, _, _ => absurd p.length_eq (by simp)
  | x :: xs, y :: ys, p, hx, hy => by
    obtain ⟨hx1, hx2⟩ := List.pairwise_cons.mp hx
    obtain ⟨hy1, hy2⟩ := List.pairwise_cons.mp hy
    have e : y = x := by
      rcases List.mem_cons.mp (p.mem_iff.mp (List.mem_cons_self (a := y) (l := ys))) with e | m
      · exact e
      · rcases List.mem_cons.mp (p.mem_iff.mpr (List.mem_cons_self (a := x) (l := xs))) with e | m2
        · exact e.symm
        · have a := hx1 y m
          have b := hy1 x m2
          omega
    subst e
    rw [perm_asc p.cons_inv hx2 hy2]
theorem le_first {a b : Int × Str} (h : PySem.W.dataLe false encIS a b = true) : a.1 ≤ b.1 := by
  have h' : (!PySem.W.dataLt (encIS b) (encIS a)) = true := h
  refine Classical.byContradiction fun n => ?_
  have e : PySem.W.dataLt (encIS b) (encIS a) = true := by
    show PySem.W.dataLt (.tuple [.int b.1, .str b.2]) (.tuple [.int a.1, .str a.2]) = true
    rw [PySem.W.dataLt_pair (by simp [PySem.W.alike]) (by simp [PySem.W.alike]), PySem.W.dataLt_int]
    have z : PyData.eqv (.int b.1) (.int a.1) = false := by
      simp only [PyData.eqv, beq_eq_false_iff_ne]
      omega
    rw [z, if_neg Bool.false_ne_true]
    exact decide_eq_true (by omega)
  rw [e] at h'
  cases h'
/-- sorted in this order: the ascending list of the same -/
theorem sort_is {xs ys : List (Int × Str)} (p : ys.Perm xs) (h : xs.Pairwise fun a b => a.1 < b.1) : ys.mergeSort (PySem.W.dataLe false encIS) = xs := by
  refine perm_asc ((List.mergeSort_perm _ _).trans p) h ?_
  exact (PySem.W.sort_pairwise (PySem.W.sortLe_total _ false _) ys).imp fun h => le_first h
section
variable {X : Cx} {M : List Addr} {σ : L2.St} {H : Hp} {e a elt tg : Expr} {p1 p2 pos : Pos} {scope : Scope} {own : List (Str × Nat)} {D : Ends} {rest : List Stmt} {x : Str}
theorem alike_is (b b' : Int × Str) : PySem.W.alike (encIS b) (encIS b') = true := by simp [encIS, PySem.W.alike, PySem.W.alikeAll]
theorem cr_sortedIS (hu : X.A.units + 64 < cLine) : CallR X (.builtin "sorted") (fun vs H Q => ∃ (a : Addr) (xs : List V) (bs : List (Int × Str)) (M : List Addr), vs = [V.ref a] ∧ SqL X.K H a xs ∧ DqAll X.K (hid M H) xs (bs.map encIS) ∧ bs.length ≤ 1000 ∧
    ∀ ys p, DqAll X.K (hid M H) ys ((bs.mergeSort (PySem.W.dataLe false encIS)).map encIS) → H p = none → Q (.ref p) (upd H p (.lst ys))) := by
  intro pins s σ H vs us Q I r h
  obtain ⟨a, xs, bs, M, rfl, hs, hx, hlen, q⟩ := h
  obtain ⟨its, rv, hl, hz⟩ := I.list hs
  obtain ⟨u, rfl, ru⟩ := vals1 r
  obtain rfl : u = Value.ref a := ru
  have e1 := each_of bs rv hx
  refine PySem.W.sorted_data hl.isList e1 (e1.mono fun v b ⟨x, rx, hd⟩ => Dp.reads I (encIS b) x v ((hd.up hid_le).dp) rx) (.of alike_is) (.tuples fun b => ⟨_, _, rfl⟩) (Nat.le_trans hlen (by decide)) (fun b _ => ?_) fun out ho h2 => ?_
  · have z : (encIS b).depth = 1 := by simp [encIS, PyData.depth, PyData.depthAll]
    rw [z]
    omega
  · obtain ⟨ys, y1, y2⟩ := each_back h2
    obtain ⟨n, hn⟩ := sortedAll_at s.heap its out.toArray
    have hyl : ys.length ≤ sizeLine := by
      rw [y1.length, ho]
      exact Nat.le_trans hlen (by decide)
    exact ⟨.ref (s.heap.objs.size + 1), upd H (s.heap.objs.size + 1) (.lst ys), I.laid (t' := s.toks) (fun b o k => sortedAll_old k) (Nat.le_succ _) ⟨hyl, out, n, y1, hn⟩, rfl, q ys _ y2 (I.hok.fresh (Nat.le_succ _))⟩
/-- sorted(l) -/
theorem xl_sortedIS {bs cs : List (Int × Str)} (hu : X.A.units + 64 < cLine) (hm : X.mg "sorted" = none) (L : Live M H) (ha : XD X M σ H e (.list (bs.map encIS))) (hlen : bs.length ≤ 1000) (hp : bs.Perm cs) (hc : cs.Pairwise fun a b => a.1 < b.1) (hg : Gl X "sorted" := by rfl)
    (he : starEach [e] X.env = (false, eval e X.env) :: starEach [] X.env := by rfl) (hpl : (backTo p2 (starEach [] X.env)).any (·.1) = false := by rfl) : XL X M σ H (.Call (.Name "sorted" p1) [e] [] p2) (cs.map encIS) := fun H1 s1 Q q =>
  re_B (cr_sortedIS hu) (ra_1 (ha H1 s1 _ fun v H2 s2 hv => by
    obtain ⟨a, xs, rfl, ha, hx⟩ := dp_lst hv
    refine ⟨a, xs, bs, M, rfl, SqL.of (hid_le _ _ ha), hx, hlen, fun ys l h1 hl => ?_⟩
    rw [sort_is hp hc] at h1
    refine q l ys _ (s2.trans (same_new hl)) (s2.free hl) upd_same ?_
    rw [hid_new (L.mono (s1.trans s2)) hl]
    exact h1.up (same_new (hid_free hl))) he) hm (by decide +kernel) hg (by decide) (by decide) he hpl
/-! comprehensions over range(e) -/
theorem lc_rngD (n : Nat) (hn : n ≤ 1000) (g : Nat → PyData) (L : Live M H) (ha : XD X M σ H a (.int (n : Int)))
    (hst : ∀ p (i : Nat) H1, i < n → H p = none → Same H H1 → Live (p :: M) H1 → BG X scope tg (.int (i : Int)) (wipe σ (own.map (·.2))) H1 fun τ H2 => wipe τ (own.map (·.2)) = wipe σ (own.map (·.2)) ∧ Same H1 H2 ∧ BE X scope elt τ H2 fun y H3 => Same H2 H3 ∧ Dq X.K (hid (p :: M) H3) y (g i))
    {Q : VK} (q : ∀ p xs H2, Same H H2 → H p = none → H2 p = some (.lst xs) → DqAll X.K (hid M H2) xs ((List.range n).map g) → Q (.ref p) H2) (he : starEach [a] X.env = (false, eval a X.env) :: starEach [] X.env := by rfl) :
    tLc (iRng1 (RA X [a])) (BG X scope tg) (BT X scope []) (BE X scope elt) (own.map (·.2)) σ H Q :=
  ra_1 (ha H (Same.refl H) _ fun v H2 s2 hv => by
    refine ⟨(n : Int), by rw [dp_int hv], by omega, by omega, fun p hp => ?_⟩
    have hp0 : H p = none := s2.free hp
    have L2' : Live M H2 := L.mono s2
    refine lc_range (lo := 0) (n := (n : Int).toNat) (fun i H' => Same H2 H' ∧ ∃ acc, H' p = some (.lst acc) ∧ DqAll X.K (hid (p :: M) H') acc ((List.range i).map g)) ⟨same_new hp, [], upd_same, .nil⟩ (fun i H' hi z => ?_) (fun H' z => ?_)
    · obtain ⟨sH, acc, hacc, ea⟩ := z
      have hi' : i < n := by omega
      have Lp : Live (p :: M) H' := fun b hb => by
        rcases List.mem_cons.mp hb with z | hb
        · subst z; rw [hacc]; simp
        · exact L2'.mono sH b hb
      have e0 : (0 : Int) + (i : Int) = (i : Int) := Int.zero_add _
      rw [e0]
      refine bg_mono (hst p i H' hi' hp0 (s2.trans sH) Lp) fun τ Ha ⟨hw, sa, hbe⟩ => ⟨hw, bt_nil (iteT (be_mono hbe fun y Hb ⟨sb, ey⟩ => ?_))⟩
      have sd := sa.trans sb
      refine ⟨acc, sd _ _ hacc, ?_, fun b o e => ?_, acc ++ [y], upd_same, ?_⟩
      · have h4 : 100000 < sizeLine := by decide
        rw [dpa_len ea, List.length_map, List.length_range]
        omega
      · rw [upd_ne (ne_of_none e hp)]
        exact sd _ _ (sH _ _ e)
      · rw [hid_upd_ne, List.range_succ, List.map_append]
        exact dpa_app (ea.up (hid_mono sd)) (.cons ey .nil)
    · obtain ⟨sH, acc, hacc, ea⟩ := z
      rw [Int.toNat_natCast] at ea
      refine q p acc H' (s2.trans sH) hp0 hacc (ea.up fun b o e => ?_)
      have n1 : b ∉ p :: M := fun z => by unfold hid at e; rw [if_pos z] at e; cases e
      rw [hid_of (fun z => n1 (List.mem_cons_of_mem _ z))]
      exact hid_le _ _ e) he
/-- [.. for tg in range(a)] -/
theorem xl_rngD (n : Nat) (hn : n ≤ 1000) (g : Nat → PyData) (hm : X.mg "range" = none) (L : Live M H) (hN : X.N.Nodup) (ha : XD X M σ H a (.int (n : Int))) (ok : BlkOk X.N X.env.scope scope own)
    (hst : ∀ p (i : Nat) H1, i < n → H p = none → Same H H1 → Live (p :: M) H1 → BG X scope tg (.int (i : Int)) (wipe σ (own.map (·.2))) H1 fun τ H2 => wipe τ (own.map (·.2)) = wipe σ (own.map (·.2)) ∧ Same H1 H2 ∧ BE X scope elt τ H2 fun y H3 => Same H2 H3 ∧ Dq X.K (hid (p :: M) H3) y (g i))
    (hc : X.calm = true := by rfl) (hg : Gl X "range" := by rfl) (he : starEach [a] X.env = (false, eval a X.env) :: starEach [] X.env := by rfl) (he1 : starEach [a] X.env = [(false, eval a X.env)] := by rfl) (hs : ∀ x, foldedSetIterable (.Call (.Name "range" p1) [a] [] p2) X.env x = pure x := by intro _; rfl) :
    XL X M σ H (.ListComp elt [⟨tg, .Call (.Name "range" p1) [a] [] p2, [], 0⟩] scope pos) ((List.range n).map g) := fun H1 s1 Q q =>
  ⟨_, pe_lc (own := own) hc hN (pi_range1 hg hm ra_ he1) ok (fun _ _ _ _ _ => bg_) (fun _ _ _ _ _ => bt_) (fun _ _ _ _ _ => be_) hs,
    lc_rngD (own := own) n hn g (L.mono s1) (ha.up s1) (fun p i H2 hi hp s2 Lp => hst p i H2 hi (s1.free hp) (s1.trans s2) Lp) (fun p xs H2 s2 hp h2 hx => q p xs H2 s2 hp h2 hx) he⟩
/-- x = [.. for tg in range(a)], on one line -/
theorem rb_setRD (i : Nat) {py spos : Pos} (n : Nat) (hn : n ≤ 1000) (g : Nat → PyData) (hm : X.mg "range" = none) (L : Live M H) (hN : X.N.Nodup) (ha : XD X M σ H a (.int (n : Int))) (ok : BlkOk X.N X.env.scope scope own)
    (hst : ∀ p (i : Nat) H1, i < n → H p = none → Same H H1 → Live (p :: M) H1 → BG X scope tg (.int (i : Int)) (wipe σ (own.map (·.2))) H1 fun τ H2 => wipe τ (own.map (·.2)) = wipe σ (own.map (·.2)) ∧ Same H1 H2 ∧ BE X scope elt τ H2 fun y H3 => Same H2 H3 ∧ Dq X.K (hid (p :: M) H3) y (g i))
    (q : ∀ p xs H2, Same H H2 → H p = none → H2 p = some (.lst xs) → DqAll X.K (hid M H2) xs ((List.range n).map g) → RB X rest D (σ.set i (some (.ref p))) H2)
    (hi : X.N[i]? = some x := by rfl) (hx : X.env.scope.names.lookup x = some .local := by rfl) (hsw : swapsWith (.ListComp elt [⟨tg, .Call (.Name "range" p1) [a] [] p2, [], 0⟩] scope pos) (some (.Name x py)) spos.line X.env = pure true := by exact sw_true rfl rfl rfl rfl)
    (hc : X.calm = true := by rfl) (hg : Gl X "range" := by rfl) (he : starEach [a] X.env = (false, eval a X.env) :: starEach [] X.env := by rfl) (he1 : starEach [a] X.env = [(false, eval a X.env)] := by rfl) (hs : ∀ x, foldedSetIterable (.Call (.Name "range" p1) [a] [] p2) X.env x = pure x := by intro _; rfl) :
    RB X (.Assign [.Name x py] (.ListComp elt [⟨tg, .Call (.Name "range" p1) [a] [] p2, [], 0⟩] scope pos) spos :: rest) D σ H :=
  ⟨_, pss_cons (ps_setLc (own := own) hc hN hi hx hsw (pi_range1 hg hm ra_ he1) ok (fun _ _ _ _ _ => bg_) (fun _ _ _ _ _ => bt_) (fun _ _ _ _ _ => be_) hs) rb_,
    lc_rngD (own := own) (Q := fun v H1 => RB X rest D (σ.set i (some v)) H1) n hn g L ha hst q he⟩
/-- for tg in range(a, b): .. -/
theorem rb_rangeAB {tg b : Expr} {body : List Stmt} {lo : Int} {n : Nat} (hm : X.mg "range" = none) (hlo : -(2 ^ 61) < lo ∧ lo < 2 ^ 61) (hn : n < 2 ^ 60) (ha : XD X M σ H a (.int lo)) (hb : XD X M σ H b (.int (lo + n)))
    (h : ∀ H1, Same H H1 → ∃ Pv : Nat → L2.St → Hp → Prop, Pv 0 σ H1 ∧
      (∀ k σ' H', k < n → Pv k σ' H' → RG X tg (.int (lo + (k : Int))) σ' H' fun σ2 H2 => RB X body { D with nx := Pv (k + 1), ct := Pv (k + 1), bk := RB X rest D } σ2 H2) ∧ ∀ σ' H', Pv n σ' H' → RB X rest D σ' H')
    (hg : Gl X "range" := by rfl) (he : starEach [a, b] X.env = (false, eval a X.env) :: starEach [b] X.env := by rfl) (he2 : starEach [b] X.env = (false, eval b X.env) :: starEach [] X.env := by rfl) (he3 : starEach [b] X.env = [(false, eval b X.env)] := by rfl)
    (hp : PassesOwn (model X.prog X.w) X.A X.env X.xe := by exact PassesOwn.never) (hc : X.calm = true := by rfl)
    (hs : ∀ x, foldedSetIterable (.Call (.Name "range" p1) [a, b] [] p2) X.env x = pure x := by intro _; rfl) : RB X (.For tg (.Call (.Name "range" p1) [a, b] [] p2) body [] pos :: rest) D σ H :=
  ⟨_, pss_cons (ps_for hp hc (pi_range2 hg hm ra_ (by rw [he, he3]) he3) rg_ rb_ hs) rb_, ra_cons (ha H (Same.refl H) _ fun v H1 s1 hv => ra_1 (hb H1 s1 _ fun u H2 s2 hu => by
    obtain ⟨Pv, h0, hst, hd⟩ := h H2 (s1.trans s2)
    refine ⟨lo, lo + n, by rw [dp_int hv, dp_int hu], ⟨by omega, by omega, by omega, by omega⟩, ?_⟩
    have e : (lo + (n : Int) - lo).toNat = n := by omega
    rw [e]
    exact for_range Pv h0 hst hd) he2) he⟩
end
end Dl

set_option Elab.async false
set_option linter.all false
set_option maxRecDepth 100000
set_option maxHeartbeats 8000000
/-! set(list of whole numbers), sorted of a set by a bound of its own, sums of tuples, stars, two fors, enumerate and zip in comprehensions -/
namespace Dl
open PySem PySem.Spec PyProof.Rows L2
abbrev bareSet (W : World) : Obj := { cls := .type "set", dict := none, data := .set #[] 0 (.fresh 0 0 (!W.params.followText "set-order")) }
section
variable {P : Program} {W : World} {A : Around} {Er : Value → Shared → Prop} {z : Shared}
theorem set_of_ints {l : Addr} {xs : Array Value} (ks : List Int) {Q : Value → Shared → Prop} (calm : A.handled = none) (isL : z.heap.IsList l xs) (areI : IntsAre xs.toList ks) (room : ks.length + 1 < scanBound)
    (fin : ∀ (h' : Heap) (tk c : Nat), SetR W h' z.heap.objs.size (fun j => decide (j ∈ ks)) c → (∀ b o, z.heap.get? b = some o → h'.get? b = some o) → Q (.ref z.heap.objs.size) { z with heap := h', toks := tk }) :
    wpAny (model P W) A (call (.type "set") [.ref l]) Q Er z := by
  have size_xs : xs.size = ks.length := (Array.length_toList (xs := xs)).symm.trans (IntsAre.length areI)
  obtain ⟨c0, tl0, mro0⟩ := F.called_set.mro
  have made0 := F.called_set.made
  have sub0 := F.called_set.sub
  refine wpAny_call (codeAny_of_tree ?_)
  show wpAny _ _ (callAny (.type "set") _) _ _ _
  refine wpAny_pure ⟨Code.quiet_builtin _ (by decide +kernel), codeAny_builtin F.entry_type_call ?_⟩
  rw [Around.under_plain (weight_type_call_type "set" [.ref l] []) rfl]
  have not_ty := F.called_set.notType
  have can := F.called_set.canCreate
  have tc := F.typeCall_set_1 (.ref l)
  repeat (any_goals (first | assumption | wp_step))
  refine codeAny_mono (code_set_led1 (.ref l) (E := Er) (Q₁ := fun y z1 => y = .ref z.heap.objs.size ∧ z1 = { z with heap := z.heap.push (bareSet W) }) ⟨rfl, rfl⟩) fun r z1 hr => ?_
  match r, hr with
  | .error e, hr => exact hr
  | .ok .next, hr => exact hr.elim
  | .ok .brk, hr => exact hr.elim
  | .ok .cont, hr => exact hr.elim
  | .ok (.ret y), hr =>
    obtain ⟨rfl, rfl⟩ := hr
    have at_new : (z.heap.push (bareSet W)).get? z.heap.objs.size = some (bareSet W) := Heap.get?_push_size _ rfl
    have ty_new : Shared.TypeIs { z with heap := z.heap.push (bareSet W) } (.ref z.heap.objs.size) "set" := ⟨_, at_new, rfl⟩
    have look := F.called_set.init.lookup
    have bindS := F.called_set.init.bind (.ref z.heap.objs.size)
    repeat (any_goals (first | assumption | wp_step))
    refine codeAny_mono (codeAny_call_builtin (R := wants (fun r2 z2 => r2 = .none ∧ ∃ h' tk c, z2 = { z with heap := h', toks := tk } ∧ SetR W h' z.heap.objs.size (fun j => decide (j ∈ ks)) c ∧ (∀ b o, z.heap.get? b = some o → h'.get? b = some o)) Er)
      F.called_set.init.plain F.entry_set_init (check_set_init_1 ty_new ?_)) fun r2 z2 hr2 => ?_
    · obtain ⟨⟨oc, od, odt, osl⟩, get_l, cls_l, nl, dat_l⟩ := isL
      simp only at cls_l dat_l
      subst cls_l
      subst dat_l
      have get_l2 : (z.heap.push (bareSet W)).get? l = some { cls := .type "list", dict := od, data := .seq xs nl, slots := osl } := Heap.get?_push_of_some _ get_l
      have no1 := F.sub_list_set
      have no2 := F.sub_list_frozenset
      have no3 : (Value.type "list" == Value.type "dict") = false := by decide
      have list_l : (z.heap.push (bareSet W)).IsList l xs := ⟨_, get_l2, rfl, nl, rfl⟩
      unfold Builtin.«set.__init__» noKeywords Builtin.Frozenset.updateFrom
      generalize walker : pyIter = walk
      wp_walk
      subst walker
      refine wpAny_pyIter_list list_l ?_
      refine wpAny_bind (wpAny_runValue ?_)
      have l_lt : l < z.heap.objs.size := Heap.lt_size get_l
      have size1 : (z.heap.push (bareSet W)).objs.size = z.heap.objs.size + 1 := Heap.size_push ..
      have calm3 : A.in1.in1.in1.handled = none := by simp [calm]
      have lt1 : l < z.heap.objs.size + 1 := Nat.lt_succ_of_lt l_lt
      have ne_new : l ≠ (z.heap.push (bareSet W)).objs.size := fun q => by
        rw [size1] at q
        exact Nat.ne_of_lt lt1 q
      have out_new : z.heap.objs.size ∉ [(z.heap.push (bareSet W)).objs.size, l] := fun q => by
        rw [size1] at q
        rcases List.mem_cons.mp q with q | q
        · exact Nat.ne_of_lt (Nat.lt_succ_self _) q
        · exact Nat.ne_of_lt l_lt (List.mem_singleton.mp q).symm
      refine set_update_ints ((Walks.list calm3 _ l ne_new xs).toS) z.heap.objs.size out_new ks size_xs room (fun i v hv => ?_) (xs.size - 0) 0 _ (by omega) (Nat.zero_le _)
        ⟨⟨_, Heap.get?_push_size _ rfl, rfl, rfl⟩, (list_l.push _)⟩ ⟨0, Nat.le_refl 0, setR_new_at (Heap.get?_push_of_some _ at_new)⟩ fun z3 c3 moved _ new3 => ?_
      · have hi : i < ks.length := by rw [← size_xs]; exact (Array.getElem?_eq_some_iff.mp hv).1
        obtain ⟨tk, e⟩ := PyProof.Rows.IntsAre.int_at areI i v (by rw [Array.getElem?_toList]; exact hv)
        exact ⟨ks[i], tk, List.getElem?_eq_getElem hi, by rw [e, List.getD_eq_getElem?_getD, List.getElem?_eq_getElem hi] <;> rfl⟩
      · obtain ⟨hz, gz, dz, tz, oz⟩ := z3
        have g1 : gz = z.gens := moved.gens
        have g2 : dz = z.drawn := moved.drawn
        have g3 : oz = z.os := moved.os
        subst g1
        subst g2
        subst g3
        show wpAny _ _ _ _ _ _
        refine wpAny_pure ?_
        show wpAny _ _ (ret Value.none) _ _ _
        refine wpAny_pure ⟨rfl, hz, tz, c3, rfl, new3, fun b o e => ?_⟩
        have b_lt : b < z.heap.objs.size := Heap.lt_size e
        have free_b : b ∉ [z.heap.objs.size, (z.heap.push (bareSet W)).objs.size] := fun q => by
          rw [size1] at q
          rcases List.mem_cons.mp q with q | q
          · exact Nat.ne_of_lt b_lt q
          · exact Nat.ne_of_lt (Nat.lt_succ_of_lt b_lt) (List.mem_singleton.mp q)
        exact moved.heap b o free_b (Heap.get?_push_of_some _ (Heap.get?_push_of_some _ e))
    · match r2, hr2 with
      | .error e, hr2 => exact hr2
      | .ok .next, hr2 => exact hr2.elim
      | .ok .brk, hr2 => exact hr2.elim
      | .ok .cont, hr2 => exact hr2.elim
      | .ok (.ret y2), hr2 =>
        obtain ⟨rfl, h', tk, c', rfl, isSet, kept⟩ := hr2
        repeat (any_goals (first | assumption | wp_step))
        exact fin _ _ _ isSet kept
end
theorem nodup_le {α : Type} [DecidableEq α] : ∀ {xs ys : List α}, xs.Nodup → (∀ x ∈ xs, x ∈ ys) → xs.length ≤ ys.length
  | [], _, _, _ => Nat.zero_le _
  | x :: xs, ys, h, s => by
    obtain ⟨h1, h2⟩ := List.nodup_cons.mp h
    have m := s x (List.mem_cons_self ..)
    have e := List.length_erase_of_mem m
    have p := List.length_pos_of_mem m
    have r := nodup_le (xs := xs) (ys := ys.erase x) h2 fun y hy => (List.mem_erase_of_ne (fun z => h1 (by rw [← z]; exact hy))).mpr (s y (List.mem_cons_of_mem _ hy))
    rw [List.length_cons]
    omega
theorem setR_le {w : World} {h : Heap} {a : Addr} {S : Int → Bool} {n : Nat} (R : SetR w h a S n) {T : List Int} (hT : ∀ k, S k = true → k ∈ T) : n ≤ T.length := by
  obtain ⟨o, es, ep, t, _, _, _, _, nd, mem, _, _, e, _⟩ := R
  have r := nodup_le nd fun k hk => hT k ((mem k).mpr hk)
  rw [List.length_map, Array.length_toList] at r
  omega
section
variable {X : Cx} {M : List Addr} {σ : L2.St} {H H' : Hp} {e a b c o elt tg iter iter1 tg1 : Expr} {ifs ifs1 : List Expr} {scope : Scope} {own : List (Str × Nat)} {es : List Expr} {d d1 d2 : PyData} {ds ds2 : List PyData} {x : Str} {v : V} {pos p1 p2 p3 tpos : Pos}
/-- sorted(set), the set's members among fewer than 64 -/
theorem cr_sortedB (hc : X.calm = true) : CallR X (.builtin "sorted") (fun vs H Q => ∃ (a : Addr) (S : Int → Bool) (n : Nat) (T : List Int), vs = [V.ref a] ∧ H a = some (SetO X.w a S n) ∧ T.length < 64 ∧ (∀ k, S k = true → k ∈ T) ∧
    ∀ (ns : List Int) (p : Addr), ns.Pairwise (· < ·) → (∀ k : Int, k ∈ ns ↔ S k = true) → H p = none → Q (.ref p) (upd H p (.lst (ns.map V.int)))) := by
  intro pins s σ H vs us Q I r h
  obtain ⟨a, S, n, T, rfl, ha, hT, sub, q⟩ := h
  exact cr_sortedSet hc pins s σ H _ us Q I r ⟨a, S, n, rfl, ha, Nat.lt_of_le_of_lt (setR_le (setO_get I ha) sub) hT, fun ns p h1 h2 _ hp => q ns p h1 h2 hp⟩
/-- set(l) -/
theorem cr_setOf (hc : X.calm = true) : CallR X (.type "set") (fun vs H Q => ∃ (l : Addr) (ks : List Int), vs = [V.ref l] ∧ SqL X.K H l (ks.map V.int) ∧ ks.length ≤ 4000 ∧ ∀ p c, H p = none → Q (.ref p) (upd H p (SetO X.w p (fun j => decide (j ∈ ks)) c))) := by
  intro pins s σ H vs us Q I r h
  obtain ⟨l, ks, rfl, hl, hz, q⟩ := h
  obtain ⟨its, rv, isl, _⟩ := I.list hl
  obtain ⟨u, rfl, ru⟩ := vals1 r
  obtain rfl : u = Value.ref l := ru
  refine set_of_ints ks (I.ok.hd hc) isl.isList (by simpa using rv.ints) (Nat.lt_of_le_of_lt (Nat.succ_le_succ hz) (by decide)) fun h' tk c new kept => ?_
  exact ⟨.ref s.heap.objs.size, upd H s.heap.objs.size (SetO X.w s.heap.objs.size (fun j => decide (j ∈ ks)) c), I.laid (t' := tk) kept (Nat.le_refl _) (setO_new new), rfl, q _ c (I.hok.fresh (Nat.le_refl _))⟩
/-- sorted(set(e)) -/
theorem xl_sortedOf {ks ns : List Int} {pa pb : Pos} (T : List Int) (hm : X.mg "sorted" = none) (hm2 : X.mg "set" = none) (L : Live M H) (ha : XD X M σ H e (.list (ks.map PyData.int))) (hz : ks.length ≤ 4000) (hT : T.length < 64) (hsub : ∀ k ∈ ks, k ∈ T) (hasc : ns.Pairwise (· < ·)) (hmem : ∀ k, k ∈ ns ↔ k ∈ ks) (hc : X.calm = true := by rfl) (hg : Gl X "sorted" := by rfl) (hg2 : Gl X "set" := by rfl)
    (he : starEach [.Call (.Name "set" pa) [e] [] pb] X.env = (false, eval (.Call (.Name "set" pa) [e] [] pb) X.env) :: starEach [] X.env := by rfl) (he2 : starEach [e] X.env = (false, eval e X.env) :: starEach [] X.env := by rfl) (hpl : (backTo p2 (starEach [] X.env)).any (·.1) = false := by rfl) (hpl2 : (backTo pb (starEach [] X.env)).any (·.1) = false := by rfl) :
    XL X M σ H (.Call (.Name "sorted" p1) [.Call (.Name "set" pa) [e] [] pb] [] p2) (ns.map PyData.int) := fun H1 s1 Q q => by
  refine re_B (cr_sortedB hc) (ra_1 ⟨_, pe_callTy (cr_setOf hc) hg2 hm2 (by decide +kernel) ra_ (by decide) (by decide) he2 hpl2, ra_1 (ha H1 s1 _ fun v H2 s2 hv => ?_) he2⟩ he) hm (by decide +kernel) hg (by decide) (by decide) he hpl
  obtain ⟨a, xs, rfl, ha, hx⟩ := dp_lst hv
  have ex := ints_v hx
  subst ex
  refine ⟨a, ks, rfl, SqL.of (hid_le _ _ ha), hz, fun p c hp => ⟨p, _, c, T, rfl, upd_same, hT, fun k hk => hsub k (of_decide_eq_true hk), fun ms l h1 h2 hl => ?_⟩⟩
  have e : ms = ns := asc_eq h1 hasc fun k => (h2 k).trans ((decide_eq_true_iff).trans (hmem k).symm)
  subst e
  have hl2 : H2 l = none := by
    by_cases z : l = p
    · subst z; exact hp
    · rw [upd_ne z] at hl; exact hl
  refine q l _ _ ((s2.trans (same_new hp)).trans (same_new hl)) (s2.free hl2) upd_same ?_
  exact ints_dq ms
/-- sorted({elt for tg in iter if ..}), the members among fewer than 64 -/
theorem xl_sortedSetB (f : PyData → Option Int) (ns T : List Int) (hm : X.mg "sorted" = none) (L : Live M H) (hN : X.N.Nodup) (hit : XD X M σ H iter (.list ds)) (ok : BlkOk X.N X.env.scope scope own) (hz : ds.length ≤ 4000)
    (hst : ∀ p d v H1, d ∈ ds → H p = none → Same H H1 → Live (p :: M) H1 → Dq X.K (hid (p :: M) H1) v d → BG X scope tg v (wipe σ (own.map (·.2))) H1 fun τ H2 => wipe τ (own.map (·.2)) = wipe σ (own.map (·.2)) ∧ BT X scope ifs τ H2 fun k H3 =>
      Same H1 H3 ∧ ((k = true ∧ ∃ n, f d = some n ∧ BE X scope elt τ H3 fun y H4 => Same H3 H4 ∧ y = .int n) ∨ (k = false ∧ f d = none)))
    (hasc : ns.Pairwise (· < ·)) (hmem : ∀ k, k ∈ ns ↔ ∃ d ∈ ds, f d = some k) (hT : T.length < 64) (hsub : ∀ k ∈ ns, k ∈ T) (hc : X.calm = true := by rfl) (hs : ∀ x, foldedSetIterable iter X.env x = pure x := by intro _; rfl) (hg : Gl X "sorted" := by rfl)
    (he : starEach [.SetComp elt [⟨tg, iter, ifs, 0⟩] scope pos] X.env = (false, eval (.SetComp elt [⟨tg, iter, ifs, 0⟩] scope pos) X.env) :: starEach [] X.env := by rfl) (hpl : (backTo p2 (starEach [] X.env)).any (·.1) = false := by rfl) :
    XL X M σ H (.Call (.Name "sorted" p1) [.SetComp elt [⟨tg, iter, ifs, 0⟩] scope pos] [] p2) (ns.map PyData.int) := fun H1 s1 Q q => by
  refine re_B (cr_sortedB hc) (ra_1 ⟨_, pe_setI (own := own) hc hN (pi_list re_) ok (fun _ _ _ _ _ => bg_) (fun _ _ _ _ _ => bt_) (fun _ _ _ _ _ => be_) hs, hit H1 s1 _ fun v H2 s2 hv => ?_⟩ he) hm (by decide +kernel) hg (by decide) (by decide) he hpl
  obtain ⟨a, xs, rfl, ha, hx⟩ := dp_lst hv
  have L2' : Live M H2 := L.mono (s1.trans s2)
  refine ⟨a, rfl, ⟨xs, SqL.of (hid_le _ _ ha)⟩, fun p hp => ?_⟩
  have hp0 : H p = none := (s1.trans s2).free hp
  refine set_list (xs := xs) (a := a) (fun i H' => Same H2 H' ∧ ∃ S c, H' p = some (SetO X.w p S c) ∧ c ≤ i ∧ ∀ k, S k = true ↔ ∃ d ∈ ds.take i, f d = some k)
    ⟨same_new hp, fun _ => false, 0, upd_same, Nat.le_refl _, fun k => by simp⟩ (fun i H' _ z => SqL.of (z.1 _ _ (hid_le _ _ ha))) (fun i x H' hi z => ?_) (fun H' z => ?_)
  · obtain ⟨sH, S, n, hS, hn, hk⟩ := z
    obtain ⟨d, hd1, hd2⟩ := dpa_get' hx hi
    have hdm : d ∈ ds := List.mem_of_getElem? hd1
    have hi60 : i < 4000 := by have := (List.getElem?_eq_some_iff.mp hd1).1; omega
    have etake : ds.take (i + 1) = ds.take i ++ [d] := by rw [List.take_add_one, hd1]; rfl
    have Lp : Live (p :: M) H' := fun b hb => by
      rcases List.mem_cons.mp hb with z | hb
      · subst z; rw [hS]; simp
      · exact L2'.mono sH b hb
    refine bg_mono (hst p d x H' hdm hp0 ((s1.trans s2).trans sH) Lp (hd2.up (hid_step hp sH))) fun τ Ha ⟨hw, hbt⟩ => ⟨hw, bt_mono hbt fun k Hb ⟨sb, hk'⟩ => ?_⟩
    rcases hk' with ⟨hk1, m, hf, hbe⟩ | ⟨hk1, hf⟩
    · subst hk1
      refine iteT (be_mono hbe fun y Hc ⟨sc, hy⟩ => ?_)
      have sd := sb.trans sc
      refine ⟨m, S, n, hy, sd _ _ hS, Nat.lt_of_lt_of_le (by omega : n + 1 < 4096) (Nat.le_refl _), fun b o e => ?_, fun j => S j || decide (j = m), (if S m = true then n else n + 1), upd_same, by split <;> omega, fun j => ?_⟩
      · rw [upd_ne (ne_of_none e hp)]
        exact sd _ _ (sH _ _ e)
      · rw [Bool.or_eq_true, decide_eq_true_eq, hk j, etake]
        constructor
        · rintro (⟨d', h1, h2⟩ | h)
          · exact ⟨d', List.mem_append_left _ h1, h2⟩
          · exact ⟨d, List.mem_append_right _ (List.mem_singleton.mpr rfl), by rw [hf, h]⟩
        · rintro ⟨d', h1, h2⟩
          rcases List.mem_append.mp h1 with h1 | h1
          · exact .inl ⟨d', h1, h2⟩
          · rw [List.mem_singleton.mp h1, hf] at h2
            exact .inr (Option.some.inj h2).symm
    · subst hk1
      refine iteF ⟨sH.trans sb, S, n, sb _ _ hS, by omega, fun j => ?_⟩
      rw [hk j, etake]
      constructor
      · rintro ⟨d', h1, h2⟩
        exact ⟨d', List.mem_append_left _ h1, h2⟩
      · rintro ⟨d', h1, h2⟩
        rcases List.mem_append.mp h1 with h1 | h1
        · exact ⟨d', h1, h2⟩
        · rw [List.mem_singleton.mp h1, hf] at h2
          cases h2
  · obtain ⟨sH, S, n, hS, hn, hk⟩ := z
    have hlen := dpa_len hx
    rw [hlen, List.take_length] at hk
    refine ⟨p, S, n, T, rfl, hS, hT, fun k hk1 => hsub k ((hmem k).mpr ((hk k).mp hk1)), fun ks l h1 h2 hl => ?_⟩
    have e : ks = ns := asc_eq h1 hasc fun k => (h2 k).trans ((hk k).trans (hmem k).symm)
    subst e
    refine q l _ _ ((s2.trans sH).trans (same_new hl)) ((s2.trans sH).free hl) upd_same ?_
    rw [hid_new (L2'.mono sH) hl]
    exact ints_dq ks
/-- sum(t) -/
theorem cr_sumT (hc : X.calm = true) : CallR X (.builtin "sum") (fun vs H Q => ∃ (a : Addr) (ns : List Int), vs = [V.ref a] ∧ SqT X.K H a (ns.map V.int) ∧ Q (.int ns.sum) H) := by
  intro pins s σ H vs us Q I r h
  obtain ⟨a, ns, rfl, hs, q⟩ := h
  obtain ⟨its, rv, ⟨o, ho, hcl, n, hd⟩, _⟩ := I.tuple hs
  obtain ⟨u, rfl, ru⟩ := vals1 r
  obtain rfl : u = Value.ref a := ru
  obtain ⟨xs, e⟩ := rv.ints.allInts.items
  have hn : numsOf (intItems xs).toList = ns := by rw [← e]; exact rv.ints.numsOf
  rw [nums_intItems] at hn
  rw [e] at hd
  refine PySem.W.ktm_sumG (I.ok.hd hc) ⟨o, ho, hcl, n, hd⟩ fun h' tk t' hk => ?_
  rw [preSum_eq, List.take_of_length_le (by simp), hn]
  exact ⟨.int _, H, I.kept hk, ⟨_, rfl⟩, q⟩
theorem xd_sumT {ns : List Int} (hm : X.mg "sum" = none) (ha : XD X M σ H e (.tuple (ns.map PyData.int))) (hc : X.calm = true := by rfl) (hg : Gl X "sum" := by rfl)
    (he : starEach [e] X.env = (false, eval e X.env) :: starEach [] X.env := by rfl) (hpl : (backTo p2 (starEach [] X.env)).any (·.1) = false := by rfl) : XD X M σ H (.Call (.Name "sum" p1) [e] [] p2) (.int ns.sum) := fun H1 s1 Q q =>
  re_B (cr_sumT hc) (ra_1 (ha H1 s1 _ fun v H2 s2 hv => by
    obtain ⟨a, xs, rfl, ha, hx⟩ := dp_tup hv
    have ex := ints_v hx
    subst ex
    exact ⟨a, ns, rfl, same_seqT hid_le ha, q _ H2 s2 (.int _)⟩) he) hm (by decide +kernel) hg (by decide) (by decide) he hpl
end
end Dl

set_option Elab.async false
set_option linter.all false
set_option maxRecDepth 100000
set_option maxHeartbeats 8000000
/-! enumerate of a tuple; comprehensions over enumerate, of two clauses, over zip; a tuple's star -/
namespace Dl
open PySem PySem.Spec PyProof.Rows L2
section
theorem meets_enum1 {v : Value} {ob : Obj} {Pre : Heap → Prop} (G : Begins v ob Pre) : Meets (Builtin.«enumerate.__new__» ⟨[.type "enumerate", v], []⟩) fun _ Post z => Pre z.heap ∧
    Post (.ok (.ret (.ref (z.heap.push ob).objs.size))) { z with heap := (z.heap.push ob).push { cls := .type "enumerate", data := .fields #[.none, .bool false, .ref z.heap.objs.size, rawInt 0, .none, .none] } } :=
  .of_wp fun pr wd Ar Post z pre => by
    obtain ⟨hz, gz, dz, tz, oz⟩ := z
    obtain ⟨k1, k2⟩ := pre
    have sub1 := sub_enumerate
    have it1 : ∀ {B : Around} {Er : Value → Shared → Prop} {Qz : Value → Shared → Prop}, Qz (.ref hz.objs.size) ⟨hz.push ob, gz, dz, tz, oz⟩ → wpAny (model pr wd) B (pyIter v) Qz Er ⟨hz, gz, dz, tz, oz⟩ := fun k => G.iter pr wd _ _ ⟨hz, gz, dz, tz, oz⟩ _ k1 k
    wp_walk using it1
    refine wpAny_stack_any fun stk => wpAny_pure ?_
    split
    · rename_i cl _ _ _ _ _
      cases (cl == Value.type "enumerate") <;> (wp_walk using it1; exact ⟨_, rfl, k2⟩)
    · wp_walk using it1
      exact ⟨_, rfl, k2⟩
theorem enum1_begins {pr : Program} {wd : World} {Ar : Around} {Er : Value → Shared → Prop} {z : Shared} {v : Value} {ob : Obj} {Pre : Heap → Prop} {Post : Value → Shared → Prop} (G : Begins v ob Pre) (pre : Pre z.heap)
    (fin : ∀ h', IsEnum h' (z.heap.objs.size + 1) z.heap.objs.size 0 .none → h'.get? z.heap.objs.size = some ob → (∀ b u, z.heap.get? b = some u → h'.get? b = some u) → Post (.ref (z.heap.objs.size + 1)) { z with heap := h' }) :
    wpAny (model pr wd) Ar (call (.type "enumerate") [v]) Post Er z := by
  refine callType_new F.called_enumerate (by decide) (F.typeCall_enumerate_1 _) (F.newCall_enumerate_1 _) (fun ob2 => F.args_object_init_2 ob2 _) F.entry_enumerate_new (meets_enum1 G) ⟨pre, ?_⟩
  have sz : (z.heap.push ob).objs.size = z.heap.objs.size + 1 := Heap.size_push ..
  show _ ∧ _
  rw [sz]
  have en : IsEnum ((z.heap.push ob).push { cls := .type "enumerate", data := .fields #[.none, .bool false, .ref z.heap.objs.size, rawInt 0, .none, .none] }) (z.heap.objs.size + 1) z.heap.objs.size 0 .none := by
    have q := Heap.get?_push_size (z.heap.push ob) (o := { cls := .type "enumerate", data := .fields #[.none, .bool false, .ref z.heap.objs.size, rawInt 0, .none, .none] }) rfl
    rw [sz] at q
    exact q
  exact ⟨⟨_, en, rfl⟩, fin _ en (Heap.get?_push_of_some _ (Heap.get?_push_size _ G.free)) fun b u x => Heap.get?_push_of_some _ (Heap.get?_push_of_some _ x)⟩
/-- the tuple at a, each item in a new pair -/
def IteT (K : PySem.W.Frag) (a : Addr) : It :=
  ⟨fun i H => ∃ (ys : List V) (y : V), SqT K H a ys ∧ ys[i]? = some y, fun i H v H' => ∃ T y, v = .ref T ∧ H T = none ∧ H' = upd H T (.tup [.int (i : Nat), y]) ∧ ∀ ys, SqT K H a ys → ys[i]? = some y, fun i H => ∃ ys : List V, SqT K H a ys ∧ ys.length ≤ i⟩
theorem tup_apart {h : Heap} {a it : Addr} {i : Nat} {its : Array Value} (h1 : h.IsTuple a its) (h2 : h.IsTupleIter it a i) : a ≠ it := fun z => by
  subst z
  obtain ⟨o, ho, hc, n, hd⟩ := h1
  obtain ⟨o2, ho2, hc2, hd2⟩ := h2
  rw [ho] at ho2
  cases ho2
  rw [hd] at hd2
  cases hd2
theorem turn_enumT {P : Program} {w : World} {K : PySem.W.Frag} {elts : List Expr} {kk : Nat} {tpos : Pos} (a e it : Addr) :
    Turn P w K (.Tuple elts kk tpos) (IteT K a) [e, it] e (fun i h => (∃ old, IsEnum h e it ((i : Nat) : Int) old) ∧ h.IsTupleIter it a i ∧ e ≠ it) where
  mem := List.mem_cons_self ..
  obj := fun i h st b hb => by
    obtain ⟨⟨old, he⟩, ⟨o, ho, hc, hd⟩, _⟩ := st
    rcases (show b = e ∨ b = it by simpa using hb) with z | z
    · subst z; exact ⟨_, he, fun v q => nomatch q⟩
    · subst z; exact ⟨o, ho, fun v q => by rw [hd] at q; cases q⟩
  keep := fun i h h' st k => by
    obtain ⟨⟨old, he⟩, hi, hne⟩ := st
    exact ⟨⟨old, k e (List.mem_cons_self ..) _ he⟩, hi.at fun o q => k it (List.mem_cons_of_mem _ (List.mem_cons_self ..)) o q, hne⟩
  item := by
    intro X hP hw hK hc i pins s σ H E I hf st hg
    subst hP hw hK
    obtain ⟨⟨old, he⟩, hit, hne⟩ := st
    obtain ⟨ys, y, hq, hy⟩ := hg
    obtain ⟨its, rv, p, hz⟩ := I.tuple hq
    obtain ⟨u, hu, ru⟩ := rv.get hy
    have le : e < s.heap.objs.size := Heap.lt_size he
    have li : it < s.heap.objs.size := by obtain ⟨_, q, _⟩ := hit; exact Heap.lt_size q
    have p' : s.heap.IsTuple a its.toArray := p
    have hea : e ≠ a := fun z => by
      subst z
      obtain ⟨o, ho, hcl, n, hd⟩ := p'
      have he2 : s.heap.get? e = some _ := he
      rw [ho] at he2
      cases he2
      cases hd
    have D := Draws.tuple (prog := X.prog) (w := X.w) (A := X.A.in1) (by have := I.ok.hd hc; simpa using this) it a (tup_apart p' hit) its.toArray
    refine wpAny_pyNext_enum_itemD D he ⟨hit, p'⟩ (by have := (List.getElem?_eq_some_iff.mp hu).1; simpa using this) hne (by simp [hne, hea]) fun x h' tk hx ho stt hT hsz hk => ?_
    have ex : x = u := by
      have q : its.toArray[i]? = some x := hx
      rw [List.getElem?_toArray, hu] at q
      exact (Option.some.inj q).symm
    subst ex
    refine ⟨_, rfl, wpAny_letOwnedTupleGo_enum (s := { s with heap := h', toks := tk + 1 }) ho fun h2 he2 sb => ?_⟩
    have hT2 : h2.get? s.heap.objs.size = some { cls := .type "tuple", data := .seq #[.int i tk, x] } := (sb.2 _ (Nat.ne_of_gt le)).trans hT
    have nw : ObjOk X.prog X.w (upd H s.heap.objs.size (.tup [.int (i : Nat), y])) h2 s.heap.objs.size (.tup [.int (i : Nat), y]) :=
      ⟨by show 2 ≤ sizeLine; decide, [.int i tk, x], .cons ⟨_, rfl⟩ (.cons ru .nil), ⟨_, hT2, rfl, _, rfl⟩⟩
    have J1 : Inv X pins σ (upd H s.heap.objs.size (.tup [.int (i : Nat), y])) { s with heap := h2, toks := tk + 1 } :=
      I.turnedNew (ch := [e, it]) (fun b ob hb q => (sb.2 b (fun z => hb (by simp [z]))).trans (hk b ob (fun z => hb (by simp [z])) (fun z => hb (by simp [z])) q)) hf (Nat.le_refl _) nw
    refine ⟨.ref s.heap.objs.size, _, J1, rfl, ⟨_, y, rfl, I.hok.fresh (Nat.le_refl _), rfl, fun zs hzs => by rw [I.tuple_inj hzs hq]; exact hy⟩, ⟨⟨x, ?_⟩, stt.1.at fun o q => (sb.2 it (Ne.symm hne)).trans q, hne⟩, fun b hb => ?_⟩
    · have e1 : (((i + 1 : Nat) : Nat) : Int) = (i : Int) + 1 := Int.natCast_add i 1
      rw [e1]
      exact he2
    · have lb : b < s.heap.objs.size := by
        rcases (show b = e ∨ b = it by simpa using hb) with z | z
        · rw [z]; exact le
        · rw [z]; exact li
      rw [upd_ne (Nat.ne_of_lt lb)]
      exact (hf b hb).1
  done := by
    intro X hP hw hK hc i pins s σ H E I hf st hg
    subst hP hw hK
    obtain ⟨⟨old, he⟩, hit, hne⟩ := st
    obtain ⟨ys, hq, hy⟩ := hg
    obtain ⟨its, rv, p, hz⟩ := I.tuple hq
    have p' : s.heap.IsTuple a its.toArray := p
    obtain ⟨f0, f1, f2, f3, f4, f5⟩ := hf it (List.mem_cons_of_mem _ (List.mem_cons_self ..))
    have hl := rv.length
    -- at the end the place is the length; beyond it the iterator has not come
    by_cases hi : i = its.toArray.size
    · have D := Draws.tuple (prog := X.prog) (w := X.w) (A := X.A.in1) (by have := I.ok.hd hc; simpa using this) it a (tup_apart p' hit) its.toArray
      subst hi
      exact wpAny_pyNext_enum_endD D he ⟨hit, p'⟩ fun h' eb => ⟨rfl, I.turned (t' := s.toks) (fun b o hb q => eb b o hb q) f0 f1 f3 f4 f5⟩
    · have hT : s.TypeIs (.ref e) "enumerate" := ⟨_, he, rfl⟩
      unfold pyNext
      refine wpAny_bind (wpAny_attempt (wpAny_callSpecial?_slot (name := Str.ofString "__next__") hT F.slot_enumerate_next (wpAny_call_entry F.slot_enumerate_next hT F.entry_enumerate_next ?_ (F.args_enumerate_next_1 _))))
      show wpAny _ _ (field (.ref e) 2 >>= _) _ _ _
      refine wpAny_bind (wpAny_field he rfl (x := .ref it) rfl ?_)
      refine wpAny_bind (wpAny_nextOf_tuple_end (by have := I.ok.hd hc; simpa using this) hit p' (by simp; omega) fun h' xx eb hxx => ?_)
      obtain ⟨o, ho, hcc⟩ := hxx
      refine wpAny_bind (wpAny_isInstance (T := "StopIteration") (b := true) ⟨o, ho, hcc⟩ isSubtype_stop (wpAny_pure ⟨rfl, I.turned (t' := s.toks) (fun b o hb q => eb b o hb q) f0 f1 f3 f4 f5⟩))
  self := fun A i s Q E st h => let ⟨⟨_, he⟩, _⟩ := st; wpAny_pyIter_enum he h
def iEnumT (K : PySem.W.Frag) (ta : TA) : TI := fun σ H R => ta σ H fun vs H1 => ∃ a ys, vs = [.ref a] ∧ SqT K H1 a ys ∧ R (IteT K a) H1
theorem pi_enumT {X : Cx} {e : Expr} {ta : TA} {p pos tpos : Pos} {elts : List Expr} {kk : Nat} (hg : Gl X "enumerate") (hm : X.mg "enumerate" = none) (ha : PA X [e] ta) (hs : starEach [e] X.env = [(false, eval e X.env)]) :
    PI X (.Tuple elts kk tpos) (.Call (.Name "enumerate" p) [e] [] pos) (iEnumT X.K ta) := by
  refine ⟨fun pins s σ H R I h => ?_⟩
  refine Call_ (ld_blt I hg hm boot_enumerate (PyProof.Rows.callWith_type1 (thn (ha.run pos pins s σ H _ I h) fun us z ⟨vs, H1, I1, r1, a, ys, ex, hq, q⟩ => ?_) hs rfl))
  subst ex
  obtain ⟨u, rfl, ru⟩ := vals1 r1
  obtain rfl : u = Value.ref a := ru
  obtain ⟨its, rv, p', hz⟩ := I1.tuple hq
  refine enum1_begins (begins_tuple a its.toArray) p' fun h' he hit hk => wpAny_pyIter_enum he ?_
  have J2 : Inv X pins σ H1 { z with heap := h' } := I1.kept (t' := z.toks) hk
  refine ⟨z.heap.objs.size + 1, [z.heap.objs.size + 1, z.heap.objs.size], _, _, H1, rfl, J2, turn_enumT a (z.heap.objs.size + 1) z.heap.objs.size, ⟨⟨.none, he⟩, ⟨_, hit, rfl, rfl⟩, Nat.succ_ne_self _⟩, fun b hb => ?_, q⟩
  have lb : z.heap.objs.size ≤ b := by
    rcases (show b = z.heap.objs.size + 1 ∨ b = z.heap.objs.size by simpa using hb) with y | y
    · rw [y]; exact Nat.le_add_right _ _
    · rw [y]; exact Nat.le_refl _
  exact I1.fpOk lb (I1.hok.fresh lb)
end
end Dl

set_option Elab.async false
set_option linter.all false
set_option maxRecDepth 100000
set_option maxHeartbeats 8000000
namespace Dl
open PySem PySem.Spec PyProof.Rows L2
/-- each item with its place -/
def enumM (g : Nat → PyData → PyData) : Nat → List PyData → List PyData
  | _, [] => []
  | i, d :: ds => g i d :: enumM g (i + 1) ds
theorem enumM_snoc (g : Nat → PyData → PyData) : ∀ (k : Nat) (ds : List PyData) (d : PyData), enumM g k (ds ++ [d]) = enumM g k ds ++ [g (k + ds.length) d]
  | k, [], d => rfl
  | k, e :: ds, d => by
    show g k e :: enumM g (k + 1) (ds ++ [d]) = g k e :: (enumM g (k + 1) ds ++ [_])
    rw [enumM_snoc g (k + 1) ds d, List.length_cons]
    have e1 : k + 1 + ds.length = k + (ds.length + 1) := by omega
    rw [e1]
theorem enumM_len (g : Nat → PyData → PyData) : ∀ (k : Nat) (ds : List PyData), (enumM g k ds).length = ds.length
  | _, [] => rfl
  | k, d :: ds => by show _ + 1 = _ + 1; rw [enumM_len g _ ds]
theorem zip_snoc {α β γ : Type} (g : α → β → γ) {xs : List α} {ys : List β} {i : Nat} {x : α} {y : β} (h1 : xs[i]? = some x) (h2 : ys[i]? = some y) : (List.zipWith g xs ys).take (i + 1) = (List.zipWith g xs ys).take i ++ [g x y] := by
  rw [List.take_add_one, List.getElem?_zipWith, h1, h2]
  rfl
section
variable {X : Cx} {M : List Addr} {σ : L2.St} {H H' : Hp} {e a b c o elt tg iter iter1 tg1 : Expr} {ifs : List Expr} {scope : Scope} {own : List (Str × Nat)} {es : List Expr} {d d1 d2 : PyData} {ds ds2 eds : List PyData} {x : Str} {v : V} {pos p1 p2 p3 tpos py spos : Pos} {D : Ends} {rest : List Stmt} {Q : VK}
theorem re_up (h : ∀ H1, Same H H1 → RE X e σ H1 Q) : RE X e σ H Q := h H (Same.refl H)
theorem out_of {p : Addr} {M : List Addr} {H : Hp} {vs : List V} {ds : List PyData} {K : PySem.W.Frag} (h : DqAll K (hid (p :: M) H) vs ds) : DqAll K (hid M H) vs ds := h.up fun b o e => by
  have n1 : b ∉ p :: M := fun z => by unfold hid at e; rw [if_pos z] at e; cases e
  rw [hid_of (fun z => n1 (List.mem_cons_of_mem _ z))]
  exact hid_le _ _ e
/-- [elt for (i, x) in enumerate(e)], e a tuple -/
theorem xl_enumT {elts : List Expr} {kk : Nat} (g : Nat → PyData → PyData) (hm : X.mg "enumerate" = none) (L : Live M H) (hN : X.N.Nodup) (ha : XD X M σ H a (.tuple ds)) (ok : BlkOk X.N X.env.scope scope own) (hz : ds.length ≤ 100000)
    (hst : ∀ p (i : Nat) d T y H1, ds[i]? = some d → H p = none → Same H H1 → Live (p :: M) H1 → Dq X.K (hid (p :: M) H1) y d → H1 T = some (.tup [.int (i : Nat), y]) → BG X scope (.Tuple elts kk tpos) (.ref T) (wipe σ (own.map (·.2))) H1 fun τ H2 => wipe τ (own.map (·.2)) = wipe σ (own.map (·.2)) ∧ Same H1 H2 ∧
      BE X scope elt τ H2 fun u H3 => Same H2 H3 ∧ Dq X.K (hid (p :: M) H3) u (g i d))
    (hc : X.calm = true := by rfl) (hs : ∀ x, foldedSetIterable (.Call (.Name "enumerate" p1) [a] [] p2) X.env x = pure x := by intro _; rfl) (hg : Gl X "enumerate" := by rfl) (he : starEach [a] X.env = [(false, eval a X.env)] := by rfl) :
    XL X M σ H (.ListComp elt [⟨.Tuple elts kk tpos, .Call (.Name "enumerate" p1) [a] [] p2, [], 0⟩] scope pos) (enumM g 0 ds) := fun H1 s1 Q q =>
  ⟨_, pe_lc (own := own) hc hN (pi_enumT hg hm ra_ he) ok (fun _ _ _ _ _ => bg_) (fun _ _ _ _ _ => bt_) (fun _ _ _ _ _ => be_) hs, ra_1 (ha H1 s1 _ fun v H2 s2 hv => by
    obtain ⟨t, xs, rfl, ht, hx⟩ := dp_tup hv
    have ht0 := same_seqT hid_le ht
    have L2' : Live M H2 := L.mono (s1.trans s2)
    refine ⟨t, xs, rfl, ht0, fun p hp => ?_⟩
    have hp0 : H p = none := (s1.trans s2).free hp
    refine ⟨fun i m Hx => m + i = xs.length ∧ Same H2 Hx ∧ ∃ acc, Hx p = some (.lst acc) ∧ DqAll X.K (hid (p :: M) Hx) acc (enumM g 0 (ds.take i)), ⟨xs.length, rfl, same_new hp, [], upd_same, .nil⟩, fun i m Hx w => ?_⟩
    obtain ⟨hmi, sx, acc, hacc, hda⟩ := w
    have gt : SqT X.K Hx t xs := same_seqT sx ht0
    cases ex : xs[i]? with
    | none =>
      have hge : xs.length ≤ i := List.getElem?_eq_none_iff.mp ex
      have ei : ds.take i = ds := List.take_of_length_le (by rw [← dpa_len hx]; exact hge)
      rw [ei] at hda
      exact .inl ⟨⟨xs, gt, hge⟩, q p acc Hx (s2.trans sx) (s2.free hp) hacc (out_of hda)⟩
    | some x0 =>
      have hlt := (List.getElem?_eq_some_iff.mp ex).1
      refine .inr ⟨⟨xs, x0, gt, ex⟩, fun Hy => Same H2 Hy ∧ ∃ acc, Hy p = some (.lst acc) ∧ DqAll X.K (hid (p :: M) Hy) acc (enumM g 0 (ds.take (i + 1))), fun Hy hy => ⟨m - 1, by omega, by omega, hy⟩, fun v Hy hyl => ?_⟩
      obtain ⟨T, y, rfl, hT, rfl, h1⟩ := hyl
      obtain ⟨d, hd1, hd2⟩ := dpa_get' hx (h1 xs gt)
      have sy : Same Hx (upd Hx T (.tup [.int (i : Nat), y])) := same_new hT
      have hpy := sy _ _ hacc
      have Lp : Live (p :: M) (upd Hx T (.tup [.int (i : Nat), y])) := fun b hb => by
        rcases List.mem_cons.mp hb with z | hb
        · subst z; rw [hpy]; simp
        · exact (L2'.mono sx).mono sy b hb
      have hids : Same (hid M H2) (hid (p :: M) (upd Hx T (.tup [.int (i : Nat), y]))) := hid_step hp (sx.trans sy)
      refine bg_mono (hst p i d T y _ hd1 hp0 (((s1.trans s2).trans sx).trans sy) Lp (hd2.up hids) upd_same) fun τ Ha ⟨hw, sa, hbe⟩ => ⟨hw, bt_nil (iteT (be_mono hbe fun u Hb ⟨sb, hu⟩ => ?_))⟩
      have sd := (sy.trans sa).trans sb
      refine ⟨acc, sd _ _ hacc, ?_, fun b o e => ?_, acc ++ [u], upd_same, ?_⟩
      · have h4 : 100000 < sizeLine := by decide
        have h5 : (enumM g 0 (ds.take i)).length ≤ i := by rw [enumM_len, List.length_take]; omega
        have h6 := dpa_len hx
        rw [dpa_len hda]
        omega
      · rw [upd_ne (ne_of_none e hp)]
        exact sd _ _ (sx _ _ e)
      · rw [hid_upd_ne, List.take_add_one, hd1]
        show DqAll X.K (hid (p :: M) Hb) (acc ++ [u]) (enumM g 0 (ds.take i ++ [d]))
        have hl : (ds.take i).length = i := by rw [List.length_take]; have := (List.getElem?_eq_some_iff.mp hd1).1; omega
        rw [enumM_snoc, hl, Nat.zero_add]
        exact dpa_app (hda.up (hid_mono sd)) (.cons hu .nil)) he⟩
/-- .. over a list, as a statement of its own line -/
theorem lc_enumL {elts : List Expr} {kk : Nat} (g : Nat → PyData → PyData) (L : Live M H) (ha : XD X M σ H a (.list ds)) (hz : ds.length ≤ 100000)
    (hst : ∀ p (i : Nat) d T y H1, ds[i]? = some d → H p = none → Same H H1 → Live (p :: M) H1 → Dq X.K (hid (p :: M) H1) y d → H1 T = some (.tup [.int (i : Nat), y]) → BG X scope (.Tuple elts kk tpos) (.ref T) (wipe σ (own.map (·.2))) H1 fun τ H2 => wipe τ (own.map (·.2)) = wipe σ (own.map (·.2)) ∧ Same H1 H2 ∧
      BE X scope elt τ H2 fun u H3 => Same H2 H3 ∧ Dq X.K (hid (p :: M) H3) u (g i d))
    (q : ∀ p xs H2, Same H H2 → H p = none → H2 p = some (.lst xs) → DqAll X.K (hid M H2) xs (enumM g 0 ds) → Q (.ref p) H2) (he1 : starEach [a] X.env = (false, eval a X.env) :: starEach [] X.env := by rfl) :
    tLc (iEnum X.K (RA X [a])) (BG X scope (.Tuple elts kk tpos)) (BT X scope []) (BE X scope elt) (own.map (·.2)) σ H Q :=
  ra_1 (ha H (Same.refl H) _ fun v H2 s2 hv => by
    obtain ⟨t, xs, rfl, ht, hx⟩ := dp_lst hv
    have ht0 := hid_le _ _ ht
    have L2' : Live M H2 := L.mono s2
    refine ⟨t, xs, rfl, SqL.of ht0, fun p hp => ?_⟩
    have hp0 : H p = none := s2.free hp
    refine ⟨fun i m Hx => m + i = xs.length ∧ Same H2 Hx ∧ ∃ acc, Hx p = some (.lst acc) ∧ DqAll X.K (hid (p :: M) Hx) acc (enumM g 0 (ds.take i)), ⟨xs.length, rfl, same_new hp, [], upd_same, .nil⟩, fun i m Hx w => ?_⟩
    obtain ⟨hmi, sx, acc, hacc, hda⟩ := w
    have gt : SqL X.K Hx t xs := SqL.of (sx _ _ ht0)
    cases ex : xs[i]? with
    | none =>
      have hge : xs.length ≤ i := List.getElem?_eq_none_iff.mp ex
      have ei : ds.take i = ds := List.take_of_length_le (by rw [← dpa_len hx]; exact hge)
      rw [ei] at hda
      exact .inl ⟨⟨xs, gt, hge⟩, q p acc Hx (s2.trans sx) (s2.free hp) hacc (out_of hda)⟩
    | some x0 =>
      have hlt := (List.getElem?_eq_some_iff.mp ex).1
      refine .inr ⟨⟨xs, x0, gt, ex⟩, fun Hy => Same H2 Hy ∧ ∃ acc, Hy p = some (.lst acc) ∧ DqAll X.K (hid (p :: M) Hy) acc (enumM g 0 (ds.take (i + 1))), fun Hy hy => ⟨m - 1, by omega, by omega, hy⟩, fun v Hy hyl => ?_⟩
      obtain ⟨T, y, rfl, hT, rfl, h1⟩ := hyl
      obtain ⟨d, hd1, hd2⟩ := dpa_get' hx (h1 xs gt)
      have sy : Same Hx (upd Hx T (.tup [.int (i : Nat), y])) := same_new hT
      have hpy := sy _ _ hacc
      have Lp : Live (p :: M) (upd Hx T (.tup [.int (i : Nat), y])) := fun b hb => by
        rcases List.mem_cons.mp hb with z | hb
        · subst z; rw [hpy]; simp
        · exact (L2'.mono sx).mono sy b hb
      have hids : Same (hid M H2) (hid (p :: M) (upd Hx T (.tup [.int (i : Nat), y]))) := hid_step hp (sx.trans sy)
      refine bg_mono (hst p i d T y _ hd1 hp0 ((s2.trans sx).trans sy) Lp (hd2.up hids) upd_same) fun τ Ha ⟨hw, sa, hbe⟩ => ⟨hw, bt_nil (iteT (be_mono hbe fun u Hb ⟨sb, hu⟩ => ?_))⟩
      have sd := (sy.trans sa).trans sb
      refine ⟨acc, sd _ _ hacc, ?_, fun b o e => ?_, acc ++ [u], upd_same, ?_⟩
      · have h4 : 100000 < sizeLine := by decide
        have h5 : (enumM g 0 (ds.take i)).length ≤ i := by rw [enumM_len, List.length_take]; omega
        have h6 := dpa_len hx
        rw [dpa_len hda]
        omega
      · rw [upd_ne (ne_of_none e hp)]
        exact sd _ _ (sx _ _ e)
      · rw [hid_upd_ne, List.take_add_one, hd1]
        show DqAll X.K (hid (p :: M) Hb) (acc ++ [u]) (enumM g 0 (ds.take i ++ [d]))
        have hl : (ds.take i).length = i := by rw [List.length_take]; have := (List.getElem?_eq_some_iff.mp hd1).1; omega
        rw [enumM_snoc, hl, Nat.zero_add]
        exact dpa_app (hda.up (hid_mono sd)) (.cons hu .nil)) he1
/-- [elt for (x, y) in zip(a, b)] -/
theorem lc_zip {elts : List Expr} {kk : Nat} (g : PyData → PyData → PyData) (L : Live M H) (ha : XD X M σ H a (.list ds)) (hb : XD X M σ H b (.list ds2)) (hz : ds.length ≤ 100000)
    (hst : ∀ p (i : Nat) d d2 T y z H1, ds[i]? = some d → ds2[i]? = some d2 → H p = none → Same H H1 → Live (p :: M) H1 → Dq X.K (hid (p :: M) H1) y d → Dq X.K (hid (p :: M) H1) z d2 → H1 T = some (.tup [y, z]) → BG X scope (.Tuple elts kk tpos) (.ref T) (wipe σ (own.map (·.2))) H1 fun τ H2 => wipe τ (own.map (·.2)) = wipe σ (own.map (·.2)) ∧ Same H1 H2 ∧
      BE X scope elt τ H2 fun u H3 => Same H2 H3 ∧ Dq X.K (hid (p :: M) H3) u (g d d2))
    (q : ∀ p xs H2, Same H H2 → H p = none → H2 p = some (.lst xs) → DqAll X.K (hid M H2) xs (List.zipWith g ds ds2) → Q (.ref p) H2)
    (he : starEach [a, b] X.env = (false, eval a X.env) :: starEach [b] X.env := by rfl) (he2 : starEach [b] X.env = (false, eval b X.env) :: starEach [] X.env := by rfl) :
    tLc (iZip X.K (RA X [a, b])) (BG X scope (.Tuple elts kk tpos)) (BT X scope []) (BE X scope elt) (own.map (·.2)) σ H Q :=
  ra_cons (ha H (Same.refl H) _ fun v H2 s2 hv => ra_1 (hb H2 s2 _ fun u H3 s3 hu => by
    obtain ⟨pa, xs, rfl, hpa, hx⟩ := dp_lst (hv.up (hid_mono s3))
    obtain ⟨pb, ys, rfl, hpb, hy⟩ := dp_lst hu
    have s03 := s2.trans s3
    have L3 : Live M H3 := L.mono s03
    refine ⟨pa, pb, xs, ys, rfl, SqL.of (hid_le _ _ hpa), SqL.of (hid_le _ _ hpb), fun p hp => ?_⟩
    have hp0 : H p = none := s03.free hp
    have hlx := dpa_len hx
    have hly := dpa_len hy
    refine ⟨fun i m Hx => m + i = min xs.length ys.length ∧ Same H3 Hx ∧ ∃ acc, Hx p = some (.lst acc) ∧ DqAll X.K (hid (p :: M) Hx) acc ((List.zipWith g ds ds2).take i), ⟨min xs.length ys.length, rfl, same_new hp, [], upd_same, .nil⟩, fun i m Hx w => ?_⟩
    obtain ⟨hmi, sx, acc, hacc, hda⟩ := w
    have ga : SqL X.K Hx pa xs := SqL.of (sx _ _ (hid_le _ _ hpa))
    have gb : SqL X.K Hx pb ys := SqL.of (sx _ _ (hid_le _ _ hpb))
    by_cases hlt : i < min xs.length ys.length
    · have l1 : i < xs.length := by omega
      have l2 : i < ys.length := by omega
      refine .inr ⟨⟨xs, ys, xs[i], ys[i], ga, gb, List.getElem?_eq_getElem l1, List.getElem?_eq_getElem l2⟩, fun Hy => Same H3 Hy ∧ ∃ acc, Hy p = some (.lst acc) ∧ DqAll X.K (hid (p :: M) Hy) acc ((List.zipWith g ds ds2).take (i + 1)), fun Hy hy => ⟨m - 1, by omega, by omega, hy⟩, fun v Hy hyl => ?_⟩
      obtain ⟨T, y, z, rfl, hT, rfl, h1, h2⟩ := hyl
      obtain ⟨d, hd1, hd2⟩ := dpa_get' hx (h1 xs ga)
      obtain ⟨d2, hd3, hd4⟩ := dpa_get' hy (h2 ys gb)
      have sy : Same Hx (upd Hx T (.tup [y, z])) := same_new hT
      have hpy := sy _ _ hacc
      have Lp : Live (p :: M) (upd Hx T (.tup [y, z])) := fun b hb => by
        rcases List.mem_cons.mp hb with z | hb
        · subst z; rw [hpy]; simp
        · exact (L3.mono sx).mono sy b hb
      have hids : Same (hid M H3) (hid (p :: M) (upd Hx T (.tup [y, z]))) := hid_step hp (sx.trans sy)
      refine bg_mono (hst p i d d2 T y z _ hd1 hd3 hp0 ((s03.trans sx).trans sy) Lp (hd2.up hids) (hd4.up hids) upd_same) fun τ Ha ⟨hw, sa, hbe⟩ => ⟨hw, bt_nil (iteT (be_mono hbe fun u Hb ⟨sb, hu⟩ => ?_))⟩
      have sd := (sy.trans sa).trans sb
      refine ⟨acc, sd _ _ hacc, ?_, fun b o e => ?_, acc ++ [u], upd_same, ?_⟩
      · have h4 : 100000 < sizeLine := by decide
        have h5 : ((List.zipWith g ds ds2).take i).length ≤ i := by rw [List.length_take]; omega
        rw [dpa_len hda]
        omega
      · rw [upd_ne (ne_of_none e hp)]
        exact sd _ _ (sx _ _ e)
      · rw [hid_upd_ne, zip_snoc g hd1 hd3]
        exact dpa_app (hda.up (hid_mono sd)) (.cons hu .nil)
    · have ei : (List.zipWith g ds ds2).take i = List.zipWith g ds ds2 := List.take_of_length_le (by rw [List.length_zipWith]; omega)
      rw [ei] at hda
      exact .inl ⟨⟨xs, ys, ga, gb, by omega⟩, q p acc Hx (s03.trans sx) hp0 hacc (out_of hda)⟩) he2) he
/-- [elt for tg in iter for tg1 in iter1], iter a list, iter1 always the tuple eds -/
theorem lc_comp2 {vs1 : List Nat} (g : PyData → PyData → PyData) (L : Live M H) (hit : XD X M σ H iter (.list ds)) (hz : ds.length * eds.length ≤ 100000)
    (hst : ∀ p d v H1, d ∈ ds → H p = none → Same H H1 → Live (p :: M) H1 → Dq X.K (hid (p :: M) H1) v d → BG X scope tg v (wipe σ (own.map (·.2))) H1 fun τ H2 => wipe τ (own.map (·.2)) = wipe σ (own.map (·.2)) ∧ Same H1 H2 ∧
      (∀ (s : Shared) (H0 : Hp) (C : Addr) (cl : List (Str × Addr)) (fp : List Addr), XD (X.blk s H0 scope (compEnvC scope cl C X.env) fp) (p :: M) τ H2 iter1 (.tuple eds)) ∧
      ∀ ed w H3, ed ∈ eds → (∀ b o, b ≠ p → H2 b = some o → H3 b = some o) → Live (p :: M) H3 → Dq X.K (hid (p :: M) H3) w ed → BG X scope tg1 w (wipe τ vs1) H3 fun τ2 H4 => wipe τ2 vs1 = wipe τ vs1 ∧ Same H3 H4 ∧ BE X scope elt τ2 H4 fun u H5 => Same H4 H5 ∧ Dq X.K (hid (p :: M) H5) u (g d ed))
    (q : ∀ p xs H2, Same H H2 → H p = none → H2 p = some (.lst xs) → DqAll X.K (hid M H2) xs (ds.flatMap fun d => eds.map (g d)) → Q (.ref p) H2) :
    tLc2 (iList X.K (RE X iter)) (BG X scope tg) (BT X scope []) (iTup X.K (BE X scope iter1)) (BG X scope tg1) (BT X scope []) (BE X scope elt) (own.map (·.2)) vs1 σ H Q :=
  hit H (Same.refl H) _ fun v H2 s2 hv => by
    obtain ⟨a, xs, rfl, ha, hx⟩ := dp_lst hv
    have L2' : Live M H2 := L.mono s2
    have hlx := dpa_len hx
    refine ⟨a, rfl, ⟨xs, SqL.of (hid_le _ _ ha)⟩, fun p hp => ?_⟩
    have hp0 : H p = none := s2.free hp
    have flen : ∀ l : List PyData, (l.flatMap fun d => eds.map (g d)).length = l.length * eds.length := fun l => by
      induction l with
      | nil => simp
      | cons x l ih => rw [List.flatMap_cons, List.length_append, ih, List.length_map, List.length_cons, Nat.succ_mul]; omega
    refine ⟨fun i m Hx => m + i = xs.length ∧ Same H2 Hx ∧ ∃ acc, Hx p = some (.lst acc) ∧ DqAll X.K (hid (p :: M) Hx) acc ((ds.take i).flatMap fun d => eds.map (g d)), ⟨xs.length, rfl, same_new hp, [], upd_same, .nil⟩, fun i m Hx w => ?_⟩
    obtain ⟨hmi, sx, acc, hacc, hda⟩ := w
    have gt : SqL X.K Hx a xs := SqL.of (sx _ _ (hid_le _ _ ha))
    cases ex : xs[i]? with
    | none =>
      have hge : xs.length ≤ i := List.getElem?_eq_none_iff.mp ex
      have ei : ds.take i = ds := List.take_of_length_le (by omega)
      rw [ei] at hda
      exact .inl ⟨⟨xs, gt, hge⟩, q p acc Hx (s2.trans sx) (s2.free hp) hacc (out_of hda)⟩
    | some x0 =>
      have hlt := (List.getElem?_eq_some_iff.mp ex).1
      refine .inr ⟨⟨xs, x0, gt, ex⟩, fun Hy => Same H2 Hy ∧ ∃ acc, Hy p = some (.lst acc) ∧ DqAll X.K (hid (p :: M) Hy) acc ((ds.take (i + 1)).flatMap fun d => eds.map (g d)), fun Hy hy => ⟨m - 1, by omega, by omega, hy⟩, fun v Hy hyl => ?_⟩
      obtain ⟨rfl, h1⟩ := hyl
      obtain ⟨d, hd1, hd2⟩ := dpa_get' hx (h1 xs gt)
      have hdi := (List.getElem?_eq_some_iff.mp hd1).1
      have Lp : Live (p :: M) Hy := fun b hb => by
        rcases List.mem_cons.mp hb with z | hb
        · subst z; rw [hacc]; simp
        · exact L2'.mono sx b hb
      refine bg_mono (hst p d v Hy (List.mem_of_getElem? hd1) hp0 (s2.trans sx) Lp (hd2.up (hid_step hp sx))) fun τ Ha ⟨hw, sa, hin, hel⟩ => ⟨hw, bt_nil (iteT fun s0 H0 C0 cl fp => ?_)⟩
      refine hin s0 H0 C0 cl fp Ha (Same.refl _) _ fun w Hb sb hwv => ?_
      obtain ⟨a1, ys, rfl, ha1, hy⟩ := dp_tup hwv
      have ha10 := same_seqT hid_le ha1
      have hly := dpa_len hy
      refine ⟨a1, rfl, ⟨ys, ha10⟩, ?_⟩
      have sab := sa.trans sb
      have pMem : p ∈ p :: M := List.mem_cons_self ..
      have hbp : Hb p = some (.lst acc) := sab _ _ hacc
      have upM : ∀ {Hz : Hp}, (∀ b o, b ≠ p → Hb b = some o → Hz b = some o) → Same (hid (p :: M) Hb) (hid (p :: M) Hz) := fun {Hz} z b o e => by
        have n1 : b ∉ p :: M := fun y => by unfold hid at e; rw [if_pos y] at e; cases e
        rw [hid_of n1]
        rw [hid_of n1] at e
        exact z b o (fun y => n1 (by rw [y]; exact pMem)) e
      refine ⟨fun j k Hz => k + j = ys.length ∧ (∀ b o, b ≠ p → Hb b = some o → Hz b = some o) ∧ ∃ acc', Hz p = some (.lst acc') ∧ DqAll X.K (hid (p :: M) Hz) acc' (((ds.take i).flatMap fun d => eds.map (g d)) ++ (eds.take j).map (g d)), ⟨ys.length, rfl, fun b o _ e => e, acc, hbp, ?_⟩, fun j k Hz hz => ?_⟩
      · simpa using hda.up (hid_mono sab)
      · obtain ⟨hkj, sz, acc', hacc', hda'⟩ := hz
        have gz : SqT X.K Hz a1 ys := by
          rcases ha1 with (h | ⟨o, h⟩) | h
          · exact .inl (.inl (hid_le _ _ (upM sz _ _ h)))
          · exact .inl (.inr ⟨o, hid_le _ _ (upM sz _ _ h)⟩)
          · exact .inr h
        have s2z : Same H2 Hz := fun b o e => sz b o (ne_of_none e hp) (sab b o (sx b o e))
        cases ey : ys[j]? with
        | none =>
          have hge : ys.length ≤ j := List.getElem?_eq_none_iff.mp ey
          have ej : eds.take j = eds := List.take_of_length_le (by omega)
          rw [ej] at hda'
          refine .inl ⟨⟨ys, gz, hge⟩, s2z, acc', hacc', ?_⟩
          rw [List.take_add_one, hd1]
          show DqAll X.K (hid (p :: M) Hz) acc' ((ds.take i ++ [d]).flatMap fun d => eds.map (g d))
          rw [List.flatMap_append]
          simpa using hda'
        | some y0 =>
          have hltj := (List.getElem?_eq_some_iff.mp ey).1
          refine .inr ⟨⟨ys, y0, gz, ey⟩, fun Hu => (∀ b o, b ≠ p → Hb b = some o → Hu b = some o) ∧ ∃ acc', Hu p = some (.lst acc') ∧ DqAll X.K (hid (p :: M) Hu) acc' (((ds.take i).flatMap fun d => eds.map (g d)) ++ (eds.take (j + 1)).map (g d)), fun Hu hu => ⟨k - 1, by omega, by omega, hu⟩, fun v Hu hyl => ?_⟩
          obtain ⟨rfl, h2⟩ := hyl
          obtain ⟨ed, he1, he2⟩ := dpa_get' hy (h2 ys gz)
          have Lz : Live (p :: M) Hu := fun b hb => by
            by_cases z : b = p
            · subst z; rw [hacc']; simp
            · intro q0
              rcases List.mem_cons.mp hb with y | hb
              · exact z y
              · cases q1 : Hb b with
                | none => exact ((L2'.mono sx).mono sab) b hb q1
                | some o => rw [sz b o z q1] at q0; cases q0
          refine bg_mono (hel ed v Hu (List.mem_of_getElem? he1) (fun b o nb e => sz b o nb (sb b o e)) Lz (he2.up (upM sz))) fun τ2 Hc ⟨hw2, sc, hbe⟩ => ⟨hw2, bt_nil (iteT (be_mono hbe fun u Hd ⟨sd, hu⟩ => ?_))⟩
          have scd := sc.trans sd
          refine ⟨acc', scd _ _ hacc', ?_, fun b o nb e => ?_, acc' ++ [u], upd_same, ?_⟩
          · have h4 : 100000 < sizeLine := by decide
            have h7 : i * eds.length + eds.length ≤ ds.length * eds.length := by
              have : (i + 1) * eds.length ≤ ds.length * eds.length := Nat.mul_le_mul_right _ hdi
              rw [Nat.succ_mul] at this; exact this
            have h8 : (ds.take i).length ≤ i := by rw [List.length_take]; omega
            have h9 := Nat.mul_le_mul_right eds.length h8
            have h10 : (eds.take j).length ≤ j := by rw [List.length_take]; omega
            rw [dpa_len hda', List.length_append, flen, List.length_map]
            omega
          · rw [upd_ne nb]
            exact scd _ _ (sz b o nb e)
          · rw [hid_upd_ne, List.take_add_one, he1]
            show DqAll X.K (hid (p :: M) Hd) (acc' ++ [u]) (((ds.take i).flatMap fun d => eds.map (g d)) ++ (eds.take j ++ [ed]).map (g d))
            rw [List.map_append, ← List.append_assoc]
            exact dpa_app (hda'.up (hid_mono scd)) (.cons hu .nil)
/-- x = .., such a comprehension, on one line -/
theorem rb_setC2 (i : Nat) {vs1 : List Nat} (g : PyData → PyData → PyData) (L : Live M H) (hN : X.N.Nodup) (hit : XD X M σ H iter (.list ds)) (ok : BlkOk X.N X.env.scope scope own) (hv : ∀ i ∈ vs1, i ∈ own.map (·.2)) (hz : ds.length * eds.length ≤ 100000)
    (hst : ∀ p d v H1, d ∈ ds → H p = none → Same H H1 → Live (p :: M) H1 → Dq X.K (hid (p :: M) H1) v d → BG X scope tg v (wipe σ (own.map (·.2))) H1 fun τ H2 => wipe τ (own.map (·.2)) = wipe σ (own.map (·.2)) ∧ Same H1 H2 ∧
      (∀ (s : Shared) (H0 : Hp) (C : Addr) (cl : List (Str × Addr)) (fp : List Addr), XD (X.blk s H0 scope (compEnvC scope cl C X.env) fp) (p :: M) τ H2 iter1 (.tuple eds)) ∧
      ∀ ed w H3, ed ∈ eds → (∀ b o, b ≠ p → H2 b = some o → H3 b = some o) → Live (p :: M) H3 → Dq X.K (hid (p :: M) H3) w ed → BG X scope tg1 w (wipe τ vs1) H3 fun τ2 H4 => wipe τ2 vs1 = wipe τ vs1 ∧ Same H3 H4 ∧ BE X scope elt τ2 H4 fun u H5 => Same H4 H5 ∧ Dq X.K (hid (p :: M) H5) u (g d ed))
    (q : ∀ p xs H2, Same H H2 → H p = none → H2 p = some (.lst xs) → DqAll X.K (hid M H2) xs (ds.flatMap fun d => eds.map (g d)) → RB X rest D (σ.set i (some (.ref p))) H2)
    (hi : X.N[i]? = some x := by rfl) (hx : X.env.scope.names.lookup x = some .local := by rfl) (hsw : swapsWith (.ListComp elt [⟨tg, iter, [], 0⟩, ⟨tg1, iter1, [], 0⟩] scope pos) (some (.Name x py)) spos.line X.env = pure true := by exact sw_true rfl rfl rfl rfl)
    (hc : X.calm = true := by rfl) (hs : ∀ x, foldedSetIterable iter X.env x = pure x := by intro _; rfl) (hs1 : ∀ env x, foldedSetIterable iter1 env x = pure x := by intro _ _; rfl) : RB X (.Assign [.Name x py] (.ListComp elt [⟨tg, iter, [], 0⟩, ⟨tg1, iter1, [], 0⟩] scope pos) spos :: rest) D σ H :=
  ⟨_, pss_cons (ps_setLc2 (own := own) (vs1 := vs1) hc hN hi hx hsw (pi_list re_) ok hv (fun _ _ _ _ _ => bg_) (fun _ _ _ _ _ => bt_) (fun _ _ _ _ _ => pi_tup be_) (fun _ _ _ _ _ => bg_) (fun _ _ _ _ _ => bt_) (fun _ _ _ _ _ => be_) hs hs1) rb_,
    lc_comp2 (own := own) (vs1 := vs1) (Q := fun v H1 => RB X rest D (σ.set i (some v)) H1) g L hit hz hst q⟩
/-- *e, e a tuple, in a display -/
theorem xa_starT {sp : Pos} (ha : XD X M σ H e (.tuple ds)) (hr : XA X M σ H es ds2) (hs : starEach (.Starred e sp :: es) X.env = (true, eval e X.env) :: starEach es X.env := by rfl) : XA X M σ H (.Starred e sp :: es) (ds ++ ds2) := fun H1 s Q q =>
  ⟨_, StX.pa_star re_ ra_ hs, ha H1 s _ fun v H2 s2 hv => by
    obtain ⟨p, xs, rfl, hp, hx⟩ := dp_tup hv
    exact ⟨p, xs, rfl, .inl (same_seqT hid_le hp), hr H2 (s.trans s2) _ fun vs H3 s3 hvs => q _ H3 (s2.trans s3) (dpa_app (hx.up (hid_mono s3)) hvs)⟩⟩
end
end Dl

set_option Elab.async false
set_option linter.all false
set_option maxRecDepth 100000
set_option maxHeartbeats 8000000
/-! Data layer: lists of things of any kind (objects), by a relation that lasts -/
namespace Dl
open PySem PySem.Spec PyProof.Rows L2
structure Rl (α : Type) where
  r : Hp → V → α → Prop
  up : ∀ {H H' : Hp} {v : V} {a : α}, Same H H' → r H v a → r H' v a
inductive RAll {α : Type} (R : Rl α) (H : Hp) : List V → List α → Prop
  | nil : RAll R H [] []
  | cons {v : V} {vs : List V} {a : α} {as : List α} : R.r H v a → RAll R H vs as → RAll R H (v :: vs) (a :: as)
section
variable {α β γ : Type} {R : Rl α} {H H' : Hp}
theorem RAll.up (s : Same H H') : ∀ {vs : List V} {as : List α}, RAll R H vs as → RAll R H' vs as
  | _, _, .nil => .nil
  | _, _, .cons a b => .cons (R.up s a) (b.up s)
theorem ral_len : ∀ {vs : List V} {as : List α}, RAll R H vs as → vs.length = as.length
  | _, _, .nil => rfl
  | _, _, .cons _ h => by rw [List.length_cons, List.length_cons, ral_len h]
theorem ral_app : ∀ {vs ws : List V} {as bs : List α}, RAll R H vs as → RAll R H ws bs → RAll R H (vs ++ ws) (as ++ bs)
  | _, _, _, _, .nil, h => h
  | _, _, _, _, .cons a b, h => .cons a (ral_app b h)
theorem ral_get : ∀ {vs : List V} {as : List α} {i : Nat} {a : α}, RAll R H vs as → as[i]? = some a → ∃ v, vs[i]? = some v ∧ R.r H v a
  | _, _, _, _, .nil, e => by simp at e
  | _, _, 0, _, .cons a _, e => by simp at e; subst e; exact ⟨_, rfl, a⟩
  | _, _, i + 1, d, .cons _ b, e => by
    obtain ⟨v, h1, h2⟩ := ral_get (i := i) (a := d) b (by simpa using e)
    exact ⟨v, by simpa using h1, h2⟩
theorem ral_get' : ∀ {vs : List V} {as : List α} {i : Nat} {v : V}, RAll R H vs as → vs[i]? = some v → ∃ a, as[i]? = some a ∧ R.r H v a
  | _, _, _, _, .nil, e => by simp at e
  | _, _, 0, _, .cons a _, e => by simp at e; subst e; exact ⟨_, rfl, a⟩
  | _, _, i + 1, v, .cons _ b, e => by
    obtain ⟨d, h1, h2⟩ := ral_get' (i := i) (v := v) b (by simpa using e)
    exact ⟨d, by simpa using h1, h2⟩
def Rl.lst {α : Type} (R : Rl α) : Rl (List α) := ⟨fun H v as => ∃ a xs, v = .ref a ∧ H a = some (.lst xs) ∧ RAll R H xs as, fun s ⟨a, xs, e, h1, h2⟩ => ⟨a, xs, e, s _ _ h1, h2.up s⟩⟩
/-- data as such a relation -/
def RD (K : PySem.W.Frag) : Rl PyData := ⟨fun H v d => Dq K H v d, fun s h => h.up s⟩
end
/-- the expression tells a thing; a new list of things -/
def XG (X : Cx) (M : List Addr) (σ : L2.St) (H : Hp) (e : Expr) {α : Type} (R : Rl α) (a : α) : Prop := ∀ H1, Same H H1 → ∀ Q : VK, (∀ v H2, Same H1 H2 → R.r (hid M H2) v a → Q v H2) → RE X e σ H1 Q
def XGL (X : Cx) (M : List Addr) (σ : L2.St) (H : Hp) (e : Expr) {α : Type} (R : Rl α) (as : List α) : Prop :=
  ∀ H1, Same H H1 → ∀ Q : VK, (∀ p xs H2, Same H1 H2 → H1 p = none → H2 p = some (.lst xs) → RAll R (hid M H2) xs as → Q (.ref p) H2) → RE X e σ H1 Q
section
variable {α β γ : Type} {R : Rl α} {Ra : Rl α} {Rm : Rl β} {Ro : Rl γ}
variable {X : Cx} {M : List Addr} {σ : L2.St} {H H' : Hp} {e a b c o elt tg iter iter1 tg1 : Expr} {ifs : List Expr} {scope : Scope} {own : List (Str × Nat)} {es : List Expr} {d d1 d2 : PyData} {ds ds2 eds : List PyData} {x : Str} {v : V} {pos p1 p2 p3 tpos py spos : Pos} {D : Ends} {rest : List Stmt} {Q : VK} {t : α} {ts us : List α}
theorem XG.go (h : XG X M σ H e R t) (k : ∀ v H2, Same H H2 → R.r (hid M H2) v t → Q v H2) : RE X e σ H Q := h H (Same.refl H) Q k
theorem XGL.go (h : XGL X M σ H e R ts) (k : ∀ p xs H2, Same H H2 → H p = none → H2 p = some (.lst xs) → RAll R (hid M H2) xs ts → Q (.ref p) H2) : RE X e σ H Q := h H (Same.refl H) Q k
theorem XG.up (h : XG X M σ H e R t) (s : Same H H') : XG X M σ H' e R t := fun H1 q => h H1 (s.trans q)
theorem XG.to {t' : α} (h : XG X M σ H e R t) (q : t = t') : XG X M σ H e R t' := q ▸ h
theorem XGL.to (h : XGL X M σ H e R ts) (q : ts = us) : XGL X M σ H e R us := q ▸ h
theorem XGL.dd (h : XGL X M σ H e R ts) (L : Live M H) : XG X M σ H e R.lst ts := fun H1 s Q q => h H1 s Q fun p xs H2 s2 hp h2 hd =>
  q _ H2 s2 ⟨p, xs, rfl, by rw [hid_of (fun z => (L.mono s) p z hp)]; exact h2, hd⟩
theorem xg_v (hv : XV X σ H e v) (h : R.r (hid M H) v t) : XG X M σ H e R t := fun H1 s Q q => hv H1 s Q fun H2 s2 => q v H2 s2 (R.up (hid_mono (s.trans s2)) h)
theorem xg_d (h : XD X M σ H e d) : XG X M σ H e (RD X.K) d := h
/-! displays -/
theorem xgl_nil : XGL X M σ H (.List [] pos) R ([] : List α) := fun H1 s Q q =>
  ⟨_, pe_lst ra_, ra_nil ⟨by show 0 ≤ sizeLine; decide, fun p hp => q p [] _ (same_new hp) hp upd_same .nil⟩⟩
theorem xgl_one (L : Live M H) (h : XG X M σ H e R t) (hs : starEach [e] X.env = (false, eval e X.env) :: starEach [] X.env := by rfl) : XGL X M σ H (.List [e] pos) R [t] := fun H1 s Q q =>
  ⟨_, pe_lst ra_, ra_1 (h H1 s _ fun v H2 s2 hv => ⟨by show 1 ≤ sizeLine; decide, fun p hp => q p [v] _ (s2.trans (same_new hp)) (s2.free hp) upd_same (by
    rw [hid_new (L.mono (s.trans s2)) hp]
    exact .cons (R.up (same_new (hid_free hp)) hv) .nil)⟩) hs⟩
/-! an item; the truth of a list; its length -/
theorem xg_ix {n : Int} (hs : PlainIx b) (ha : XG X M σ H a R.lst ts) (hb : XV X σ H b (.int n)) (h : atI ts n = some t) : XG X M σ H (.Subscript a b pos) R t := fun H1 s Q q =>
  ⟨_, pe_ix ix_list re_ re_ hs, ha H1 s _ fun v H2 s2 hv => hb H2 (s.trans s2) _ fun H3 s3 => by
    obtain ⟨p, xs, rfl, hp, hx⟩ := R.lst.up (hid_mono (M := M) s3) hv
    obtain ⟨j, hj1, hj2⟩ : ∃ j : Nat, (∀ {β : Type} (zs : List β), zs.length = ts.length → atI zs n = zs[j]?) ∧ ts[j]? = some t := by
      unfold atI at h ⊢
      cases e : ixN ts.length n with
      | none => rw [e] at h; cases h
      | some j =>
        rw [e] at h
        exact ⟨j, fun zs hz => by rw [hz, e]; rfl, h⟩
    obtain ⟨u, hu1, hu2⟩ := ral_get hx hj2
    exact ⟨p, xs, n, u, rfl, rfl, SqL.of (hid_le _ _ hp), by rw [hj1 xs (ral_len hx)]; exact hu1, q _ H3 (s2.trans s3) hu2⟩⟩
theorem xt_listG (ha : XG X M σ H e R.lst ts) (he : ∀ whole, isTrue e X.env whole = (do let v ← whole; standAt e.pos; holding [v] (truthy v)) := by intro _; rfl) : XT X σ H e (!ts.isEmpty) := fun H1 s Q q =>
  ⟨_, pt_truth re_ he, ha H1 s _ fun v H2 s2 hv => by
    obtain ⟨a, xs, rfl, ha', hx⟩ := hv
    refine ⟨_, .inl ⟨xs, SqL.of (hid_le _ _ ha'), rfl⟩, ?_⟩
    have el := ral_len hx
    have e : xs.isEmpty = ts.isEmpty := by
      cases xs with
      | nil => cases ts with
        | nil => rfl
        | cons d ds => simp at el
      | cons x xs => cases ts with
        | nil => simp at el
        | cons d ds => rfl
    rw [e]
    exact q H2 s2⟩
theorem rb_setG (i : Nat) {x : Str} {pos' : Pos} (h : XG X M σ H e R t) (k : ∀ v H1, Same H H1 → R.r (hid M H1) v t → RB X rest D (σ.set i (some v)) H1) (hN : X.N.Nodup) (hi : X.N[i]? = some x := by rfl) (hx : Loc X.env.scope x := by first | exact Or.inl rfl | exact Or.inr rfl)
    (hs : swapsWith e (some (.Name x pos')) pos.line X.env = pure false := by rfl) (hf : X.fn x = true ∨ X.env.scope.names.lookup x = some .local := by first | exact .inl rfl | exact .inr rfl) : RB X (.Assign [.Name x pos'] e pos :: rest) D σ H :=
  rb_setR i (h H (Same.refl H) _ fun v H1 s hv => k v H1 s hv) hN hi hx hs hf
theorem rb_setGL (i : Nat) {x : Str} {pos' : Pos} (h : XGL X M σ H e R ts) (k : ∀ p xs H1, Same H H1 → H p = none → H1 p = some (.lst xs) → RAll R (hid M H1) xs ts → RB X rest D (σ.set i (some (.ref p))) H1) (hN : X.N.Nodup) (hi : X.N[i]? = some x := by rfl) (hx : Loc X.env.scope x := by first | exact Or.inl rfl | exact Or.inr rfl)
    (hs : swapsWith e (some (.Name x pos')) pos.line X.env = pure false := by rfl) (hf : X.fn x = true ∨ X.env.scope.names.lookup x = some .local := by first | exact .inl rfl | exact .inr rfl) : RB X (.Assign [.Name x pos'] e pos :: rest) D σ H :=
  rb_setR i (h H (Same.refl H) _ fun p xs H1 s hp h1 hd => k p xs H1 s hp h1 hd) hN hi hx hs hf
/-- l.extend(e) -/
theorem rb_extendG {l : Addr} {xs : List V} (ho : XV X σ H o (.ref l)) (h1 : H l = some (.lst xs)) (he : XG X M σ H e R.lst ts) (hz : xs.length + ts.length ≤ 100000) (k : ∀ vs H1, Same H H1 → RAll R (hid M H1) vs ts → RB X rest D σ (upd H1 l (.lst (xs ++ vs))))
    (hbase : attributeBase o "extend" X.env (eval o X.env) = eval o X.env := by rfl)
    (hfew : ((backTo p2 (starEach [e] X.env)).all (fun x => !x.1) && (backToKw p2 (keywordEach [] X.env)).all (fun x => x.1.isSome) && decide ([e].length + ([] : List Keyword).length + (if ([] : List Keyword).isEmpty then 0 else 1) < 30)) = true := by rfl)
    (hline : (p1.endLine == p2.line) = true := by rfl) (hs : starEach [e] X.env = (false, eval e X.env) :: starEach [] X.env := by rfl) (hplain : (backTo p2 (starEach [] X.env)).any (·.1) = false := by rfl)
    (hsw : swapsWith (.Call (.Attribute o "extend" p1) [e] [] p2) none pos.line X.env = pure false := by rfl) : RB X (.Expr (.Call (.Attribute o "extend" p1) [e] [] p2) pos :: rest) D σ H :=
  rb_exprR ⟨_, pe_bm PySem.F.plainAttrs_list PySem.F.slot_list_extend PySem.F.type_list_extend mt_extend re_ ra_ hbase hfew hline hs hplain,
    ho H (Same.refl H) _ fun H1 s1 => ⟨.inl ⟨rfl, xs, SqL.of (s1 _ _ h1)⟩, ra_1 (he H1 s1 _ fun v H2 s2 hv => by
      obtain ⟨b, ys, rfl, hb, hy⟩ := hv
      exact ⟨l, b, xs, ys, rfl, rfl, (s1.trans s2) _ _ h1, hid_le _ _ hb, by rw [ral_len hy]; exact small_sz hz, k ys H2 (s1.trans s2) hy⟩) hs⟩⟩ hsw
/-! loops -/
theorem rb_forG {tg : Expr} {body : List Stmt} (hit : XG X M σ H e R.lst ts)
    (h : ∀ H1, Same H H1 → ∃ Pv : Nat → L2.St → Hp → Prop, Pv 0 σ H1 ∧ (∀ k σ' H', Pv k σ' H' → Same (hid M H1) (hid M H')) ∧
      (∀ k t, ts[k]? = some t → ∀ σ' H' v, Pv k σ' H' → R.r (hid M H') v t → RG X tg v σ' H' fun σ2 H2 => RB X body { D with nx := Pv (k + 1), ct := Pv (k + 1), bk := RB X rest D } σ2 H2) ∧ ∀ σ' H', Pv ts.length σ' H' → RB X rest D σ' H')
    (hp : PassesOwn (model X.prog X.w) X.A X.env X.xe := by exact PassesOwn.never) (hc : X.calm = true := by rfl) (hs : ∀ x, foldedSetIterable e X.env x = pure x := by intro _; rfl) : RB X (.For tg e body [] pos :: rest) D σ H :=
  ⟨_, pss_cons (ps_for hp hc (pi_list re_) rg_ rb_ hs) rb_, hit H (Same.refl H) _ fun v H1 s1 hv => by
    obtain ⟨a, xs, rfl, ha, hx⟩ := hv
    obtain ⟨Pv, h0, hk, hst, hd⟩ := h H1 s1
    refine ⟨a, rfl, ⟨xs, SqL.of (hid_le _ _ ha)⟩, for_list (xs := xs) Pv h0 (fun i σ' H' _ p => SqL.of (hid_le _ _ (hk i σ' H' p _ _ ha))) (fun i x σ' H' hi p => ?_) (by rw [ral_len hx]; exact hd)⟩
    obtain ⟨d, h1, h2⟩ := ral_get' hx hi
    exact hst i d h1 σ' H' x p (R.up (hk i σ' H' p) h2)⟩
/-! comprehensions -/
theorem ral_out {p : Addr} {vs : List V} (h : RAll R (hid (p :: M) H) vs ts) : RAll R (hid M H) vs ts := h.up fun b o e => by
  have n1 : b ∉ p :: M := fun z => by unfold hid at e; rw [if_pos z] at e; cases e
  rw [hid_of (fun z => n1 (List.mem_cons_of_mem _ z))]
  exact hid_le _ _ e
/-- [elt for tg in iter], iter a tuple of data, things told -/
theorem xgl_compT (f : PyData → α) (L : Live M H) (hN : X.N.Nodup) (hit : XD X M σ H iter (.tuple ds)) (ok : BlkOk X.N X.env.scope scope own) (hz : ds.length ≤ 100000)
    (hst : ∀ p d v H1, d ∈ ds → H p = none → Same H H1 → Live (p :: M) H1 → Dq X.K (hid (p :: M) H1) v d → BG X scope tg v (wipe σ (own.map (·.2))) H1 fun σ2 H2 => wipe σ2 (own.map (·.2)) = wipe σ (own.map (·.2)) ∧
      Same H1 H2 ∧ BE X scope elt σ2 H2 fun y H4 => Same H2 H4 ∧ R.r (hid (p :: M) H4) y (f d))
    (hc : X.calm = true := by rfl) (hs : ∀ x, foldedSetIterable iter X.env x = pure x := by intro _; rfl) : XGL X M σ H (.ListComp elt [⟨tg, iter, [], 0⟩] scope pos) R (ds.map f) := fun H1 s1 Q q =>
  ⟨_, pe_lc (own := own) hc hN (pi_tup re_) ok (fun _ _ _ _ _ => bg_) (fun _ _ _ _ _ => bt_) (fun _ _ _ _ _ => be_) hs, hit H1 s1 _ fun v H2 s2 hv => by
    obtain ⟨a, xs, rfl, ha, hx⟩ := dp_tup hv
    have L2' : Live M H2 := L.mono (s1.trans s2)
    refine ⟨a, rfl, ⟨xs, same_seqT hid_le ha⟩, fun p hp => ?_⟩
    have hp0 : H p = none := (s1.trans s2).free hp
    refine lc_tup (xs := xs) (a := a) (fun i H' => Same H2 H' ∧ ∃ acc, H' p = some (.lst acc) ∧ RAll R (hid (p :: M) H') acc ((ds.take i).map f)) ⟨same_new hp, [], upd_same, .nil⟩ (fun i H' _ w => same_seqT w.1 (same_seqT hid_le ha)) (fun i x H' hi w => ?_) (fun H' w => ?_)
    · obtain ⟨sH, acc, hacc, hda⟩ := w
      obtain ⟨d, hd1, hd2⟩ := dpa_get' hx hi
      have etake : ds.take (i + 1) = ds.take i ++ [d] := by rw [List.take_add_one, hd1]; rfl
      have hlen : acc.length < sizeLine := by
        rw [ral_len hda, List.length_map]
        have h2 : (ds.take i).length ≤ i := by rw [List.length_take]; omega
        have h3 : i < ds.length := (List.getElem?_eq_some_iff.mp hd1).1
        have h4 : 100000 < sizeLine := by decide
        omega
      have Lp : Live (p :: M) H' := fun b hb => by
        rcases List.mem_cons.mp hb with z | hb
        · subst z; rw [hacc]; simp
        · exact L2'.mono sH b hb
      refine bg_mono (hst p d x H' (List.mem_of_getElem? hd1) hp0 ((s1.trans s2).trans sH) Lp (hd2.up (hid_step hp sH))) fun σ2 Ha ⟨hw, sb, hbe⟩ => ⟨hw, bt_nil ?_⟩
      refine iteT (be_mono hbe fun y Hc ⟨sc, hy⟩ => ?_)
      have sd := sb.trans sc
      refine ⟨acc, sd _ _ hacc, hlen, fun b o e => ?_, acc ++ [y], upd_same, ?_⟩
      · rw [upd_ne (ne_of_none e hp)]
        exact sd _ _ (sH _ _ e)
      · have eh : hid (p :: M) (upd Hc p (.lst (acc ++ [y]))) = hid (p :: M) Hc := hid_upd_mem (List.mem_cons_self ..)
        rw [eh, etake, List.map_append]
        exact ral_app (hda.up (hid_mono sd)) (.cons hy .nil)
    · obtain ⟨sH, acc, hacc, hda⟩ := w
      have e1 : ds.take xs.length = ds := by rw [dpa_len hx]; exact List.take_length
      rw [e1] at hda
      exact q p acc H' (s2.trans sH) (s2.free hp) hacc (ral_out hda)⟩
/-- [elt for tg in iter], iter a list of things, data told or things -/
theorem lc_compG (f : α → γ) (L : Live M H) (hit : XG X M σ H iter Ra.lst ts) (hz : ts.length ≤ 100000)
    (hst : ∀ p t v H1, t ∈ ts → H p = none → Same H H1 → Live (p :: M) H1 → Ra.r (hid (p :: M) H1) v t → BG X scope tg v (wipe σ (own.map (·.2))) H1 fun σ2 H2 => wipe σ2 (own.map (·.2)) = wipe σ (own.map (·.2)) ∧
      Same H1 H2 ∧ BE X scope elt σ2 H2 fun y H4 => Same H2 H4 ∧ Ro.r (hid (p :: M) H4) y (f t))
    (q : ∀ p xs H2, Same H H2 → H p = none → H2 p = some (.lst xs) → RAll Ro (hid M H2) xs (ts.map f) → Q (.ref p) H2) :
    tLc (iList X.K (RE X iter)) (BG X scope tg) (BT X scope []) (BE X scope elt) (own.map (·.2)) σ H Q :=
  hit H (Same.refl H) _ fun v H2 s2 hv => by
    obtain ⟨a, xs, rfl, ha, hx⟩ := hv
    have L2' : Live M H2 := L.mono s2
    refine ⟨a, rfl, ⟨xs, SqL.of (hid_le _ _ ha)⟩, fun p hp => ?_⟩
    have hp0 : H p = none := s2.free hp
    refine lc_list (xs := xs) (a := a) (fun i H' => Same H2 H' ∧ ∃ acc, H' p = some (.lst acc) ∧ RAll Ro (hid (p :: M) H') acc ((ts.take i).map f)) ⟨same_new hp, [], upd_same, .nil⟩ (fun i H' _ w => SqL.of (w.1 _ _ (hid_le _ _ ha))) (fun i x H' hi w => ?_) (fun H' w => ?_)
    · obtain ⟨sH, acc, hacc, hda⟩ := w
      obtain ⟨t, hd1, hd2⟩ := ral_get' hx hi
      have etake : ts.take (i + 1) = ts.take i ++ [t] := by rw [List.take_add_one, hd1]; rfl
      have hlen : acc.length < sizeLine := by
        rw [ral_len hda, List.length_map]
        have h2 : (ts.take i).length ≤ i := by rw [List.length_take]; omega
        have h3 : i < ts.length := (List.getElem?_eq_some_iff.mp hd1).1
        have h4 : 100000 < sizeLine := by decide
        omega
      have Lp : Live (p :: M) H' := fun b hb => by
        rcases List.mem_cons.mp hb with z | hb
        · subst z; rw [hacc]; simp
        · exact L2'.mono sH b hb
      refine bg_mono (hst p t x H' (List.mem_of_getElem? hd1) hp0 (s2.trans sH) Lp (Ra.up (hid_step hp sH) hd2)) fun σ2 Ha ⟨hw, sb, hbe⟩ => ⟨hw, bt_nil ?_⟩
      refine iteT (be_mono hbe fun y Hc ⟨sc, hy⟩ => ?_)
      have sd := sb.trans sc
      refine ⟨acc, sd _ _ hacc, hlen, fun b o e => ?_, acc ++ [y], upd_same, ?_⟩
      · rw [upd_ne (ne_of_none e hp)]
        exact sd _ _ (sH _ _ e)
      · have eh : hid (p :: M) (upd Hc p (.lst (acc ++ [y]))) = hid (p :: M) Hc := hid_upd_mem (List.mem_cons_self ..)
        rw [eh, etake, List.map_append]
        exact ral_app (hda.up (hid_mono sd)) (.cons hy .nil)
    · obtain ⟨sH, acc, hacc, hda⟩ := w
      have e1 : ts.take xs.length = ts := by rw [ral_len hx]; exact List.take_length
      rw [e1] at hda
      exact q p acc H' (s2.trans sH) hp0 hacc (ral_out hda)
/-- [elt for tg in iter for tg1 in iter1], lists of things -/
theorem lc_comp2G {vs1 : List Nat} (bs : α → List β) (g : α → β → γ) (L : Live M H) (hit : XG X M σ H iter Ra.lst ts) (hz : (ts.flatMap fun t => (bs t).map (g t)).length ≤ 100000)
    (hst : ∀ p t v H1, t ∈ ts → H p = none → Same H H1 → Live (p :: M) H1 → Ra.r (hid (p :: M) H1) v t → BG X scope tg v (wipe σ (own.map (·.2))) H1 fun τ H2 => wipe τ (own.map (·.2)) = wipe σ (own.map (·.2)) ∧ Same H1 H2 ∧
      (∀ (s : Shared) (H0 : Hp) (C : Addr) (cl : List (Str × Addr)) (fp : List Addr), XG (X.blk s H0 scope (compEnvC scope cl C X.env) fp) (p :: M) τ H2 iter1 Rm.lst (bs t)) ∧
      ∀ ed w H3, ed ∈ bs t → (∀ b o, b ≠ p → H2 b = some o → H3 b = some o) → Live (p :: M) H3 → Rm.r (hid (p :: M) H3) w ed → BG X scope tg1 w (wipe τ vs1) H3 fun τ2 H4 => wipe τ2 vs1 = wipe τ vs1 ∧ Same H3 H4 ∧ BE X scope elt τ2 H4 fun u H5 => Same H4 H5 ∧ Ro.r (hid (p :: M) H5) u (g t ed))
    (q : ∀ p xs H2, Same H H2 → H p = none → H2 p = some (.lst xs) → RAll Ro (hid M H2) xs (ts.flatMap fun t => (bs t).map (g t)) → Q (.ref p) H2) :
    tLc2 (iList X.K (RE X iter)) (BG X scope tg) (BT X scope []) (iList X.K (BE X scope iter1)) (BG X scope tg1) (BT X scope []) (BE X scope elt) (own.map (·.2)) vs1 σ H Q :=
  hit H (Same.refl H) _ fun v H2 s2 hv => by
    obtain ⟨a, xs, rfl, ha, hx⟩ := hv
    have L2' : Live M H2 := L.mono s2
    have hlx := ral_len hx
    refine ⟨a, rfl, ⟨xs, SqL.of (hid_le _ _ ha)⟩, fun p hp => ?_⟩
    have hp0 : H p = none := s2.free hp
    refine ⟨fun i m Hx => m + i = xs.length ∧ Same H2 Hx ∧ ∃ acc, Hx p = some (.lst acc) ∧ RAll Ro (hid (p :: M) Hx) acc ((ts.take i).flatMap fun t => (bs t).map (g t)), ⟨xs.length, rfl, same_new hp, [], upd_same, .nil⟩, fun i m Hx w => ?_⟩
    obtain ⟨hmi, sx, acc, hacc, hda⟩ := w
    have gt : SqL X.K Hx a xs := SqL.of (sx _ _ (hid_le _ _ ha))
    cases ex : xs[i]? with
    | none =>
      have hge : xs.length ≤ i := List.getElem?_eq_none_iff.mp ex
      have ei : ts.take i = ts := List.take_of_length_le (by omega)
      rw [ei] at hda
      exact .inl ⟨⟨xs, gt, hge⟩, q p acc Hx (s2.trans sx) (s2.free hp) hacc (ral_out hda)⟩
    | some x0 =>
      have hlt := (List.getElem?_eq_some_iff.mp ex).1
      refine .inr ⟨⟨xs, x0, gt, ex⟩, fun Hy => Same H2 Hy ∧ ∃ acc, Hy p = some (.lst acc) ∧ RAll Ro (hid (p :: M) Hy) acc ((ts.take (i + 1)).flatMap fun t => (bs t).map (g t)), fun Hy hy => ⟨m - 1, by omega, by omega, hy⟩, fun v Hy hyl => ?_⟩
      obtain ⟨rfl, h1⟩ := hyl
      obtain ⟨t, hd1, hd2⟩ := ral_get' hx (h1 xs gt)
      have hdi := (List.getElem?_eq_some_iff.mp hd1).1
      have etake : ts.take (i + 1) = ts.take i ++ [t] := by rw [List.take_add_one, hd1]; rfl
      have Lp : Live (p :: M) Hy := fun b hb => by
        rcases List.mem_cons.mp hb with z | hb
        · subst z; rw [hacc]; simp
        · exact L2'.mono sx b hb
      refine bg_mono (hst p t v Hy (List.mem_of_getElem? hd1) hp0 (s2.trans sx) Lp (Ra.up (hid_step hp sx) hd2)) fun τ Ha ⟨hw, sa, hin, hel⟩ => ⟨hw, bt_nil (iteT fun s0 H0 C0 cl fp => ?_)⟩
      refine hin s0 H0 C0 cl fp Ha (Same.refl _) _ fun w Hb sb hwv => ?_
      obtain ⟨a1, ys, rfl, ha1, hy⟩ := hwv
      have hly := ral_len hy
      refine ⟨a1, rfl, ⟨ys, SqL.of (hid_le _ _ ha1)⟩, ?_⟩
      have sab := sa.trans sb
      have pMem : p ∈ p :: M := List.mem_cons_self ..
      have hbp : Hb p = some (.lst acc) := sab _ _ hacc
      have upM : ∀ {Hz : Hp}, (∀ b o, b ≠ p → Hb b = some o → Hz b = some o) → Same (hid (p :: M) Hb) (hid (p :: M) Hz) := fun {Hz} z b o e => by
        have n1 : b ∉ p :: M := fun y => by unfold hid at e; rw [if_pos y] at e; cases e
        rw [hid_of n1]
        rw [hid_of n1] at e
        exact z b o (fun y => n1 (by rw [y]; exact pMem)) e
      refine ⟨fun j k Hz => k + j = ys.length ∧ (∀ b o, b ≠ p → Hb b = some o → Hz b = some o) ∧ ∃ acc', Hz p = some (.lst acc') ∧ RAll Ro (hid (p :: M) Hz) acc' (((ts.take i).flatMap fun t => (bs t).map (g t)) ++ ((bs t).take j).map (g t)), ⟨ys.length, rfl, fun b o _ e => e, acc, hbp, ?_⟩, fun j k Hz hz' => ?_⟩
      · simpa using hda.up (hid_mono sab)
      · obtain ⟨hkj, sz, acc', hacc', hda'⟩ := hz'
        have gz : SqL X.K Hz a1 ys := SqL.of (hid_le _ _ (upM sz _ _ ha1))
        have s2z : Same H2 Hz := fun b o e => sz b o (ne_of_none e hp) (sab b o (sx b o e))
        cases ey : ys[j]? with
        | none =>
          have hge : ys.length ≤ j := List.getElem?_eq_none_iff.mp ey
          have ej : (bs t).take j = bs t := List.take_of_length_le (by omega)
          rw [ej] at hda'
          refine .inl ⟨⟨ys, gz, hge⟩, s2z, acc', hacc', ?_⟩
          rw [etake, List.flatMap_append]
          simpa using hda'
        | some y0 =>
          have hltj := (List.getElem?_eq_some_iff.mp ey).1
          refine .inr ⟨⟨ys, y0, gz, ey⟩, fun Hu => (∀ b o, b ≠ p → Hb b = some o → Hu b = some o) ∧ ∃ acc', Hu p = some (.lst acc') ∧ RAll Ro (hid (p :: M) Hu) acc' (((ts.take i).flatMap fun t => (bs t).map (g t)) ++ ((bs t).take (j + 1)).map (g t)), fun Hu hu => ⟨k - 1, by omega, by omega, hu⟩, fun v Hu hyl => ?_⟩
          obtain ⟨rfl, h2⟩ := hyl
          obtain ⟨ed, he1, he2⟩ := ral_get' hy (h2 ys gz)
          have Lz : Live (p :: M) Hu := fun b hb => by
            by_cases z : b = p
            · subst z; rw [hacc']; simp
            · intro q0
              rcases List.mem_cons.mp hb with y | hb
              · exact z y
              · cases q1 : Hb b with
                | none => exact ((L2'.mono sx).mono sab) b hb q1
                | some o => rw [sz b o z q1] at q0; cases q0
          refine bg_mono (hel ed v Hu (List.mem_of_getElem? he1) (fun b o nb e => sz b o nb (sb b o e)) Lz (Rm.up (upM sz) he2)) fun τ2 Hc ⟨hw2, sc, hbe⟩ => ⟨hw2, bt_nil (iteT (be_mono hbe fun u Hd ⟨sd, hu⟩ => ?_))⟩
          have scd := sc.trans sd
          refine ⟨acc', scd _ _ hacc', ?_, fun b o nb e => ?_, acc' ++ [u], upd_same, ?_⟩
          · have h4 : 100000 < sizeLine := by decide
            have e3 : ts = ts.take i ++ t :: ts.drop (i + 1) := by
              obtain ⟨hl, e⟩ := List.getElem?_eq_some_iff.mp hd1
              rw [← e, List.getElem_cons_drop, List.take_append_drop]
            have h7 : ((ts.take i).flatMap fun t => (bs t).map (g t)).length + (bs t).length ≤ (ts.flatMap fun t => (bs t).map (g t)).length := by
              have e5 : (ts.flatMap fun t => (bs t).map (g t)).length = ((ts.take i ++ t :: ts.drop (i + 1)).flatMap fun t => (bs t).map (g t)).length := congrArg (fun l => (List.flatMap (fun t => (bs t).map (g t)) l).length) e3
              rw [e5, List.flatMap_append, List.flatMap_cons, List.length_append, List.length_append, List.length_map]
              omega
            have h10 : ((bs t).take j).length ≤ j := by rw [List.length_take]; omega
            rw [ral_len hda', List.length_append, List.length_map]
            omega
          · rw [upd_ne nb]
            exact scd _ _ (sz b o nb e)
          · have eh : hid (p :: M) (upd Hd p (.lst (acc' ++ [u]))) = hid (p :: M) Hd := hid_upd_mem (List.mem_cons_self ..)
            rw [eh, List.take_add_one, he1]
            show RAll Ro (hid (p :: M) Hd) (acc' ++ [u]) (((ts.take i).flatMap fun t => (bs t).map (g t)) ++ ((bs t).take j ++ [ed]).map (g t))
            rw [List.map_append, ← List.append_assoc]
            exact ral_app (hda'.up (hid_mono scd)) (.cons hu .nil)
/-- x = .., such a comprehension, on one line -/
theorem rb_setG2 (i : Nat) {vs1 : List Nat} (bs : α → List β) (g : α → β → γ) (L : Live M H) (hN : X.N.Nodup) (hit : XG X M σ H iter Ra.lst ts) (ok : BlkOk X.N X.env.scope scope own) (hv : ∀ i ∈ vs1, i ∈ own.map (·.2)) (hz : (ts.flatMap fun t => (bs t).map (g t)).length ≤ 100000)
    (hst : ∀ p t v H1, t ∈ ts → H p = none → Same H H1 → Live (p :: M) H1 → Ra.r (hid (p :: M) H1) v t → BG X scope tg v (wipe σ (own.map (·.2))) H1 fun τ H2 => wipe τ (own.map (·.2)) = wipe σ (own.map (·.2)) ∧ Same H1 H2 ∧
      (∀ (s : Shared) (H0 : Hp) (C : Addr) (cl : List (Str × Addr)) (fp : List Addr), XG (X.blk s H0 scope (compEnvC scope cl C X.env) fp) (p :: M) τ H2 iter1 Rm.lst (bs t)) ∧
      ∀ ed w H3, ed ∈ bs t → (∀ b o, b ≠ p → H2 b = some o → H3 b = some o) → Live (p :: M) H3 → Rm.r (hid (p :: M) H3) w ed → BG X scope tg1 w (wipe τ vs1) H3 fun τ2 H4 => wipe τ2 vs1 = wipe τ vs1 ∧ Same H3 H4 ∧ BE X scope elt τ2 H4 fun u H5 => Same H4 H5 ∧ Ro.r (hid (p :: M) H5) u (g t ed))
    (q : ∀ p xs H2, Same H H2 → H p = none → H2 p = some (.lst xs) → RAll Ro (hid M H2) xs (ts.flatMap fun t => (bs t).map (g t)) → RB X rest D (σ.set i (some (.ref p))) H2)
    (hi : X.N[i]? = some x := by rfl) (hx : X.env.scope.names.lookup x = some .local := by rfl) (hsw : swapsWith (.ListComp elt [⟨tg, iter, [], 0⟩, ⟨tg1, iter1, [], 0⟩] scope pos) (some (.Name x py)) spos.line X.env = pure true := by exact sw_true rfl rfl rfl rfl)
    (hc : X.calm = true := by rfl) (hs : ∀ x, foldedSetIterable iter X.env x = pure x := by intro _; rfl) (hs1 : ∀ env x, foldedSetIterable iter1 env x = pure x := by intro _ _; rfl) : RB X (.Assign [.Name x py] (.ListComp elt [⟨tg, iter, [], 0⟩, ⟨tg1, iter1, [], 0⟩] scope pos) spos :: rest) D σ H :=
  ⟨_, pss_cons (ps_setLc2 (own := own) (vs1 := vs1) hc hN hi hx hsw (pi_list re_) ok hv (fun _ _ _ _ _ => bg_) (fun _ _ _ _ _ => bt_) (fun _ _ _ _ _ => pi_list be_) (fun _ _ _ _ _ => bg_) (fun _ _ _ _ _ => bt_) (fun _ _ _ _ _ => be_) hs hs1) rb_,
    lc_comp2G (own := own) (vs1 := vs1) (Q := fun v H1 => RB X rest D (σ.set i (some v)) H1) bs g L hit hz hst q⟩
/-- .. as a value -/
theorem xgl_comp2 {vs1 : List Nat} (bs : α → List β) (g : α → β → γ) (L : Live M H) (hN : X.N.Nodup) (hit : XG X M σ H iter Ra.lst ts) (ok : BlkOk X.N X.env.scope scope own) (hv : ∀ i ∈ vs1, i ∈ own.map (·.2)) (hz : (ts.flatMap fun t => (bs t).map (g t)).length ≤ 100000)
    (hst : ∀ p t v H1, t ∈ ts → H p = none → Same H H1 → Live (p :: M) H1 → Ra.r (hid (p :: M) H1) v t → BG X scope tg v (wipe σ (own.map (·.2))) H1 fun τ H2 => wipe τ (own.map (·.2)) = wipe σ (own.map (·.2)) ∧ Same H1 H2 ∧
      (∀ (s : Shared) (H0 : Hp) (C : Addr) (cl : List (Str × Addr)) (fp : List Addr), XG (X.blk s H0 scope (compEnvC scope cl C X.env) fp) (p :: M) τ H2 iter1 Rm.lst (bs t)) ∧
      ∀ ed w H3, ed ∈ bs t → (∀ b o, b ≠ p → H2 b = some o → H3 b = some o) → Live (p :: M) H3 → Rm.r (hid (p :: M) H3) w ed → BG X scope tg1 w (wipe τ vs1) H3 fun τ2 H4 => wipe τ2 vs1 = wipe τ vs1 ∧ Same H3 H4 ∧ BE X scope elt τ2 H4 fun u H5 => Same H4 H5 ∧ Ro.r (hid (p :: M) H5) u (g t ed))
    (hc : X.calm = true := by rfl) (hs : ∀ x, foldedSetIterable iter X.env x = pure x := by intro _; rfl) (hs1 : ∀ env x, foldedSetIterable iter1 env x = pure x := by intro _ _; rfl) : XGL X M σ H (.ListComp elt [⟨tg, iter, [], 0⟩, ⟨tg1, iter1, [], 0⟩] scope pos) Ro (ts.flatMap fun t => (bs t).map (g t)) := fun H1 s1 Q q =>
  ⟨_, pe_lc2 (own := own) (vs1 := vs1) hc hN (pi_list re_) ok hv (fun _ _ _ _ _ => bg_) (fun _ _ _ _ _ => bt_) (fun _ _ _ _ _ => pi_list be_) (fun _ _ _ _ _ => bg_) (fun _ _ _ _ _ => bt_) (fun _ _ _ _ _ => be_) hs hs1,
    lc_comp2G (own := own) (vs1 := vs1) bs g (L.mono s1) (hit.up s1) hz (fun p t v H2 ht hp s2 => hst p t v H2 ht (s1.free hp) (s1.trans s2)) (fun p xs H2 s2 hp h2 hx => q p xs H2 s2 hp h2 hx)⟩
end
end Dl

set_option Elab.async false
set_option linter.all false
set_option maxRecDepth 100000
set_option maxHeartbeats 4000000
/-! Data layer: texts -/
namespace Dl
open PySem PySem.Spec PyProof.Rows L2
/-- the texts of one sign -/
def sg (c : Nat) : Str := ⟨#[c]⟩
section
variable {X : Cx} {M : List Addr} {σ : L2.St} {H H' : Hp} {e a b c o elt tg iter : Expr} {ifs : List Expr} {scope : Scope} {own : List (Str × Nat)} {es : List Expr} {d d1 d2 : PyData} {ds ds2 : List PyData} {x y z : Str} {v : V} {pos p1 p2 p3 : Pos}
theorem xd_addS (ha : XD X M σ H a (.str x)) (hb : XD X M σ H b (.str y)) (hl : x.length + y.length ≤ 100000) : XD X M σ H (.BinOp a .Add b pos) (.str (x ++ y)) :=
  xd_bin op_add_str ha hb fun H1 v w s hv hw Q q => ⟨x, y, dp_str hv, dp_str hw, small_sz hl, q _ H1 (Same.refl _) (.str _)⟩
theorem xd_lenStr (hm : X.mg "len" = none) (ha : XD X M σ H e (.str x)) (hl : x.length ≤ 100000) (hg : Gl X "len" := by rfl) (he : starEach [e] X.env = (false, eval e X.env) :: starEach [] X.env := by rfl) (hpl : (backTo pos (starEach [] X.env)).any (·.1) = false := by rfl) : XD X M σ H (.Call (.Name "len" p1) [e] [] pos) (.int x.length) :=
  xd_B call_len_str (xa_cons ha xa_nil he) (fun H1 vs s h Q q => by
    cases h with
    | cons h1 h2 =>
      cases h2
      exact ⟨x, by rw [dp_str h1], small_sz hl, q _ _ (Same.refl _) (.int _)⟩) hm PySem.boot_len hg (by decide) (by decide) he hpl
theorem xd_ixS {n : Int} {c : Nat} (hs : PlainIx b) (ha : XD X M σ H a (.str x)) (hb : XD X M σ H b (.int n)) (hl : x.length ≤ 100000) (h : atI x.cps.toList n = some c) : XD X M σ H (.Subscript a b pos) (.str (sg c)) := fun H1 s Q q =>
  ⟨_, pe_ix ix_str re_ re_ hs, ha H1 s _ fun v H2 s2 hv => hb H2 (s.trans s2) _ fun w H3 s3 hw => ⟨x, n, c, dp_str hv, dp_int hw, small_sz hl, h, q _ H3 (s2.trans s3) (.str _)⟩⟩
theorem xd_cutS {lo hi : Option Expr} {m n : Option Int} (ha : XD X M σ H a (.str x)) (hl : XO X σ H lo m) (hu : XO X σ H hi n) (hz : x.length ≤ 100000) : XD X M σ H (.Subscript a (.Slice lo hi none p2) pos) (.str (cutS x m n)) := fun H1 s Q q =>
  ⟨_, pe_slice sl_str re_ ro_ ro_, ha H1 s _ fun v H2 s2 hv => hl H2 (s.trans s2) _ fun H3 s3 => hu H3 ((s.trans s2).trans s3) _ fun H4 s4 => ⟨x, dp_str hv, small_sz hz, q _ H4 (s2.trans (s3.trans s4)) (.str _)⟩⟩
theorem xt_inSg {c : Nat} (ha : XD X M σ H a (.str (sg c))) (hb : XD X M σ H b (.str x)) (hm : behindInMarks .In b = false := by rfl) : XT X σ H (.Compare a [.In] [b] pos) (decide (c ∈ x.cps.toList)) :=
  xt_cmp op_inS ha hb (fun H1 v w s hv hw Q q => ⟨c, x, dp_str hv, dp_str hw, q H1 (Same.refl _)⟩) hm
theorem xd_inSg {c : Nat} (ha : XD X M σ H a (.str (sg c))) (hb : XD X M σ H b (.str x)) (hm : behindInMarks .In b = false := by rfl) : XD X M σ H (.Compare a [.In] [b] pos) (.bool (decide (c ∈ x.cps.toList))) :=
  xd_cmp op_inS ha hb (fun H1 v w s hv hw Q q => ⟨c, x, dp_str hv, dp_str hw, q _ H1 (Same.refl _) (.bl _)⟩) hm
theorem xt_notInSg {c : Nat} (ha : XD X M σ H a (.str (sg c))) (hb : XD X M σ H b (.str x)) (hm : behindInMarks .NotIn b = false := by rfl) : XT X σ H (.Compare a [.NotIn] [b] pos) (!decide (c ∈ x.cps.toList)) :=
  xt_cmp op_notInS ha hb (fun H1 v w s hv hw Q q => ⟨c, x, dp_str hv, dp_str hw, q H1 (Same.refl _)⟩) hm
theorem dec_str {m n : Str} : decide (V.str m = V.str n) = decide (m = n) := by
  by_cases h : m = n
  · subst h; simp
  · rw [decide_eq_false h, decide_eq_false fun z => h (V.str.inj z)]
theorem xt_neS (ha : XD X M σ H a (.str x)) (hb : XD X M σ H b (.str y)) : XT X σ H (.Compare a [.NotEq] [b] pos) (!decide (x = y)) :=
  xt_cmp op_ne ha hb fun H1 v w s hv hw Q q => by
    rw [dp_str hv, dp_str hw]
    exact ⟨rfl, by rw [dec_str]; exact q H1 (Same.refl _)⟩
/-- int(text) -/
theorem xd_intS {n : Int} (hm : X.mg "int" = none) (ha : XD X M σ H e (.str x)) (hn : PySem.intText? x = some n) (hl : x.length ≤ 640) (hg : Gl X "int" := by rfl) (he : starEach [e] X.env = (false, eval e X.env) :: starEach [] X.env := by rfl) (hpl : (backTo pos (starEach [] X.env)).any (·.1) = false := by rfl) :
    XD X M σ H (.Call (.Name "int" p1) [e] [] pos) (.int n) := fun H1 s Q q =>
  re_Ty call_int_str (ra_1 (ha H1 s _ fun v H2 s2 hv => ⟨x, n, by rw [dp_str hv], hn, hl, q _ H2 s2 (.int _)⟩) he) hm (by decide +kernel) hg (by decide) (by decide) he hpl
/-- str(int) -/
theorem xd_strI {n : Int} (hm : X.mg "str" = none) (ha : XD X M σ H e (.int n)) (hl : n.natAbs.log2 < 1920) (hg : Gl X "str" := by rfl) (he : starEach [e] X.env = (false, eval e X.env) :: starEach [] X.env := by rfl) (hpl : (backTo pos (starEach [] X.env)).any (·.1) = false := by rfl) :
    XD X M σ H (.Call (.Name "str" p1) [e] [] pos) (.str (Str.ofString (toString n))) := fun H1 s Q q =>
  re_Ty call_str_int (ra_1 (ha H1 s _ fun v H2 s2 hv => ⟨n, by rw [dp_int hv], hl, q _ H2 s2 (.str _)⟩) he) hm (by decide +kernel) hg (by decide) (by decide) he hpl
/-- [elt for tg in text if ..] -/
theorem xl_compS (f : Nat → Option PyData) (L : Live M H) (hN : X.N.Nodup) (hit : XD X M σ H iter (.str x)) (ok : BlkOk X.N X.env.scope scope own) (hz : x.length ≤ 100000)
    (hst : ∀ p c H1, c ∈ x.cps.toList → H p = none → Same H H1 → Live (p :: M) H1 → BG X scope tg (.str (sg c)) (wipe σ (own.map (·.2))) H1 fun σ2 H2 => wipe σ2 (own.map (·.2)) = wipe σ (own.map (·.2)) ∧ BT X scope ifs σ2 H2 fun k H3 =>
      Same H1 H3 ∧ ((k = true ∧ ∃ d', f c = some d' ∧ BE X scope elt σ2 H3 fun y H4 => Same H3 H4 ∧ Dq X.K (hid (p :: M) H4) y d') ∨ (k = false ∧ f c = none)))
    (hc : X.calm = true := by rfl) (hs : ∀ x, foldedSetIterable iter X.env x = pure x := by intro _; rfl) : XL X M σ H (.ListComp elt [⟨tg, iter, ifs, 0⟩] scope pos) (x.cps.toList.filterMap f) := fun H1 s1 Q q =>
  ⟨_, pe_lc (own := own) hc hN (pi_str re_) ok (fun _ _ _ _ _ => bg_) (fun _ _ _ _ _ => bt_) (fun _ _ _ _ _ => be_) hs, hit H1 s1 _ fun v H2 s2 hv => by
    have L2' : Live M H2 := L.mono (s1.trans s2)
    have ev := dp_str hv
    subst ev
    refine ⟨x, rfl, fun p hp => ?_⟩
    have hp0 : H p = none := (s1.trans s2).free hp
    have hsz : x.cps.toList.length = x.cps.size := by simp
    have hzz : x.cps.size ≤ 100000 := hz
    refine ⟨fun i m Hx => m + i = x.cps.size ∧ Same H2 Hx ∧ ∃ acc, Hx p = some (.lst acc) ∧ DqAll X.K (hid (p :: M) Hx) acc ((x.cps.toList.take i).filterMap f), ⟨x.cps.size, rfl, same_new hp, [], upd_same, by simpa using DqAll.nil⟩, fun i m Hx w => ?_⟩
    obtain ⟨hmi, sx, acc, hacc, hda⟩ := w
    by_cases hlt : i < x.cps.size
    · refine .inr ⟨hlt, fun Hy => Same H2 Hy ∧ ∃ acc, Hy p = some (.lst acc) ∧ DqAll X.K (hid (p :: M) Hy) acc ((x.cps.toList.take (i + 1)).filterMap f), fun Hy hy => ⟨m - 1, by omega, by omega, hy⟩, fun v Hy hyl => ?_⟩
      obtain ⟨rfl, c, hc1, rfl⟩ := hyl
      have hc2 : x.cps.toList[i]? = some c := by rw [Array.getElem?_toList]; exact hc1
      have etake : x.cps.toList.take (i + 1) = x.cps.toList.take i ++ [c] := by rw [List.take_add_one, hc2]; rfl
      have Lp : Live (p :: M) Hy := fun b hb => by
        rcases List.mem_cons.mp hb with z | hb
        · subst z; rw [hacc]; simp
        · exact L2'.mono sx b hb
      refine bg_mono (hst p c Hy (List.mem_of_getElem? hc2) hp0 ((s1.trans s2).trans sx) Lp) fun σ2 Ha ⟨hw, hbt⟩ => ⟨hw, bt_mono hbt fun k Hb ⟨sb, hk⟩ => ?_⟩
      rcases hk with ⟨hk, d', hf, hbe⟩ | ⟨hk, hf⟩
      · subst hk
        refine iteT (be_mono hbe fun y Hc ⟨sc, hy⟩ => ?_)
        have sd := sb.trans sc
        refine ⟨acc, sd _ _ hacc, ?_, fun b o e => ?_, acc ++ [y], upd_same, ?_⟩
        · have h1 : ((x.cps.toList.take i).filterMap f).length ≤ (x.cps.toList.take i).length := List.length_filterMap_le ..
          have h2 : (x.cps.toList.take i).length ≤ i := by rw [List.length_take]; omega
          have h4 : 100000 < sizeLine := by decide
          rw [dpa_len hda]
          omega
        · rw [upd_ne (ne_of_none e hp)]
          exact sd _ _ (sx _ _ e)
        · rw [hid_upd_ne, etake, List.filterMap_append]
          have e2 : [c].filterMap f = [d'] := by simp [hf]
          rw [e2]
          exact dpa_app (hda.up (hid_mono sd)) (.cons hy .nil)
      · subst hk
        refine iteF ⟨sx.trans sb, acc, sb _ _ hacc, ?_⟩
        rw [etake, List.filterMap_append]
        have e2 : [c].filterMap f = [] := by simp [hf]
        rw [e2, List.append_nil]
        exact hda.up (hid_mono sb)
    · have ei : x.cps.toList.take i = x.cps.toList := List.take_of_length_le (by omega)
      rw [ei] at hda
      refine .inl ⟨by show x.cps.size ≤ i; omega, q p acc Hx (s2.trans sx) (s2.free hp) hacc (hda.up fun b o e => ?_)⟩
      have n1 : b ∉ p :: M := fun z => by unfold hid at e; rw [if_pos z] at e; cases e
      rw [hid_of (fun z => n1 (List.mem_cons_of_mem _ z))]
      exact hid_le _ _ e⟩
/-- all([..]) -/
theorem bools_v {K : PySem.W.Frag} {H : Hp} : ∀ {bs : List Bool} {xs : List V}, DqAll K H xs (bs.map PyData.bool) → xs = bs.map V.bl
  | [], _, h => by cases h; rfl
  | n :: ns, _, h => by
    cases h with
    | cons a b => rw [dp_bl a, bools_v b]; rfl
end
/-- the number of two digits -/
theorem two_digits : ∀ i : Fin 10, ∀ j : Fin 10, PySem.intText? ⟨#[48 + i.val, 48 + j.val]⟩ = some ((10 * i.val + j.val : Nat) : Int) := by decide +kernel
end Dl

set_option Elab.async false
set_option linter.all false
set_option maxRecDepth 100000
set_option maxHeartbeats 8000000
/-! set(list of texts), sorted of it -/
namespace Dl
open PySem PySem.Spec PyProof.Rows L2
def nameE (e : Int × Value) : Str := match e.2 with
  | .str x _ => x
  | _ => Str.empty
def OkE (wd : World) (e : Int × Value) : Prop := ∃ x u, e.2 = Value.str x u ∧ e.1 = hashStr wd x
/-- the set of texts at a, its members those of L -/
def TxS (wd : World) (hp : Heap) (a : Addr) (L : List Str) : Prop := ∃ ob rows ep tb, hp.get? a = some ob ∧ ob.ExactSet ∧ ob.data = .set rows ep tb ∧ (∀ e ∈ rows.toList, OkE wd e) ∧ (rows.toList.map nameE).Nodup ∧ (∀ x, x ∈ L ↔ x ∈ rows.toList.map nameE) ∧
  rows.size < scanBound ∧ tb.fits rows.size = true ∧ Ris tb.place.toList ∧ (wd.params.followText "set-order" = true ∨ tb.led = true)
section
variable {P : Program} {wd : World} {hp hq : Heap} {a : Addr} {L : List Str}
theorem TxS.at (R : TxS wd hp a L) (k : ∀ o, hp.get? a = some o → hq.get? a = some o) : TxS wd hq a L := by
  obtain ⟨ob, rows, ep, tb, ho, more⟩ := R
  exact ⟨ob, rows, ep, tb, k _ ho, more⟩
theorem okE_is {e : Int × Value} (g : OkE wd e) (x : Str) : (PySem.strKind P wd).is x e.2 = true ↔ nameE e = x := by
  obtain ⟨y, u, e1, _⟩ := g
  unfold nameE
  rw [e1]
  show Value.isStrOf x (.str y u) = true ↔ y = x
  constructor
  · intro h
    obtain ⟨t, ht⟩ := Value.isStrOf_shape h
    cases ht
    rfl
  · intro h
    subst h
    simp [Value.isStrOf]
theorem okE_elems {l : List (Int × Value)} (g : ∀ e ∈ l, OkE wd e) : ElemsOf (PySem.strKind P wd) l := fun e he => by
  obtain ⟨y, u, e1, e2⟩ := g e he
  refine ⟨⟨y, ?_, e2⟩, by rw [e1]; rfl⟩
  rw [e1]
  show Value.isStrOf y (.str y u) = true
  simp [Value.isStrOf]
theorem okE_mem {l : List (Int × Value)} (g : ∀ e ∈ l, OkE wd e) (x : Str) : x ∈ l.map nameE ↔ ∃ e ∈ l, (PySem.strKind P wd).is x e.2 = true := by
  constructor
  · intro hm
    obtain ⟨e, he, q⟩ := List.mem_map.mp hm
    exact ⟨e, he, (okE_is (P := P) (g e he) x).mpr q⟩
  · rintro ⟨e, he, q⟩
    exact List.mem_map.mpr ⟨e, he, (okE_is (P := P) (g e he) x).mp q⟩
end
section
variable {P : Program} {wd : World} {Ar : Around} {Er : Value → Shared → Prop} {z : Shared} {a : Addr} {L : List Str}
/-- the set laid with new rows, the table made wider where it is full -/
theorem txS_tail {note : Bool → Sem Unit} (quiet : ∀ (b : Bool) (y : Shared) (Qn : Unit → Shared → Prop), Qn () y → wpAny (model P wd) Ar (note b) Qn Er y) {ob : Obj} {old rows : Array (Int × Value)} {ep : Nat} {tb tb2 : SetTable} {ML : List Str} {full : Bool} {Rn : Option Bool → Shared → Prop}
    (there : z.heap.get? a = some ob) (exact_ : ob.ExactSet) (dat : ob.data = .set old ep tb) (good : ∀ e ∈ rows.toList, OkE wd e) (once : (rows.toList.map nameE).Nodup) (mem : ∀ x, x ∈ ML ↔ x ∈ rows.toList.map nameE) (few : rows.size < scanBound) (fit : tb2.fits rows.size = true)
    (ris : Ris tb2.place.toList) (led : wd.params.followText "set-order" = true ∨ tb2.led = true) (fin : ∀ hn, Heap.SameBut a z.heap hn → TxS wd hn a ML → Rn (some true) { z with heap := hn }) :
    wpAny (model P wd) Ar (do
      storeSet a rows tb2
      if (!full && tb2.tooFull) = true then do
        note (relayAll tb2 rows (SetTable.grown rows.size)).2.2
        storeSet a (relayAll tb2 rows (SetTable.grown rows.size)).1 (relayAll tb2 rows (SetTable.grown rows.size)).2.1
        pure (some true)
      else pure (some true)) Rn Er z := by
  have laid := store_at (es' := rows) (t' := tb2) there dat
  have but1 := Heap.SameBut.update z.heap a (Obj.putSet rows tb2)
  refine wpAny_bind (wpAny_storeSet_of there dat ?_ (fits_of_scanBound few))
  split
  · have pm := relayAll_perm tb2 rows (SetTable.grown rows.size)
    have fit3 := relayAll_fits tb2 rows (SetTable.grown rows.size)
    have ris3 := relayAll_ris tb2 rows (SetTable.grown rows.size)
    have led3 := relayAll_led tb2 rows (SetTable.grown rows.size)
    generalize relayAll tb2 rows (SetTable.grown rows.size) = G at pm fit3 ris3 led3 ⊢
    obtain ⟨rows2, tb3, gave⟩ := G
    dsimp only at pm fit3 ris3 led3 ⊢
    have size2 : rows2.size = rows.size := by rw [← Array.length_toList, pm.length_eq, Array.length_toList]
    have few2 : rows2.size < scanBound := by rw [size2]; exact few
    refine wpAny_bind (quiet _ _ _ ?_)
    refine wpAny_bind (wpAny_storeSet_of laid rfl ?_ (fits_of_scanBound few2))
    have laid2 := store_at (es' := rows2) (t' := tb3) laid rfl
    have pn := pm.map nameE
    exact wpAny_pure (fin _ (but1.trans (Heap.SameBut.update _ a _)) ⟨_, rows2, _, tb3, laid2, exact_, rfl, fun e he => good e (pm.mem_iff.mp he), pn.nodup_iff.mpr once, fun x => (mem x).trans pn.mem_iff.symm, few2, fit3, ris3, led.imp id fun q => by rw [led3]; exact q⟩)
  · exact wpAny_pure (fin _ but1 ⟨_, rows, _, tb2, laid, exact_, rfl, good, once, mem, few, fit, ris, led⟩)
theorem txS_hashed {x : Str} {u : Tok} {Q : Bool → Shared → Prop} (R : TxS wd z.heap a L) (room : L.length + 1 < scanBound) (fin : ∀ hn b, Heap.SameBut a z.heap hn → TxS wd hn a (x :: L) → Q b { z with heap := hn }) :
    wpAny (model P wd) Ar (setAddHashed a (.str x u) ((PySem.strKind P wd).hash x)) Q Er z := by
  obtain ⟨ob, rows, ep, tb, ho, hex, hd, good, once, mem, few, fit, ris, led⟩ := R
  have isx : (PySem.strKind P wd).is x (.str x u) = true := by show Value.isStrOf x (.str x u) = true; simp [Value.isStrOf]
  have scan : (Value.str x u).scannable = true := rfl
  have elems : ElemsOf (PySem.strKind P wd) rows.toList := okE_elems good
  have size_le : rows.size ≤ L.length := by
    have := Dl.nodup_le once fun y hy => (mem y).mpr hy
    rw [List.length_map, Array.length_toList] at this
    exact this
  unfold setAddHashed setAddHashedIn
  refine wpAny_holding (wpAny_bind (wpAny_setState_of ho hd fit ?_))
  dsimp only
  rw [byScan_of scan few elems]
  simp only [↓reduceIte]
  unfold setAddByScan
  refine wpAny_bind ?_
  refine wpAny_bind (wpAny_rule ?_)
  refine wpAny_bind (wpAny_setScan_of isx ho hd fit elems ?_)
  cases seek : List.findIdx? (fun e => (PySem.strKind P wd).is x e.2) rows.toList with
  | some j =>
    dsimp only
    obtain ⟨jl, js, _⟩ := List.findIdx?_eq_some_iff_getElem.mp seek
    have inn : x ∈ L := (mem x).mpr ((okE_mem (P := P) good x).mpr ⟨rows.toList[j], List.getElem_mem jl, js⟩)
    refine wpAny_pure (wpAny_pure ?_)
    exact fin z.heap _ (Heap.SameBut.refl a z.heap) ⟨ob, rows, ep, tb, ho, hex, hd, good, once, fun y => by
      rw [List.mem_cons, ← mem y]
      exact ⟨fun q => q.elim (fun e => by rw [e]; exact inn) id, .inr⟩, few, fit, ris, led⟩
  | none =>
    dsimp only
    have out : x ∉ rows.toList.map nameE := fun q => by
      obtain ⟨e, he, q⟩ := (okE_mem (P := P) good x).mp q
      have := List.findIdx?_eq_none_iff.mp seek e he
      rw [q] at this
      cases this
    have calmN : ∀ (b : Bool) {y : Shared} {Qn : Unit → Shared → Prop}, Qn () y → wpAny (model P wd) Ar (match b with | true => rule "set.scan.the-table-gave-way" | false => pure ()) Qn Er y :=
      fun b y Qn q => by cases b <;> first | exact wpAny_pure q | exact wpAny_rule q
    have pm := layNew_perm tb rows ((PySem.strKind P wd).hash x) (.str x u)
    have fit1 := layNew_fits tb rows ((PySem.strKind P wd).hash x) (.str x u)
    have ris1 := layNew_ris tb rows ((PySem.strKind P wd).hash x) (.str x u) ris
    have led1 := layNew_led tb rows ((PySem.strKind P wd).hash x) (.str x u)
    generalize layNew tb rows ((PySem.strKind P wd).hash x) (.str x u) = G at pm fit1 ris1 led1 ⊢
    obtain ⟨rows1, tb1, full, gave⟩ := G
    dsimp only at pm fit1 ris1 led1 ⊢
    rw [Array.toList_push] at pm
    have perm1 : rows1.toList.Perm (((PySem.strKind P wd).hash x, Value.str x u) :: rows.toList) := pm.trans (List.perm_append_singleton _ _)
    have permN : (rows1.toList.map nameE).Perm (x :: rows.toList.map nameE) := perm1.map nameE
    have good1 : ∀ e ∈ rows1.toList, OkE wd e := fun e he => by
      rcases List.mem_cons.mp (perm1.mem_iff.mp he) with q | q
      · rw [q]; exact ⟨x, u, rfl, rfl⟩
      · exact good e q
    have once1 : (rows1.toList.map nameE).Nodup := permN.nodup_iff.mpr (List.nodup_cons.mpr ⟨out, once⟩)
    have mem1 : ∀ y, y ∈ x :: L ↔ y ∈ rows1.toList.map nameE := fun y => by
      rw [permN.mem_iff, List.mem_cons, List.mem_cons, mem y]
    have size1 : rows1.size = rows.size + 1 := by rw [← Array.length_toList, perm1.length_eq, List.length_cons, Array.length_toList]
    have few1 : rows1.size < scanBound := by omega
    have led1' : wd.params.followText "set-order" = true ∨ tb1.led = true := led.imp id fun q => by rw [led1]; exact q
    refine wpAny_bind (calmN _ ?_)
    split
    · refine wpAny_bind ?_
      rw [hashByValue_scannable 8 scan]
      refine wpAny_pure ?_
      refine txS_tail ?_ ho hex hd good1 once1 mem1 few1 ?_ ?_ ?_ ?_
      · intro b y Qn q; cases b <;> first | exact wpAny_pure q | exact wpAny_rule q
      · first | (split <;> first | exact fit1 | exact SetTable.fits_plain_off fit1) | exact fit1
      · first | (split <;> exact ris1) | exact ris1
      · first | (split <;> exact led1') | exact led1'
      · intro hn sb r; dsimp only; exact wpAny_pure (fin hn _ sb r)
    · refine wpAny_bind (wpAny_pure ?_)
      simp only [↓reduceIte]
      refine txS_tail ?_ ho hex hd good1 once1 mem1 few1 fit1 ris1 led1' ?_
      · intro b y Qn q; cases b <;> first | exact wpAny_pure q | exact wpAny_rule q
      · intro hn sb r; dsimp only; exact wpAny_pure (fin hn _ sb r)
/-- the members put in one by one -/
theorem txS_fill {It : Addr} {fp wr : List Addr} {Gs : Array GenState → Array GenState → Prop} {m : Nat} {Pv : Nat → Value → Prop} {St : Nat → Shared → Prop} {Rn : Result → Shared → Prop} (Wk : WalksS P wd Ar.in1 It fp wr Gs m Pv St) (D : Addr) (apart : D ∉ fp) (xs : List Str) (hm : m = xs.length) (room : xs.length + 1 < scanBound)
    (is : ∀ i v, Pv i v → ∃ x u, xs[i]? = some x ∧ v = .str x u) : ∀ (k i : Nat) (y : Shared), m - i = k → i ≤ m → St i y → (∃ L, L.length = i ∧ (∀ x, x ∈ L ↔ x ∈ xs.take i) ∧ TxS wd y.heap D L) →
      (∀ y2 L, Moved (D :: wr) Gs y y2 → (∀ x, x ∈ L ↔ x ∈ xs) → TxS wd y2.heap D L → Rn (.ok (.ret .none)) y2) → codeAny (model P wd) Ar (.builtin "set.update.loop" ⟨[.ref D, .ref It], []⟩) Rn y := by
  have apartW : D ∉ wr := fun q => apart (Wk.sub _ q)
  have within : ∀ b ∈ wr, b ∈ D :: wr := fun b q => List.mem_cons_of_mem _ q
  intro k
  induction k with
  | zero =>
    intro i y hk hi st ⟨L, hL, mL, T⟩ fin
    obtain rfl : i = m := by omega
    refine codeAny_builtin F.entry_set_update_loop ?_
    rw [Around.under_plainId F.plain_set_update_loop _]
    show wpAny _ Ar.in1 (pyNext (.ref It) >>= _) _ _ y
    refine wpAny_bind (Wk.done y _ _ st fun y2 mv => ?_)
    show wpAny _ Ar.in1 (ret Value.none) _ _ y2
    refine wpAny_pure (fin y2 L (mv.mono within) (fun x => (mL x).trans (by rw [List.take_of_length_le (by omega)])) (T.at fun o e => mv.heap D o apartW e))
  | succ k ih =>
    intro i y hk hi st ⟨L, hL, mL, T⟩ fin
    have lt : i < m := by omega
    refine codeAny_builtin F.entry_set_update_loop ?_
    rw [Around.under_plainId F.plain_set_update_loop _]
    show wpAny _ Ar.in1 (pyNext (.ref It) >>= _) _ _ y
    refine wpAny_bind (Wk.item i y _ _ lt st fun v y2 hP st2 mv => ?_)
    obtain ⟨x, u, hx, rfl⟩ := is i v hP
    have T2 : TxS wd y2.heap D L := T.at fun o e => mv.heap D o apartW e
    show wpAny _ Ar.in1 (holding [Value.str x u] (setAdd D (.str x u)) >>= _) _ _ y2
    refine wpAny_bind (wpAny_holding ?_)
    unfold setAdd
    refine wpAny_holding ?_
    refine wpAny_bind ((PySem.strKind P wd).pyHash (k := x) (by show Value.isStrOf x (.str x u) = true; simp [Value.isStrOf]) ?_)
    refine txS_hashed (z := { y2 with toks := y2.toks + 1 }) T2 (by omega) fun hn b sb T3 => ?_
    refine wpAny_pure ⟨plainId_quiet F.plain_set_update_loop _, ih (i + 1) _ (by omega) lt (Wk.frame _ y2 _ _ st2 (Nat.le_succ _) fun c hc o e => ?_) ⟨x :: L, by rw [List.length_cons, hL], fun q => ?_, T3⟩ fun y3 L3 mv3 m3 T4 => ?_⟩
    · rw [sb.2 c (fun q : c = D => apart (by rw [← q]; exact hc))]; exact e
    · rw [List.mem_cons, mL q, List.take_add_one, hx, List.mem_append]
      simp only [Option.toList_some, List.mem_singleton]
      exact Or.comm
    · refine fin y3 L3 (Moved.trans Wk.gtrans ((mv.mono within).then_heap (Nat.le_succ _) fun c o hc e => ?_) mv3) m3 T4
      rw [sb.2 c (fun q : c = D => hc (by rw [q]; exact List.mem_cons_self))]; exact e
theorem txS_new {hp : Heap} {a : Addr} (there : hp.get? a = some (bareSet wd)) : TxS wd hp a [] :=
  ⟨_, #[], 0, _, there, ⟨rfl, rfl, rfl⟩, rfl, fun e he => by simp at he, by simp, fun x => by simp, by decide, by rfl, List.Pairwise.nil, by
    show _ ∨ (!wd.params.followText "set-order") = true
    cases wd.params.followText "set-order"
    · exact .inr rfl
    · exact .inl rfl⟩
theorem set_of_txts {l : Addr} {vs : Array Value} (xs : List Str) {Q : Value → Shared → Prop} (calm : Ar.handled = none) (isL : z.heap.IsList l vs) (are : StrsAre vs.toList xs) (room : xs.length + 1 < scanBound)
    (fin : ∀ (hn : Heap) (tk : Nat) (L : List Str), (∀ x, x ∈ L ↔ x ∈ xs) → TxS wd hn z.heap.objs.size L → (∀ b o, z.heap.get? b = some o → hn.get? b = some o) → Q (.ref z.heap.objs.size) { z with heap := hn, toks := tk }) :
    wpAny (model P wd) Ar (call (.type "set") [.ref l]) Q Er z := by
  have size_vs : vs.size = xs.length := (Array.length_toList (xs := vs)).symm.trans are.length
  obtain ⟨c0, tl0, mro0⟩ := F.called_set.mro
  have made0 := F.called_set.made
  have sub0 := F.called_set.sub
  refine wpAny_call (codeAny_of_tree ?_)
  show wpAny _ _ (callAny (.type "set") _) _ _ _
  refine wpAny_pure ⟨Code.quiet_builtin _ (by decide +kernel), codeAny_builtin F.entry_type_call ?_⟩
  rw [Around.under_plain (weight_type_call_type "set" [.ref l] []) rfl]
  have not_ty := F.called_set.notType
  have can := F.called_set.canCreate
  have tc := F.typeCall_set_1 (.ref l)
  repeat (any_goals (first | assumption | wp_step))
  refine codeAny_mono (code_set_led1 (.ref l) (E := Er) (Q₁ := fun y z1 => y = .ref z.heap.objs.size ∧ z1 = { z with heap := z.heap.push (bareSet wd) }) ⟨rfl, rfl⟩) fun r z1 hr => ?_
  match r, hr with
  | .error e, hr => exact hr
  | .ok .next, hr => exact hr.elim
  | .ok .brk, hr => exact hr.elim
  | .ok .cont, hr => exact hr.elim
  | .ok (.ret y), hr =>
    obtain ⟨rfl, rfl⟩ := hr
    have at_new : (z.heap.push (bareSet wd)).get? z.heap.objs.size = some (bareSet wd) := Heap.get?_push_size _ rfl
    have ty_new : Shared.TypeIs { z with heap := z.heap.push (bareSet wd) } (.ref z.heap.objs.size) "set" := ⟨_, at_new, rfl⟩
    have look := F.called_set.init.lookup
    have bindS := F.called_set.init.bind (.ref z.heap.objs.size)
    repeat (any_goals (first | assumption | wp_step))
    refine codeAny_mono (codeAny_call_builtin (R := wants (fun r2 z2 => r2 = .none ∧ ∃ hn tk L, z2 = { z with heap := hn, toks := tk } ∧ (∀ x, x ∈ L ↔ x ∈ xs) ∧ TxS wd hn z.heap.objs.size L ∧ (∀ b o, z.heap.get? b = some o → hn.get? b = some o)) Er)
      F.called_set.init.plain F.entry_set_init (check_set_init_1 ty_new ?_)) fun r2 z2 hr2 => ?_
    · obtain ⟨⟨oc, od, odt, osl⟩, get_l, cls_l, nl, dat_l⟩ := isL
      simp only at cls_l dat_l
      subst cls_l
      subst dat_l
      have get_l2 : (z.heap.push (bareSet wd)).get? l = some { cls := .type "list", dict := od, data := .seq vs nl, slots := osl } := Heap.get?_push_of_some _ get_l
      have no1 := F.sub_list_set
      have no2 := F.sub_list_frozenset
      have no3 : (Value.type "list" == Value.type "dict") = false := by decide
      have list_l : (z.heap.push (bareSet wd)).IsList l vs := ⟨_, get_l2, rfl, nl, rfl⟩
      unfold Builtin.«set.__init__» noKeywords Builtin.Frozenset.updateFrom
      generalize walker : pyIter = walk
      wp_walk
      subst walker
      refine wpAny_pyIter_list list_l ?_
      refine wpAny_bind (wpAny_runValue ?_)
      have l_lt : l < z.heap.objs.size := Heap.lt_size get_l
      have size1 : (z.heap.push (bareSet wd)).objs.size = z.heap.objs.size + 1 := Heap.size_push ..
      have calm3 : Ar.in1.in1.in1.handled = none := by simp [calm]
      have lt1 : l < z.heap.objs.size + 1 := Nat.lt_succ_of_lt l_lt
      have ne_new : l ≠ (z.heap.push (bareSet wd)).objs.size := fun q => by
        rw [size1] at q
        exact Nat.ne_of_lt lt1 q
      have out_new : z.heap.objs.size ∉ [(z.heap.push (bareSet wd)).objs.size, l] := fun q => by
        rw [size1] at q
        rcases List.mem_cons.mp q with q | q
        · exact Nat.ne_of_lt (Nat.lt_succ_self _) q
        · exact Nat.ne_of_lt l_lt (List.mem_singleton.mp q).symm
      refine txS_fill ((Walks.list calm3 _ l ne_new vs).toS) z.heap.objs.size out_new xs size_vs room (fun i v hv => ?_) (vs.size - 0) 0 _ (by omega) (Nat.zero_le _)
        ⟨⟨_, Heap.get?_push_size _ rfl, rfl, rfl⟩, (list_l.push _)⟩ ⟨[], rfl, fun x => by simp, txS_new (Heap.get?_push_of_some _ at_new)⟩ fun z3 L3 moved m3 new3 => ?_
      · have hv' : vs.toList[i]? = some v := by rw [Array.getElem?_toList]; exact hv
        have hall := are.all v (List.mem_of_getElem? hv')
        obtain ⟨x, u, rfl⟩ := hall
        refine ⟨x, u, ?_, rfl⟩
        have e := are.strs
        have e2 : (vs.toList.map strOf)[i]? = some x := by rw [List.getElem?_map, hv']; rfl
        rw [e] at e2
        exact e2
      · obtain ⟨hz, gz, dz, tz, oz⟩ := z3
        have g1 : gz = z.gens := moved.gens
        have g2 : dz = z.drawn := moved.drawn
        have g3 : oz = z.os := moved.os
        subst g1
        subst g2
        subst g3
        show wpAny _ _ _ _ _ _
        refine wpAny_pure ?_
        show wpAny _ _ (ret Value.none) _ _ _
        refine wpAny_pure ⟨rfl, hz, tz, L3, rfl, m3, new3, fun b o e => ?_⟩
        have b_lt : b < z.heap.objs.size := Heap.lt_size e
        have free_b : b ∉ [z.heap.objs.size, (z.heap.push (bareSet wd)).objs.size] := fun q => by
          rw [size1] at q
          rcases List.mem_cons.mp q with q | q
          · exact Nat.ne_of_lt b_lt q
          · exact Nat.ne_of_lt (Nat.lt_succ_of_lt b_lt) (List.mem_singleton.mp q)
        exact moved.heap b o free_b (Heap.get?_push_of_some _ (Heap.get?_push_of_some _ e))
    · match r2, hr2 with
      | .error e, hr2 => exact hr2
      | .ok .next, hr2 => exact hr2.elim
      | .ok .brk, hr2 => exact hr2.elim
      | .ok .cont, hr2 => exact hr2.elim
      | .ok (.ret y2), hr2 =>
        obtain ⟨rfl, hn, tk, L3, rfl, m3, isSet, kept⟩ := hr2
        repeat (any_goals (first | assumption | wp_step))
        exact fin _ _ _ m3 isSet kept
end
end Dl

set_option Elab.async false
set_option linter.all false
set_option maxRecDepth 100000
set_option maxHeartbeats 8000000
/-! sorted(set of texts) -/
namespace Dl
open PySem PySem.Spec PyProof.Rows L2
theorem strs_are : ∀ (l : List Value), (∀ v ∈ l, ∃ x u, v = Value.str x u) → ∃ xs, StrsAre l xs ∧ xs = l.map strOf
  | [], _ => ⟨[], .nil, rfl⟩
  | v :: l, h => by
    obtain ⟨x, u, rfl⟩ := h v List.mem_cons_self
    obtain ⟨xs, h1, h2⟩ := strs_are l fun w hw => h w (List.mem_cons_of_mem _ hw)
    exact ⟨x :: xs, .cons x u h1, by rw [h2]; rfl⟩
section
variable {P : Program} {wd : World} {Ar : Around} {Er : Value → Shared → Prop} {z : Shared} {a : Addr} {L : List Str}
theorem sorted_txs {Q : Value → Shared → Prop} (R : TxS wd z.heap a L) (calm : Ar.handled = none) (few64 : L.length < 64)
    (fin : ∀ y p (out : Array Value) (c : Nat) (ys : List Str), (∀ b o, z.heap.get? b = some o → y.heap.get? b = some o) → y.gens = z.gens → y.os = z.os → z.heap.objs.size ≤ p → y.heap.get? p = some (seqObj "list" out c) → StrsAre out.toList ys → sortedS ys = true → ys.Nodup → (∀ x, x ∈ ys ↔ x ∈ L) → Q (.ref p) y) :
    wpAny (model P wd) Ar (call (.builtin "sorted") [.ref a]) Q Er z := by
  obtain ⟨ob, rows, ep, tb, ho, hex, hd, good, once, mem, few, fit, ris, led⟩ := R
  have size_le : rows.size ≤ L.length := by
    have := Dl.nodup_le once fun y hy => (mem y).mpr hy
    rw [List.length_map, Array.length_toList] at this
    exact this
  refine Calls.call_function_entry kind_sorted plain_sorted entry_sorted (args_sorted1 _) ?_
  unfold Builtin.«sorted»
  refine wpAny_bind (m := checkCount "sorted" 1 1 _) (wpAny_pure ?_)
  refine wpAny_bind (collect_set (A := Ar.in1) calm ⟨ob, ho, hex.1, hd⟩ fit few ris led fun z1 vs kept grown gens1 os1 pm => ?_)
  have len_vs : vs.length = rows.size := by rw [pm.length_eq, List.length_map, Array.length_toList]
  obtain ⟨xs, are, exs⟩ := strs_are vs fun v hv => by
    obtain ⟨e, he, q⟩ := List.mem_map.mp (pm.mem_iff.mp hv)
    obtain ⟨x, u, h1, _⟩ := good e he
    exact ⟨x, u, by rw [← q]; exact h1⟩
  have px : xs.Perm (rows.toList.map nameE) := by
    rw [exs]
    have q := pm.map strOf
    rw [List.map_map] at q
    have e : rows.toList.map (strOf ∘ fun x => x.2) = rows.toList.map nameE := List.map_congr_left fun e he => by
      obtain ⟨x, u, h1, _⟩ := good e he
      show strOf e.2 = nameE e
      unfold nameE
      rw [h1]
      rfl
    rw [← e]
    exact q
  have sz : vs.length ≤ sizeLine := by rw [len_vs, sizeLine_eq]; omega
  refine wpAny_bind (wpAny_newList ?_ sz)
  have laid : (z1.heap.push (seqObj "list" vs.toArray 0)).get? z1.heap.objs.size = some (seqObj "list" vs.toArray 0) := Heap.get?_push_size _ rfl
  refine wpAny_bind (wpAny_holding (wpAny_call_entry slot_list_sort ⟨_, laid, rfl⟩ entry_list_sort (list_sort_treeKAny (κ := PyProof.Rows.strKind) strKind_oneLt laid are.keysOf (fun v1 v2 rest e => keyKind_strs (by rw [← e]; exact are)) sz fun st hp hs => ⟨_, rfl, ?_⟩) (args_list_sort _)))
  obtain ⟨ys, a1, a2, a3⟩ := sorted_out_str are hp hs
  obtain ⟨c, hc⟩ := sortedHeap_at (vs := vs) (out := (arrOf st).map (·.2)) laid
  have py : ys.Perm (rows.toList.map nameE) := a2.trans px
  refine wpAny_pure ⟨_, rfl, fin _ z1.heap.objs.size _ c ys (fun b u e => ?_) gens1 os1 grown hc a1 a3 (py.nodup_iff.mpr once) fun x => by rw [py.mem_iff, ← mem x]⟩
  have q := kept b u e
  have lt := Heap.lt_size q
  show (sortedHeap (z1.heap.push (seqObj "list" vs.toArray 0)) z1.heap.objs.size vs _).get? b = some u
  rw [sortedHeap_old (Nat.ne_of_lt lt) (by rw [size_push']; exact Nat.lt_succ_of_lt lt)]
  exact Heap.get?_push_of_some _ q
end
def SetTx (wd : World) (a : Addr) (L : List Str) : HO := .ext fun h => TxS wd h a L
theorem setTx_new {wd : World} {P : Program} {H : Hp} {h : Heap} {a : Addr} {L : List Str} (R : TxS wd h a L) : ObjOk P wd H h a (SetTx wd a L) := by
  have ⟨o, _, _, _, ho, _⟩ := R
  exact ⟨R, ⟨o, ho⟩, fun h1 h2 p k => TxS.at p k⟩
theorem perm_sorted : ∀ {xs ys : List Str}, xs.Perm ys → sortedS xs = true → sortedS ys = true → xs = ys := by
  have rise : ∀ (l : List Str) (p : Str), risingS p l = true → ∀ x ∈ l, ¬ x.cps.toList < p.cps.toList := by
    intro l
    induction l with
    | nil => intro p _ x hx; cases hx
    | cons y t ih =>
      intro p h x hx
      have h' : (!ltCps y.cps.toList p.cps.toList && risingS y t) = true := h
      rw [Bool.and_eq_true] at h'
      have h1 : ¬ y.cps.toList < p.cps.toList := by
        have := h'.1
        rw [ltCps_eq] at this
        simpa using this
      rcases List.mem_cons.mp hx with e | hx
      · rw [e]; exact h1
      · intro z
        have h2 := ih y h'.2 x hx
        have h3 : p.cps.toList ≤ y.cps.toList := List.not_lt.mp h1
        have h4 : y.cps.toList ≤ x.cps.toList := List.not_lt.mp h2
        exact List.not_lt.mpr (List.le_trans h3 h4) z
  have tail : ∀ (l : List Str) (p : Str), risingS p l = true → sortedS l = true := by
    intro l p h
    cases l with
    | nil => rfl
    | cons y t =>
      have h' : (!ltCps y.cps.toList p.cps.toList && risingS y t) = true := h
      rw [Bool.and_eq_true] at h'
      exact h'.2
  intro xs
  induction xs with
  | nil => intro ys p _ _; exact (List.Perm.eq_nil p.symm).symm
  | cons x xs ih =>
    intro ys p hx hy
    cases ys with
    | nil => exact absurd p.length_eq (by simp)
    | cons y ys =>
      have e : x = y := by
        have m1 : y ∈ x :: xs := p.mem_iff.mpr (List.mem_cons_self ..)
        have m2 : x ∈ y :: ys := p.mem_iff.mp (List.mem_cons_self ..)
        rcases List.mem_cons.mp m1 with e | m1
        · exact e.symm
        · rcases List.mem_cons.mp m2 with e | m2
          · exact e
          · have h1 := rise xs x hx y m1
            have h2 := rise ys y hy x m2
            have e : x.cps.toList = y.cps.toList := List.le_antisymm (List.not_lt.mp h1) (List.not_lt.mp h2)
            have e2 : x.cps = y.cps := Array.ext' e
            cases x; cases y
            cases e2
            rfl
      subst e
      rw [ih (List.Perm.cons_inv p) (tail xs x hx) (tail ys x hy)]
section
variable {X : Cx} {M : List Addr} {σ : L2.St} {H : Hp} {e : Expr} {p1 p2 pa pb : Pos}
theorem cr_sortedTx (hc : X.calm = true) : CallR X (.builtin "sorted") (fun vs H Q => ∃ (a : Addr) (L T : List Str), vs = [V.ref a] ∧ H a = some (SetTx X.w a L) ∧ (∀ x ∈ L, x ∈ T) ∧ L.length < 64 ∧
    ∀ (ys : List Str) (p : Addr), sortedS ys = true → ys.Nodup → (∀ x, x ∈ ys ↔ x ∈ L) → H p = none → Q (.ref p) (upd H p (.lst (ys.map V.str)))) := by
  intro pins s σ H vs us Q I r h
  obtain ⟨a, L, T, rfl, ha, hT, h64, q⟩ := h
  have R : TxS X.w s.heap a L := (I.hok a _ ha).1
  rw [Vals.ref1 r]
  refine sorted_txs R (I.ok.hd hc) h64 fun y p out c ys k g o hp hg hi hs hn hm => ?_
  have len : (ys.map V.str).length ≤ sizeLine := by
    have := Dl.nodup_le hn fun x hx => (hm x).mp hx
    rw [List.length_map, sizeLine_eq]; omega
  have np : H p = none := I.hok.fresh hp
  have J : Inv X pins σ (upd H p (.lst (ys.map V.str))) { s with heap := y.heap, gens := y.gens, drawn := y.drawn, toks := y.toks } :=
    I.call (ch := []) (Un.laid k hp np) (I.hok.laid k hp ⟨len, out.toList, c, vals_of_strs hi, hg⟩) (by rw [g]; exact I.bare) (fun _ z => nomatch z)
  have e : y = { s with heap := y.heap, gens := y.gens, drawn := y.drawn, toks := y.toks } := by
    cases y
    cases s
    cases o
    rfl
  rw [e]
  exact ⟨.ref p, _, J, rfl, q ys p hs hn hm np⟩
theorem cr_setTx (hc : X.calm = true) : CallR X (.type "set") (fun vs H Q => ∃ (l : Addr) (xs : List Str), vs = [V.ref l] ∧ SqL X.K H l (xs.map V.str) ∧ xs.length ≤ 4000 ∧ ∀ p, H p = none → Q (.ref p) (upd H p (SetTx X.w p xs))) := by
  intro pins s σ H vs us Q I r h
  obtain ⟨l, xs, rfl, hl, hz, q⟩ := h
  obtain ⟨its, rv, isl, _⟩ := I.list hl
  obtain ⟨u, rfl, ru⟩ := vals1 r
  obtain rfl : u = Value.ref l := ru
  refine set_of_txts xs (I.ok.hd hc) isl.isList (by simpa using rv.strs) (Nat.lt_of_le_of_lt (Nat.succ_le_succ hz) (by decide)) fun hn tk L hm new kept => ?_
  have new' : TxS X.w hn s.heap.objs.size xs := by
    obtain ⟨ob, rows, ep, tb, h1, h2, h3, h4, h5, h6, h7⟩ := new
    exact ⟨ob, rows, ep, tb, h1, h2, h3, h4, h5, fun x => (hm x).symm.trans (h6 x), h7⟩
  exact ⟨.ref s.heap.objs.size, upd H s.heap.objs.size (SetTx X.w s.heap.objs.size xs), I.laid (t' := tk) kept (Nat.le_refl _) (setTx_new new'), rfl, q _ (I.hok.fresh (Nat.le_refl _))⟩
theorem strs_v {K : PySem.W.Frag} {H : Hp} : ∀ {xs : List Str} {vs : List V}, DqAll K H vs (xs.map PyData.str) → vs = xs.map V.str
  | [], _, h => by cases h; rfl
  | x :: xs, _, h => by
    cases h with
    | cons h1 h2 => rw [dp_str h1, strs_v h2]; rfl
theorem strs_d {K : PySem.W.Frag} {H : Hp} : ∀ xs : List Str, DqAll K H (xs.map V.str) (xs.map PyData.str)
  | [] => .nil
  | x :: xs => .cons (.str x) (strs_d xs)
/-- sorted(set(e)) of texts -/
theorem re_sortedSet {xs : List Str} {Q : VK} (hm : X.mg "sorted" = none) (hm2 : X.mg "set" = none) (ha : XD X M σ H e (.list (xs.map PyData.str))) (h64 : xs.length < 64)
    (q : ∀ ys p H1, Same H H1 → H p = none → H1 p = some (.lst (ys.map V.str)) → sortedS ys = true → ys.Nodup → (∀ x, x ∈ ys ↔ x ∈ xs) → Q (.ref p) H1) (hc : X.calm = true := by rfl) (hg : Gl X "sorted" := by rfl) (hg2 : Gl X "set" := by rfl)
    (he : starEach [.Call (.Name "set" pa) [e] [] pb] X.env = (false, eval (.Call (.Name "set" pa) [e] [] pb) X.env) :: starEach [] X.env := by rfl) (he2 : starEach [e] X.env = (false, eval e X.env) :: starEach [] X.env := by rfl) (hpl : (backTo p2 (starEach [] X.env)).any (·.1) = false := by rfl) (hpl2 : (backTo pb (starEach [] X.env)).any (·.1) = false := by rfl) :
    RE X (.Call (.Name "sorted" p1) [.Call (.Name "set" pa) [e] [] pb] [] p2) σ H Q := by
  refine re_B (cr_sortedTx hc) (ra_1 ⟨_, pe_callTy (cr_setTx hc) hg2 hm2 (by decide +kernel) ra_ (by decide) (by decide) he2 hpl2, ra_1 (ha.go fun v H2 s2 hv => ?_) he2⟩ he) hm (by decide +kernel) hg (by decide) (by decide) he hpl
  obtain ⟨a, vs, rfl, hl, hx⟩ := dp_lst hv
  have ex := strs_v hx
  subst ex
  refine ⟨a, xs, rfl, SqL.of (hid_le _ _ hl), by omega, fun p hp => ⟨p, xs, xs, rfl, upd_same, fun x hx => hx, h64, fun ys l hs hn hmm hl2 => ?_⟩⟩
  have hl3 : H2 l = none := by
    by_cases z : l = p
    · subst z; exact hp
    · rw [upd_ne z] at hl2; exact hl2
  exact q ys l _ ((s2.trans (same_new hp)).trans (same_new hl2)) (s2.free hl3) upd_same hs hn hmm
/-- sorted(e), a list of texts -/
theorem re_sortedL {xs : List Str} {Q : VK} (hm : X.mg "sorted" = none) (ha : XD X M σ H e (.list (xs.map PyData.str))) (h64 : xs.length < 64)
    (q : ∀ ys p H1, Same H H1 → H p = none → H1 p = some (.lst (ys.map V.str)) → sortedS ys = true → ys.Perm xs → Q (.ref p) H1) (hg : Gl X "sorted" := by rfl)
    (he : starEach [e] X.env = (false, eval e X.env) :: starEach [] X.env := by rfl) (hpl : (backTo p2 (starEach [] X.env)).any (·.1) = false := by rfl) :
    RE X (.Call (.Name "sorted" p1) [e] [] p2) σ H Q := by
  refine re_B cr_sortedS (ra_1 (ha.go fun v H2 s2 hv => ?_) he) hm (by decide +kernel) hg (by decide) (by decide) he hpl
  obtain ⟨a, vs, rfl, hl, hx⟩ := dp_lst hv
  have ex := strs_v hx
  subst ex
  exact ⟨a, xs, rfl, SqL.of (hid_le _ _ hl), h64, fun ys l hp hs hl2 => q ys l _ (s2.trans (same_new hl2)) (s2.free hl2) upd_same hs hp⟩
end
end Dl

set_option Elab.async false
set_option linter.all false
set_option maxRecDepth 100000
set_option maxHeartbeats 8000000
/-! list(zip(a, b)), two lists -/
namespace Dl
open PySem PySem.Spec PyProof.Rows L2
theorem zip_no_len : typeLookup (.type "zip") "__len__" = pure none := am_miss_of_fast (by decide +kernel)
theorem zip_no_hint : typeLookup (.type "zip") "__length_hint__" = pure none := am_miss_of_fast (by decide +kernel)
/-- the pairs that were made so far -/
def ZPi (G H : Hp) (zs xs ys : List V) (i : Nat) : Prop := zs.length = i ∧ ∀ (j : Nat) v, zs[j]? = some v → ∃ t x y, v = .ref t ∧ G t = none ∧ H t = some (.tup [x, y]) ∧ xs[j]? = some x ∧ ys[j]? = some y
def ZSt (h : Heap) (H : Hp) (z TI TO i1 i2 a b : Addr) (i : Nat) : Prop := IsPair h TI (.ref i1) (.ref i2) ∧ h.IsListIter i1 a i ∧ h.IsListIter i2 b i ∧
  ((IsZip h z TI TO .none ∧ ∃ x y, IsPair h TO x y) ∨ ∃ T f x y, IsZipHeld h z TI TO T f ∧ (∃ u v, IsPair h TO u v) ∧ H T = some (.tup [x, y]))
theorem zipl_loop {X : Cx} {pins : List (Addr × Obj)} {σ : L2.St} {A : Around} {R : Result → Shared → Prop} {res : Value} {G : Hp} {z TI TO i1 i2 a b S : Addr} {xs ys : List V} (hh : A.in1.handled = none) (D : ZipApart z TI TO i1 i2 a b) (hsm : min xs.length ys.length ≤ 100000)
    (hSa : S ≠ a) (hSb : S ≠ b) : ∀ (k i : Nat) (s : Shared) (H : Hp) (zs : List V), min xs.length ys.length - i = k → i ≤ min xs.length ys.length → (∀ c o, c ≠ S → G c = some o → H c = some o) → Inv X pins σ H s → ZSt s.heap H z TI TO i1 i2 a b i → (∀ c ∈ [z, TI, TO, i1, i2], FpOk X pins H c) →
      H a = some (.lst xs) → H b = some (.lst ys) → H S = some (.lst zs) → ZPi G H zs xs ys i →
      (∀ s' H' zs', Inv X pins σ H' s' → (∀ c o, c ≠ S → H c = some o → H' c = some o) → H' S = some (.lst zs') → ZPi G H' zs' xs ys (min xs.length ys.length) → R (.ok (.ret res)) s') →
      codeAny (model X.prog X.w) A (.builtin "list.extend.loop" ⟨[.ref S, .ref z, res], []⟩) R s := by
  have big : 100000 < sizeLine := by decide
  have ldone : ∀ (i : Nat) (s : Shared) (H : Hp) (zs : List V), i = min xs.length ys.length → Inv X pins σ H s → ZSt s.heap H z TI TO i1 i2 a b i → (∀ c ∈ [z, TI, TO, i1, i2], FpOk X pins H c) →
      H a = some (.lst xs) → H b = some (.lst ys) → H S = some (.lst zs) → ZPi G H zs xs ys i →
      (∀ s' H' zs', Inv X pins σ H' s' → (∀ c o, c ≠ S → H c = some o → H' c = some o) → H' S = some (.lst zs') → ZPi G H' zs' xs ys (min xs.length ys.length) → R (.ok (.ret res)) s') →
      codeAny (model X.prog X.w) A (.builtin "list.extend.loop" ⟨[.ref S, .ref z, res], []⟩) R s := by
    intro i s H zs hi I st hf ha hb hS hzs hR
    obtain ⟨hTI, h1, h2, hz⟩ := st
    obtain ⟨its, rv, p, _⟩ := I.list (SqL.of ha)
    obtain ⟨its2, rv2, p2, _⟩ := I.list (SqL.of hb)
    have l1 := rv.length
    have l2 := rv2.length
    have he : its.toArray[i]? = none ∨ its2.toArray[i]? = none := by
      rcases Nat.le_total xs.length ys.length with h | h
      · exact .inl (by simp; omega)
      · exact .inr (by simp; omega)
    refine codeAny_builtin F.entry_extend_loop ?_
    rw [Around.under_plainId F.plain_extend_loop _]
    show wpAny _ A.in1 (pyNext (.ref z) >>= _) _ _ s
    have fin : ∀ (h' : Heap), (∀ c o, c ∉ [z, TI, TO, i1, i2] → s.heap.get? c = some o → h'.get? c = some o) → R (.ok (.ret res)) { s with heap := h' } := fun h' hk =>
      hR _ H zs (I.turnedL (t' := s.toks) (ch := [z, TI, TO, i1, i2]) hk hf) (fun _ _ _ e => e) hS (hi ▸ hzs)
    rcases hz with ⟨hz, x0, y0, hTO⟩ | ⟨T, f, x0, y0, hz, _, hT⟩
    · exact wpAny_bind (wpAny_pyNext_zip_end hh D hz hTI hTO h1 h2 p.isList p2.isList he fun h' hk => wpAny_pure (fin h' fun c o hc e => hk c o (fun q => hc (by simp [q])) (fun q => hc (by simp [q])) (fun q => hc (by simp [q])) (fun q => hc (by simp [q])) e))
    · obtain ⟨_, its3, rv3, oT, hoT, _⟩ := I.hok T _ hT
      exact wpAny_bind (wpAny_pyNext_zip_end_held hh D hz hoT hTI h1 h2 p.isList p2.isList he fun h' hk => wpAny_pure (fin h' fun c o hc e => hk c o (fun q => hc (by simp [q])) (fun q => hc (by simp [q])) (fun q => hc (by simp [q])) e))
  intro k
  induction k with
  | zero =>
    intro i s H zs hk hi _
    exact ldone i s H zs (by omega)
  | succ k ih =>
    intro i s H zs hk hi hG I st hf ha hb hS hzs hR
    have hlx : i < xs.length := by omega
    have hly : i < ys.length := by omega
    have ex : xs[i]? = some xs[i] := List.getElem?_eq_getElem hlx
    have ey : ys[i]? = some ys[i] := List.getElem?_eq_getElem hly
    generalize xs[i] = x at ex
    generalize ys[i] = y at ey
    obtain ⟨hTI, h1, h2, hz⟩ := st
    obtain ⟨its, rv, p, _⟩ := I.list (SqL.of ha)
    obtain ⟨its2, rv2, p2, _⟩ := I.list (SqL.of hb)
    obtain ⟨u, hu, ru⟩ := rv.get ex
    obtain ⟨u2, hu2, ru2⟩ := rv2.get ey
    have hlt : ∀ c ∈ [z, TI, TO, i1, i2], c < s.heap.objs.size := fun c hc => by
      have e' : c = z ∨ c = TI ∨ c = TO ∨ c = i1 ∨ c = i2 := by simpa using hc
      rcases e' with q | q | q | q | q
      · rw [q]; rcases hz with ⟨hz, _⟩ | ⟨_, _, _, _, hz, _⟩ <;> exact Heap.lt_size hz
      · rw [q]; exact Heap.lt_size hTI
      · rw [q]; rcases hz with ⟨_, _, _, hTO⟩ | ⟨_, _, _, _, _, ⟨_, _, hTO⟩, _⟩ <;> exact Heap.lt_size hTO
      · rw [q]; obtain ⟨_, e1, _⟩ := h1; exact Heap.lt_size e1
      · rw [q]; obtain ⟨_, e2, _⟩ := h2; exact Heap.lt_size e2
    refine codeAny_builtin F.entry_extend_loop ?_
    rw [Around.under_plainId F.plain_extend_loop _]
    show wpAny _ A.in1 (pyNext (.ref z) >>= _) _ _ s
    -- behind the next pair
    have next : ∀ (h' : Heap), (∀ c o, c ∉ [z, TI, TO, i1, i2] → s.heap.get? c = some o → h'.get? c = some o) → IsPair h' s.heap.objs.size u u2 → IsPair h' TI (.ref i1) (.ref i2) → h'.IsListIter i1 a (i + 1) → h'.IsListIter i2 b (i + 1) →
        (∃ T f, IsZipHeld h' z TI TO T f ∧ (T = s.heap.objs.size ∨ ∃ x0 y0, H T = some (.tup [x0, y0]))) → (∃ u v, IsPair h' TO u v) →
        wpAny (model X.prog X.w) A.in1 (updateSeq S (·.push (.ref s.heap.objs.size)) >>= fun _ => again (.builtin "list.extend.loop" ⟨[.ref S, .ref z, res], []⟩)) (fun fin s' => match fin with | .done f => R (.ok f) s' | .again c' => c'.quiet = true ∧ codeAny (model X.prog X.w) A c' R s') (fun e s' => R (.error e) s') { s with heap := h' } := by
      intro h' hk hT hTI' h1' h2' hz' hTO'
      have hTn : H s.heap.objs.size = none := I.hok.fresh (Nat.le_refl _)
      have new : ObjOk X.prog X.w (upd H s.heap.objs.size (.tup [x, y])) h' s.heap.objs.size (.tup [x, y]) :=
        ⟨by show 2 ≤ sizeLine; decide, [u, u2], .cons ru (.cons ru2 .nil), ⟨_, hT, rfl, _, rfl⟩⟩
      have I1 : Inv X pins σ (upd H s.heap.objs.size (.tup [x, y])) { s with heap := h' } := I.turnedNew (t' := s.toks) (ch := [z, TI, TO, i1, i2]) hk hf (Nat.le_refl _) new
      have hST : S ≠ s.heap.objs.size := ne_of_none hS hTn
      have hS1 : upd H s.heap.objs.size (.tup [x, y]) S = some (.lst zs) := by rw [upd_ne hST]; exact hS
      have haT : a ≠ s.heap.objs.size := ne_of_none ha hTn
      have hbT : b ≠ s.heap.objs.size := ne_of_none hb hTn
      obtain ⟨hzl, its, n, ri, eS⟩ := I1.hok S _ hS1
      have hln := ri.length
      have hzi : zs.length = i := hzs.1
      have nS : ∀ c ∈ [z, TI, TO, i1, i2], c ≠ S := fun c hc q => by have := (hf c hc).1; rw [q, hS] at this; cases this
      refine wpAny_bind (wpAny_updateSeq eS rfl (wpAny_pure ⟨plainId_quiet F.plain_extend_loop _, ?_⟩) (by simp; omega) (by simp; omega))
      have self := Heap.get?_update_self (Obj.mapSeq (·.push (Value.ref s.heap.objs.size))) eS rfl
      have oth : ∀ c o, c ≠ S → h'.get? c = some o → (h'.update S (Obj.mapSeq (·.push (Value.ref s.heap.objs.size)))).get? c = some o := fun c o hc e => (Heap.get?_update_other _ _ (Ne.symm hc)).trans e
      have okS2 : ObjOk X.prog X.w (upd (upd H s.heap.objs.size (.tup [x, y])) S (.lst (zs ++ [V.ref s.heap.objs.size]))) (h'.update S (Obj.mapSeq (·.push (Value.ref s.heap.objs.size)))) S (.lst (zs ++ [V.ref s.heap.objs.size])) :=
        ⟨by rw [List.length_append]; simp; omega, its ++ [Value.ref s.heap.objs.size], _, ri.append (.cons rfl .nil), by rw [self]; simp [Obj.mapSeq]; rfl⟩
      have I2 : Inv X pins σ (upd (upd H s.heap.objs.size (.tup [x, y])) S (.lst (zs ++ [V.ref s.heap.objs.size]))) { s with heap := h'.update S (Obj.mapSeq (·.push (Value.ref s.heap.objs.size))) } :=
        I1.write (x := S) (e := S) (t' := s.toks) (by rw [hS1]; trivial) (.inl rfl) (fun c o hc e => oth c o hc e) ⟨_, self⟩ okS2
      have keep : ∀ c o, c ≠ S → H c = some o → upd (upd H s.heap.objs.size (.tup [x, y])) S (.lst (zs ++ [V.ref s.heap.objs.size])) c = some o := fun c o hc e => by
        rw [upd_ne hc, upd_ne (ne_of_none e hTn)]; exact e
      refine ih (i + 1) _ _ (zs ++ [V.ref s.heap.objs.size]) (by omega) (by omega) (fun c o hc e => keep c o hc (hG c o hc e)) I2 ⟨?_, ?_, ?_, .inr ?_⟩ (fun c hc => ⟨?_, (hf c hc).2⟩) (keep _ _ (Ne.symm hSa) ha) (keep _ _ (Ne.symm hSb) hb) upd_same ⟨?_, fun j v hj => ?_⟩ fun s' H' zs' I' hk' hS' hz'' => hR s' H' zs' I' (fun c o hc e => hk' c o hc (keep c o hc e)) hS' hz''
      · exact oth _ _ (nS TI (by simp)) hTI'
      · exact h1'.at fun o e => oth _ _ (nS i1 (by simp)) e
      · exact h2'.at fun o e => oth _ _ (nS i2 (by simp)) e
      · obtain ⟨T, f, hz'', hT''⟩ := hz'
        obtain ⟨u0, v0, hTO'⟩ := hTO'
        rcases hT'' with e | ⟨x0, y0, hT0⟩
        · exact ⟨T, f, x, y, oth _ _ (nS z (by simp)) hz'', ⟨u0, v0, oth _ _ (nS TO (by simp)) hTO'⟩, by rw [e, upd_ne (Ne.symm hST)]; exact upd_same⟩
        · exact ⟨T, f, x0, y0, oth _ _ (nS z (by simp)) hz'', ⟨u0, v0, oth _ _ (nS TO (by simp)) hTO'⟩, keep _ _ (fun q => by rw [q, hS] at hT0; cases hT0) hT0⟩
      · rw [upd_ne (nS c hc), upd_ne (Nat.ne_of_lt (hlt c hc))]
        exact (hf c hc).1
      · rw [List.length_append, hzi]; rfl
      · by_cases hj2 : j < zs.length
        · rw [List.getElem?_append_left hj2] at hj
          obtain ⟨t, x1, y1, e1, eg, e2, e3, e4⟩ := hzs.2 j v hj
          exact ⟨t, x1, y1, e1, eg, keep _ _ (fun q => by rw [q, hS] at e2; cases e2) e2, e3, e4⟩
        · have hj3 : j < zs.length + 1 := by have := (List.getElem?_eq_some_iff.mp hj).1; rw [List.length_append] at this; exact this
          have ej : j = zs.length := by omega
          subst ej
          rw [List.getElem?_append_right (Nat.le_refl _), Nat.sub_self] at hj
          cases hj
          refine ⟨_, x, y, rfl, ?_, by rw [upd_ne (Ne.symm hST)]; exact upd_same, by rw [hzi]; exact ex, by rw [hzi]; exact ey⟩
          cases eG : G s.heap.objs.size with
          | none => rfl
          | some o => rw [hG _ o (Ne.symm hST) eG] at hTn; cases hTn
    rcases hz with ⟨hz, x0, y0, hTO⟩ | ⟨T, f, x0, y0, hz, ⟨u0, v0, hTO⟩, hT⟩
    · refine wpAny_bind (wpAny_pyNext_zip_item D hz hTI hTO h1 h2 p.isList p2.isList (x := u) (y := u2) (by simpa using hu) (by simpa using hu2) fun h' a1 a2 a3 a4 a5 a6 hk => ?_)
      exact next h' (fun c o hc e => hk c o (fun q => hc (by simp [q])) (fun q => hc (by simp [q])) (fun q => hc (by simp [q])) (fun q => hc (by simp [q])) e) a5 (hk _ _ D.TIz D.TITO D.TIi1 D.TIi2 hTI) a3 a4 ⟨_, false, a1, .inl rfl⟩ ⟨_, _, a2⟩
    · obtain ⟨_, its3, rv3, oT, hoT, _⟩ := I.hok T _ hT
      refine wpAny_bind (wpAny_pyNext_zip_item_held D hz hoT hTI h1 h2 p.isList p2.isList (x := u) (y := u2) (by simpa using hu) (by simpa using hu2) fun h' a1 a3 a4 a5 a6 hk => ?_)
      exact next h' (fun c o hc e => hk c o (fun q => hc (by simp [q])) (fun q => hc (by simp [q])) (fun q => hc (by simp [q])) e) a5 (hk _ _ D.TIz D.TIi1 D.TIi2 hTI) a3 a4 ⟨T, true, a1, .inr ⟨x0, y0, hT⟩⟩ ⟨u0, v0, hk _ _ D.TOz D.TOi1 D.TOi2 hTO⟩
/-- list(zip(e, e2)) -/
def tListZip (ta : TA) : TE := fun σ H Q => ta σ H fun vs H1 => ∃ a b xs ys, vs = [.ref a, .ref b] ∧ H1 a = some (.lst xs) ∧ H1 b = some (.lst ys) ∧ min xs.length ys.length ≤ 100000 ∧
  ∀ p zs H2, Same H1 H2 → H1 p = none → H2 p = some (.lst zs) → ZPi H1 H2 zs xs ys (min xs.length ys.length) → Q (.ref p) H2
theorem pe_listZip {X : Cx} {e e2 : Expr} {ta : TA} {p1 p2 p3 p4 : Pos} (hc : X.calm = true) (hg : Gl X "list") (hm : X.mg "list" = none) (hg2 : Gl X "zip") (hm2 : X.mg "zip" = none) (ha : PA X [e, e2] ta)
    (hs : starEach [e, e2] X.env = (false, eval e X.env) :: starEach [e2] X.env := by rfl) (hpl : (backTo p4 (starEach [e2] X.env)).any (·.1) = false := by rfl)
    (na : starEach [.Call (.Name "zip" p3) [e, e2] [] p4] X.env = (false, eval (.Call (.Name "zip" p3) [e, e2] [] p4) X.env) :: starEach [] X.env := by rfl) :
    PE X (.Call (.Name "list" p1) [.Call (.Name "zip" p3) [e, e2] [] p4] [] p2) (tListZip ta) := by
  refine ⟨fun pins s σ H Q I h => ?_⟩
  refine Call_ (ld_blt I hg hm boot_list (PyProof.Rows.callWith_type1 (args_cons (Call_ (ld_blt I hg2 hm2 PyProof.Rows.boot_zip (PyProof.Rows.callWith_type1 (thn (ha.run p4 pins s σ H _ I h) fun us s1 ⟨vs, H1, I1, r1, q1⟩ => ?_) hs hpl))) na) na))
  obtain ⟨a, b, xs, ys, ex, hqx, hqy, hsm, q⟩ := q1
  subst ex
  cases r1 with
  | cons r rr =>
    cases rr with
    | cons r' rr =>
      cases rr
      cases r
      cases r'
      obtain ⟨its, rv, p1, _⟩ := I1.list (SqL.of hqx)
      obtain ⟨its2, rv2, p2, _⟩ := I1.list (SqL.of hqy)
      have la : a < s1.heap.objs.size := p1.lt
      have lb : b < s1.heap.objs.size := p2.lt
      refine call_zip_2 p1.isList p2.isList fun h' hz hTI hTO h1 h2 hsz hk => args_nil ?_
      have I2 : Inv X pins σ H1 { s1 with heap := h' } := I1.kept (t' := s1.toks) hk
      have hSn : H1 h'.objs.size = none := I2.hok.fresh (Nat.le_refl _)
      -- the new list
      have hTy : ∀ {hp : Heap}, IsZip hp (s1.heap.objs.size + 4) (s1.heap.objs.size + 2) (s1.heap.objs.size + 3) .none → ({ s1 with heap := hp } : Shared).TypeIs (.ref (s1.heap.objs.size + 4)) "zip" := fun {hp} z => ⟨_, z, rfl⟩
      refine callType_codes (Q₁ := fun obj s₁ => obj = .ref h'.objs.size ∧ s₁ = { s1 with heap := h'.push { cls := .type "list", data := .seq #[] } }) F.called_list (F.typeCall_list_1 _) F.entry_list_init
        (code_list_new (s := { s1 with heap := h' }) _ ⟨rfl, rfl⟩) fun obj s₁ hob => ?_
      obtain ⟨rfl, rfl⟩ := hob
      have hS : (h'.push { cls := .type "list", data := .seq #[] }).get? h'.objs.size = some { cls := .type "list", data := .seq #[] } := Heap.get?_push_size _ rfl
      refine ⟨⟨_, hS, rfl⟩, F.args_list_init_2 _ _, ?_⟩
      show wpAny _ _ (do let old ← Builtin.List.listItems (.ref h'.objs.size); Builtin.List.listUpdate (.ref h'.objs.size) (fun _ => #[]); letGo old.toList.reverse; Builtin.List.listExtendWith (.ref h'.objs.size) (.ref (s1.heap.objs.size + 4)) .none) _ _ _
      refine wpAny_bind ?_
      unfold Builtin.List.listItems
      refine wpAny_bind (wpAny_seqItems hS rfl (wpAny_pure ?_))
      show wpAny _ _ (updateSeq h'.objs.size (fun _ => #[]) >>= fun _ => letGo (#[] : Array Value).toList.reverse >>= fun _ => Builtin.List.listExtendWith (.ref h'.objs.size) (.ref (s1.heap.objs.size + 4)) .none) _ _ _
      refine wpAny_bind (wpAny_updateSeq hS rfl ?_)
      have hS₂ := Heap.get?_update_self (Obj.mapSeq (fun _ => (#[] : Array Value))) hS rfl
      have oth : ∀ c o, h'.get? c = some o → ((h'.push { cls := .type "list", data := .seq #[] }).update h'.objs.size (Obj.mapSeq (fun _ => (#[] : Array Value)))).get? c = some o :=
        fun c o e => (Heap.get?_update_other _ _ (Ne.symm (Nat.ne_of_lt (Heap.lt_size e)))).trans (Heap.get?_push_of_some _ e)
      refine wpAny_bind (wpAny_letGo ?_)
      generalize hh1 : (h'.push { cls := .type "list", data := .seq #[] }).update h'.objs.size (Obj.mapSeq (fun _ => (#[] : Array Value))) = g1 at hS₂ oth ⊢
      have z1 : IsZip g1 (s1.heap.objs.size + 4) (s1.heap.objs.size + 2) (s1.heap.objs.size + 3) .none := oth _ _ hz
      unfold Builtin.List.listExtendWith
      refine wpAny_bind (wpAny_typeOf (hTy z1) ?_)
      have neS : h'.objs.size ≠ s1.heap.objs.size + 4 := by rw [hsz]; omega
      have e1 : Builtin.List.listSameRef (.ref h'.objs.size) (.ref (s1.heap.objs.size + 4)) = false := by simp [Builtin.List.listSameRef, neS]
      have e2 : (Value.type "zip" == Value.type "list") = false := by decide
      have e3 : (Value.type "zip" == Value.type "tuple") = false := by decide
      simp only [e1, e2, e3, Bool.or_false, Bool.false_eq_true, if_false]
      refine wpAny_bind (wpAny_pyIter_zip z1 ?_)
      refine wpAny_bind (wpAny_holding ?_)
      unfold Builtin.List.listLengthHint
      refine wpAny_bind (wpAny_specialOf (hTy z1) zip_no_len ?_)
      show wpAny _ _ (specialOf (Value.ref (s1.heap.objs.size + 4)) (Str.ofString "__length_hint__") >>= _) _ _ _
      refine wpAny_bind (wpAny_specialOf (hTy z1) zip_no_hint ?_)
      refine wpAny_pure ?_
      show wpAny _ _ (rule "list.extend.makes-room" >>= fun _ => Builtin.List.listTouch (.ref h'.objs.size) >>= fun _ =>
        again (.builtin "list.extend.loop" ⟨[.ref h'.objs.size, .ref (s1.heap.objs.size + 4), .none], []⟩)) _ _ _
      refine wpAny_bind (wpAny_rule ?_)
      refine wpAny_bind ?_
      show wpAny _ _ (updateSeq h'.objs.size (·.push .none) >>= fun _ => updateSeq h'.objs.size (·.pop)) _ _ _
      refine wpAny_bind (wpAny_updateSeq hS₂ rfl ?_)
      have hS₃ := Heap.get?_update_self (Obj.mapSeq (·.push Value.none)) hS₂ rfl
      refine wpAny_updateSeq (hz := by seq_fits) hS₃ rfl ?_
      have hS₄ := Heap.get?_update_self (Obj.mapSeq (·.pop)) hS₃ rfl
      have oth2 : ∀ c o, c ≠ h'.objs.size → g1.get? c = some o → ((g1.update h'.objs.size (Obj.mapSeq (·.push Value.none))).update h'.objs.size (Obj.mapSeq (·.pop))).get? c = some o :=
        fun c o hc e => (Heap.get?_update_other _ _ (Ne.symm hc)).trans ((Heap.get?_update_other _ _ (Ne.symm hc)).trans e)
      have oth3 : ∀ c o, h'.get? c = some o → ((g1.update h'.objs.size (Obj.mapSeq (·.push Value.none))).update h'.objs.size (Obj.mapSeq (·.pop))).get? c = some o :=
        fun c o e => oth2 c o (Nat.ne_of_lt (Heap.lt_size e)) (oth c o e)
      generalize (g1.update h'.objs.size (Obj.mapSeq (·.push Value.none))).update h'.objs.size (Obj.mapSeq (·.pop)) = g2 at hS₄ oth3 ⊢
      have I3 : Inv X pins σ (upd H1 h'.objs.size (.lst [])) { s1 with heap := g2 } :=
        I2.laid (t' := s1.toks) (fun c o e => oth3 c o e) (Nat.le_refl _) ⟨Nat.zero_le _, [], _, .nil, hS₄⟩
      have keep : ∀ c o, H1 c = some o → upd H1 h'.objs.size (.lst []) c = some o := fun c o e => by rw [upd_ne (ne_of_none e hSn)]; exact e
      refine wpAny_pure ⟨plainId_quiet F.plain_extend_loop _, ?_⟩
      refine zipl_loop (X := X) (G := H1) (xs := xs) (ys := ys) (by have := I1.ok.hd hc; simpa using this) (PySem.W.ktu_apart s1.heap.objs.size a b la lb) hsm (fun z => ne_of_none hqx hSn z.symm) (fun z => ne_of_none hqy hSn z.symm) _ 0 _ _ [] rfl (Nat.zero_le _) (fun c o _ e => keep c o e) I3 ⟨oth3 _ _ hTI, h1.at fun o e => oth3 _ _ e, h2.at fun o e => oth3 _ _ e, .inl ⟨oth3 _ _ hz, _, _, oth3 _ _ hTO⟩⟩ (fun c hc => ?_) (keep _ _ hqx) (keep _ _ hqy) upd_same ⟨rfl, fun j v hj => by simp at hj⟩ fun s' H' zs' I' hk' hS' hz' => ?_
      · have hle : s1.heap.objs.size ≤ c ∧ c < h'.objs.size := by
          have e' : c = s1.heap.objs.size + 4 ∨ c = s1.heap.objs.size + 2 ∨ c = s1.heap.objs.size + 3 ∨ c = s1.heap.objs.size ∨ c = s1.heap.objs.size + 1 := by simpa using hc
          rw [hsz]
          rcases e' with q | q | q | q | q
          · rw [q]; exact ⟨Nat.le_add_right _ _, Nat.add_lt_add_left (by decide) _⟩
          · rw [q]; exact ⟨Nat.le_add_right _ _, Nat.add_lt_add_left (by decide) _⟩
          · rw [q]; exact ⟨Nat.le_add_right _ _, Nat.add_lt_add_left (by decide) _⟩
          · rw [q]; exact ⟨Nat.le_refl _, Nat.lt_add_of_pos_right (by decide)⟩
          · rw [q]; exact ⟨Nat.le_add_right _ _, Nat.add_lt_add_left (by decide) _⟩
        refine I1.fpOk hle.1 ?_
        rw [upd_ne (Nat.ne_of_lt hle.2)]
        exact I1.hok.fresh hle.1
      · refine ⟨rfl, .ref h'.objs.size, H', I', rfl, q h'.objs.size zs' H' (fun c o e => hk' c o (ne_of_none e hSn) (keep c o e)) hSn hS' hz'⟩
section
variable {X : Cx} {M : List Addr} {σ : L2.St} {H : Hp} {a b : Expr} {ds ds2 : List PyData} {p1 p2 p3 p4 : Pos}
theorem zpi_data {K : PySem.W.Frag} {M : List Addr} {G H : Hp} {xs ys zs : List V} {ds ds2 : List PyData} (L : Live M G) (hz : ZPi G H zs xs ys (min xs.length ys.length)) (hx : DqAll K (hid M H) xs ds) (hy : DqAll K (hid M H) ys ds2) :
    DqAll K (hid M H) zs (List.zipWith (fun d e => PyData.tuple [d, e]) ds ds2) := by
  have lx := dpa_len hx
  have ly := dpa_len hy
  have hl : zs.length = (List.zipWith (fun d e => PyData.tuple [d, e]) ds ds2).length := by rw [hz.1, List.length_zipWith, lx, ly]
  have key : ∀ (j : Nat) v d, zs[j]? = some v → (List.zipWith (fun d e => PyData.tuple [d, e]) ds ds2)[j]? = some d → Dq K (hid M H) v d := by
    intro j v d hv hd
    obtain ⟨t, x, y, rfl, hg, ht, hxj, hyj⟩ := hz.2 j v hv
    obtain ⟨d1, h1, h2⟩ := dpa_get' hx hxj
    obtain ⟨d2, h3, h4⟩ := dpa_get' hy hyj
    rw [List.getElem?_zipWith, h1, h3] at hd
    cases hd
    exact .tup (SqT.of (by rw [hid_of (fun z => L t z hg)]; exact ht)) (.cons h2 (.cons h4 .nil))
  clear hz
  generalize List.zipWith (fun d e => PyData.tuple [d, e]) ds ds2 = ws at hl key
  clear hx hy lx ly
  induction zs generalizing ws with
  | nil =>
    cases ws with
    | nil => exact .nil
    | cons _ _ => cases hl
  | cons v zs ih =>
    cases ws with
    | nil => cases hl
    | cons d ws => exact .cons (key 0 v d rfl rfl) (ih ws (by simpa using hl) fun j u e h1 h2 => key (j + 1) u e (by simpa using h1) (by simpa using h2))
/-- list(zip(a, b)) -/
theorem xl_listZip (hm : X.mg "list" = none) (hm2 : X.mg "zip" = none) (L : Live M H) (ha : XD X M σ H a (.list ds)) (hb : XD X M σ H b (.list ds2)) (hsm : min ds.length ds2.length ≤ 100000) (hc : X.calm = true := by rfl) (hg : Gl X "list" := by rfl) (hg2 : Gl X "zip" := by rfl)
    (hs : starEach [a, b] X.env = (false, eval a X.env) :: starEach [b] X.env := by rfl) (hs2 : starEach [b] X.env = (false, eval b X.env) :: starEach [] X.env := by rfl) (hpl : (backTo p4 (starEach [b] X.env)).any (·.1) = false := by rfl)
    (na : starEach [.Call (.Name "zip" p3) [a, b] [] p4] X.env = (false, eval (.Call (.Name "zip" p3) [a, b] [] p4) X.env) :: starEach [] X.env := by rfl) :
    XL X M σ H (.Call (.Name "list" p1) [.Call (.Name "zip" p3) [a, b] [] p4] [] p2) (List.zipWith (fun d e => PyData.tuple [d, e]) ds ds2) := fun H1 s1 Q q =>
  ⟨_, pe_listZip hc hg hm hg2 hm2 ra_ hs hpl na, ra_cons (ha H1 s1 _ fun v H2 s2 hv => ra_1 (hb H2 (s1.trans s2) _ fun u H3 s3 hu => by
    obtain ⟨pa, xs, rfl, hpa, hx⟩ := dp_lst (hv.up (hid_mono s3))
    obtain ⟨pb, ys, rfl, hpb, hy⟩ := dp_lst hu
    have s03 := s2.trans s3
    refine ⟨pa, pb, xs, ys, rfl, hid_le _ _ hpa, hid_le _ _ hpb, by rw [dpa_len hx, dpa_len hy]; exact hsm, fun p zs H4 s4 hp h4 hz => ?_⟩
    exact q p zs H4 (s03.trans s4) (s03.free hp) h4 (zpi_data (L.mono (s1.trans s03)) hz (hx.up (hid_mono s4)) (hy.up (hid_mono s4)))) hs2) hs⟩
end
end Dl

set_option Elab.async false
set_option linter.all false
/-! logs of a clock: which zones fit them (mathematics) -/
namespace Pm
abbrev St := Int × Int
def sumLe (st : List St) (m : Int) : Int := ((st.filter fun s => decide (s.1 ≤ m)).map (·.2)).sum
def rd (f : Int) (st : List St) (m : Int) : Int := m + f + sumLe st m
structure Of (js : List Int) (ap : Int) (st : List St) : Prop where
  js : ∀ s ∈ st, s.2 ∈ js
  gap : st.Pairwise fun s t => ap ≤ t.1 - s.1
theorem Of.sub {js : List Int} {ap : Int} {st tt : List St} (h : Of js ap st) (s : tt.Sublist st) : Of js ap tt := ⟨fun x hx => h.js x (s.subset hx), h.gap.sublist s⟩
structure Pl where
  base : Option Int
  sl : List Int
  hp : List Int
  ea : List Int
abbrev Pt := Int × Option Int
def pt (pts : List Pt) (i : Nat) : Pt := (pts[i]?).getD (0, none)
section
variable (js : List Int) (ap mo : Int) (pts : List Pt)
def nextM (s : Nat) (p : Pl) : Int := match p.ea.getLast? with
  | some l => max ((pt pts s).1 + 1) (l + ap)
  | none => (pt pts s).1 + 1
def withC (s : Nat) (p : Pl) : List Pl := if nextM ap pts s p > (pt pts (s + 1)).1 then [] else js.map fun j => ⟨p.base, p.sl ++ [(s : Int)], p.hp ++ [j], p.ea ++ [nextM ap pts s p]⟩
def longN (s : Nat) (p : Pl) : Nat → List Pl
  | 0 => [p]
  | c + 1 => (longN s p c).flatMap (withC js ap pts s)
def over (s : Nat) (p : Pl) : List Pl := (List.range ((mo - p.hp.length).toNat + 1)).flatMap (longN js ap pts s p)
def upto (off : Option Int) (p : Pl) : List Pl := match off with
  | none => [p]
  | some o => match p.base with
    | none => [⟨some (o - p.hp.sum), p.sl, p.hp, p.ea⟩]
    | some b => if b + p.hp.sum = o then [p] else []
def allP : Nat → List Pl
  | 0 => [⟨(pt pts 0).2, [], [], []⟩]
  | s + 1 => ((allP s).flatMap (over js ap mo pts s)).flatMap (upto (pt pts (s + 1)).2)
end
variable {js : List Int} {ap mo : Int} {pts : List Pt}
/-! soundness -/
theorem sumLe_nil (m : Int) : sumLe [] m = 0 := rfl
theorem sumLe_cons (s : St) (st : List St) (m : Int) : sumLe (s :: st) m = (if s.1 ≤ m then s.2 else 0) + sumLe st m := by
  unfold sumLe
  rw [List.filter_cons]
  by_cases h : s.1 ≤ m
  · rw [if_pos (by simpa using h), if_pos h, List.map_cons, List.sum_cons]
  · rw [if_neg (by simpa using h), if_neg h]; omega
theorem sumLe_app (a b : List St) (m : Int) : sumLe (a ++ b) m = sumLe a m + sumLe b m := by
  unfold sumLe
  rw [List.filter_append, List.map_append, List.sum_append]
theorem sumLe_all {st : List St} {m : Int} (h : ∀ s ∈ st, s.1 ≤ m) : sumLe st m = (st.map (·.2)).sum := by
  unfold sumLe
  rw [List.filter_eq_self.mpr fun s hs => by simpa using h s hs]
theorem sumLe_none {st : List St} {m : Int} (h : ∀ s ∈ st, m < s.1) : sumLe st m = 0 := by
  unfold sumLe
  rw [List.filter_eq_nil_iff.mpr fun s hs => by have := h s hs; simp; omega]
  rfl
def steps (p : Pl) : List St := p.ea.zip p.hp
/-- what a plan keeps up to the point s -/
structure PlOk (js : List Int) (ap mo : Int) (pts : List Pt) (s : Nat) (p : Pl) : Prop where
  l1 : p.ea.length = p.hp.length
  l2 : p.sl.length = p.hp.length
  js : ∀ j ∈ p.hp, j ∈ js
  gap : p.ea.Pairwise fun a b => ap ≤ b - a
  len : (p.hp.length : Int) ≤ mo
  lo : ∀ m ∈ p.ea, (pt pts 0).1 < m
  hi : ∀ m ∈ p.ea, m ≤ (pt pts s).1
  anc : ∀ (i : Nat) (m : Int), p.ea[i]? = some m → ∃ r c : Nat, r < s ∧ c ≤ i ∧ m = (pt pts r).1 + 1 + c * ap
/-- ascending points -/
def Asc (pts : List Pt) (n : Nat) : Prop := ∀ i j, i < j → j ≤ n → (pt pts i).1 < (pt pts j).1
theorem pw_snoc {ap : Int} {l : List Int} {m : Int} (h : l.Pairwise fun a b => ap ≤ b - a) (h0 : 0 ≤ ap) (hl : ∀ x, l.getLast? = some x → x + ap ≤ m) : (l ++ [m]).Pairwise fun a b => ap ≤ b - a := by
  rw [List.pairwise_append]
  refine ⟨h, List.pairwise_singleton _ _, fun a ha b hb => ?_⟩
  rw [List.mem_singleton.mp hb]
  cases hx : l.getLast? with
  | none => rw [List.getLast?_eq_none_iff] at hx; rw [hx] at ha; cases ha
  | some x =>
    have hxm := hl x hx
    obtain ⟨t, rfl⟩ := List.getLast?_eq_some_iff.mp hx
    rcases List.mem_append.mp ha with z | z
    · have := (List.pairwise_append.mp h).2.2 a z x (List.mem_singleton.mpr rfl)
      omega
    · rw [List.mem_singleton.mp z]; omega
theorem next_ge {s : Nat} {p : Pl} : (pt pts s).1 + 1 ≤ nextM ap pts s p ∧ (∀ l, p.ea.getLast? = some l → l + ap ≤ nextM ap pts s p) := by
  unfold nextM
  cases p.ea.getLast? with
  | none => exact ⟨Int.le_refl _, fun l h => by cases h⟩
  | some l => exact ⟨by show _ ≤ max _ _; omega, fun l' h => by cases h; show _ ≤ max _ _; omega⟩
theorem withC_ok {s : Nat} {p q : Pl} (hA : Asc pts (s + 1)) (h0 : 0 ≤ ap) (h : PlOk js ap (mo - 1) pts s p ∨ PlOk js ap (mo - 1) pts (s + 1) p) (hq : q ∈ withC js ap pts s p) : PlOk js ap mo pts (s + 1) q ∧ (∀ i, i ≤ s → sumLe (steps q) (pt pts i).1 = sumLe (steps p) (pt pts i).1) := by
  have hp : PlOk js ap (mo - 1) pts (s + 1) p := by
    rcases h with h | h
    · have := hA s (s + 1) (by omega) (by omega)
      exact ⟨h.l1, h.l2, h.js, h.gap, h.len, h.lo, fun m hm => by have := h.hi m hm; omega, fun i m hm => by
        obtain ⟨r, c, a, b, e⟩ := h.anc i m hm
        exact ⟨r, c, by omega, b, e⟩⟩
    · exact h
  clear h
  obtain ⟨n1, n2⟩ := next_ge (ap := ap) (pts := pts) (s := s) (p := p)
  unfold withC at hq
  split at hq
  · cases hq
  · rename_i hle
    obtain ⟨j, hj, rfl⟩ := List.mem_map.mp hq
    have h0s : (pt pts 0).1 ≤ (pt pts s).1 := by
      by_cases z : s = 0
      · rw [z]; exact Int.le_refl _
      · exact Int.le_of_lt (hA 0 s (by omega) (by omega))
    have hz : (p.ea ++ [nextM ap pts s p]).zip (p.hp ++ [j]) = p.ea.zip p.hp ++ [(nextM ap pts s p, j)] := by
      rw [List.zip_append hp.l1]; rfl
    refine ⟨⟨?_, ?_, ?_, pw_snoc hp.gap h0 n2, ?_, ?_, ?_, ?_⟩, fun i hi => ?_⟩
    · show (p.ea ++ [_]).length = (p.hp ++ [j]).length
      rw [List.length_append, List.length_append, hp.l1]; rfl
    · show (p.sl ++ [_]).length = (p.hp ++ [j]).length
      rw [List.length_append, List.length_append, hp.l2]; rfl
    · intro x hx
      rcases List.mem_append.mp hx with z | z
      · exact hp.js x z
      · rw [List.mem_singleton.mp z]; exact hj
    · have := hp.len
      show (((p.hp ++ [j]).length : Nat) : Int) ≤ mo
      rw [List.length_append]
      show ((p.hp.length + 1 : Nat) : Int) ≤ mo
      omega
    · intro m hm
      rcases List.mem_append.mp hm with z | z
      · exact hp.lo m z
      · rw [List.mem_singleton.mp z]; omega
    · intro m hm
      rcases List.mem_append.mp hm with z | z
      · exact hp.hi m z
      · rw [List.mem_singleton.mp z]; omega
    · intro i m hm
      by_cases hi : i < p.ea.length
      · rw [List.getElem?_append_left hi] at hm
        exact hp.anc i m hm
      · rw [List.getElem?_append_right (by omega)] at hm
        have ei : i - p.ea.length = 0 := by
          have := (List.getElem?_eq_some_iff.mp hm).1
          simp at this
          omega
        rw [ei] at hm
        have em : nextM ap pts s p = m := Option.some.inj hm
        rw [← em]
        unfold nextM
        cases hl : p.ea.getLast? with
        | none => exact ⟨s, 0, by omega, by omega, by simp⟩
        | some l =>
          show ∃ r c : Nat, r < s + 1 ∧ c ≤ i ∧ max ((pt pts s).1 + 1) (l + ap) = _
          by_cases hc : l + ap ≤ (pt pts s).1 + 1
          · exact ⟨s, 0, by omega, by omega, by simp; omega⟩
          · rw [List.getLast?_eq_getElem?] at hl
            obtain ⟨r, c, a, b, e⟩ := hp.anc _ _ hl
            refine ⟨r, c + 1, a, ?_, ?_⟩
            · have : 0 < p.ea.length := by
                cases hh : p.ea with
                | nil => rw [hh] at hl; simp at hl
                | cons _ _ => simp
              omega
            · rw [e] at hc ⊢
              have e3 : ((c + 1 : Nat) : Int) * ap = c * ap + ap := by
                rw [Int.natCast_add, Int.add_mul]; simp
              rw [e3]
              omega
    · show sumLe ((p.ea ++ [_]).zip (p.hp ++ [j])) _ = _
      rw [hz, sumLe_app, sumLe_cons, sumLe_nil, if_neg ?_]
      · show sumLe (steps p) _ + (0 + 0) = _
        omega
      · by_cases z : i = s
        · rw [z]; show ¬ nextM ap pts s p ≤ _; omega
        · have := hA i s (by omega) (by omega)
          show ¬ nextM ap pts s p ≤ _
          omega
theorem long_ok {s : Nat} {p : Pl} (hA : Asc pts (s + 1)) (h0 : 0 ≤ ap) (hp : PlOk js ap mo pts s p) : ∀ (c : Nat) (q : Pl), (p.hp.length : Int) + c ≤ mo → q ∈ longN js ap pts s p c → (c = 0 ∧ q = p) ∨ (PlOk js ap mo pts (s + 1) q ∧ q.hp.length = p.hp.length + c ∧ ∀ i, i ≤ s → sumLe (steps q) (pt pts i).1 = sumLe (steps p) (pt pts i).1)
  | 0, q, _, hq => .inl ⟨rfl, List.mem_singleton.mp hq⟩
  | c + 1, q, hc, hq => by
    obtain ⟨x, hx, hw⟩ := List.mem_flatMap.mp hq
    refine .inr ?_
    have hlen : q.hp.length = x.hp.length + 1 := by
      unfold withC at hw
      split at hw
      · cases hw
      · obtain ⟨j, _, rfl⟩ := List.mem_map.mp hw
        show (x.hp ++ [j]).length = _
        rw [List.length_append]; rfl
    have weak : ∀ {n : Nat} {y : Pl}, PlOk js ap mo pts n y → (y.hp.length : Int) ≤ mo - 1 → PlOk js ap (mo - 1) pts n y := fun h hl => ⟨h.l1, h.l2, h.js, h.gap, hl, h.lo, h.hi, h.anc⟩
    rcases long_ok hA h0 hp c x (by omega) hx with ⟨rfl, rfl⟩ | ⟨h1, h2, h3⟩
    · obtain ⟨a, b⟩ := withC_ok (mo := mo) hA h0 (.inl (weak hp (by omega))) hw
      exact ⟨a, hlen, b⟩
    · obtain ⟨a, b⟩ := withC_ok (mo := mo) hA h0 (.inr (weak h1 (by omega))) hw
      exact ⟨a, by omega, fun i hi => (b i hi).trans (h3 i hi)⟩
theorem PlOk.later {s : Nat} {p : Pl} (hA : Asc pts (s + 1)) (h : PlOk js ap mo pts s p) : PlOk js ap mo pts (s + 1) p := by
  have := hA s (s + 1) (by omega) (by omega)
  exact ⟨h.l1, h.l2, h.js, h.gap, h.len, h.lo, fun m hm => by have := h.hi m hm; omega, fun i m hm => by
    obtain ⟨r, c, a, b, e⟩ := h.anc i m hm
    exact ⟨r, c, by omega, b, e⟩⟩
theorem PlOk.total {s : Nat} {p : Pl} (h : PlOk js ap mo pts s p) : sumLe (steps p) (pt pts s).1 = p.hp.sum := by
  unfold steps
  rw [sumLe_all fun x hx => h.hi _ (List.of_mem_zip hx).1]
  rw [List.map_snd_zip (by rw [h.l1]; exact Nat.le_refl _)]
theorem withC_base {s : Nat} {p q : Pl} (hq : q ∈ withC js ap pts s p) : q.base = p.base := by
  unfold withC at hq
  split at hq
  · cases hq
  · obtain ⟨j, _, rfl⟩ := List.mem_map.mp hq
    rfl
theorem long_base {s : Nat} {p : Pl} : ∀ (c : Nat) (q : Pl), q ∈ longN js ap pts s p c → q.base = p.base
  | 0, q, hq => by rw [List.mem_singleton.mp hq]
  | c + 1, q, hq => by
    obtain ⟨x, hx, hw⟩ := List.mem_flatMap.mp hq
    rw [withC_base hw, long_base c x hx]
/-- the offsets that are told are those of the plan -/
def Agree (pts : List Pt) (s : Nat) (p : Pl) : Prop := ∀ i, i ≤ s → ∀ o, (pt pts i).2 = some o → ∃ b, p.base = some b ∧ b + sumLe (steps p) (pt pts i).1 = o
theorem all_ok (h0 : 0 ≤ ap) (hm : 0 ≤ mo) : ∀ (s : Nat), Asc pts s → ∀ p ∈ allP js ap mo pts s, PlOk js ap mo pts s p ∧ Agree pts s p ∧ (p.base = none → ∀ i, i ≤ s → (pt pts i).2 = none)
  | 0, hA, p, hp => by
    rw [List.mem_singleton.mp hp]
    refine ⟨⟨rfl, rfl, by simp, List.Pairwise.nil, by simpa using hm, by simp, by simp, by simp⟩, fun i hi o ho => ?_, fun hb i hi => ?_⟩
    · have : i = 0 := by omega
      subst this
      exact ⟨o, ho, by show o + 0 = o; omega⟩
    · have : i = 0 := by omega
      subst this
      exact hb
  | s + 1, hA, p, hp => by
    obtain ⟨x, hx, hp⟩ := List.mem_flatMap.mp hp
    obtain ⟨y, hy, hx⟩ := List.mem_flatMap.mp hx
    obtain ⟨h1, h2, h2n⟩ := all_ok h0 hm s (fun i j a b => hA i j a (by omega)) y hy
    obtain ⟨c, hc, hx⟩ := List.mem_flatMap.mp hx
    rw [List.mem_range] at hc
    have hlen := h1.len
    have hxb := long_base c x hx
    have hxo : PlOk js ap mo pts (s + 1) x ∧ ∀ i, i ≤ s → sumLe (steps x) (pt pts i).1 = sumLe (steps y) (pt pts i).1 := by
      rcases long_ok hA h0 h1 c x (by omega) hx with ⟨_, rfl⟩ | ⟨g1, g2, g3⟩
      · exact ⟨h1.later hA, fun i hi => rfl⟩
      · exact ⟨g1, g3⟩
    obtain ⟨g1, g3⟩ := hxo
    unfold upto at hp
    cases ho : (pt pts (s + 1)).2 with
    | none =>
      rw [ho] at hp
      rw [List.mem_singleton.mp hp]
      refine ⟨g1, fun i hi o hio => ?_, fun hb i hi => ?_⟩
      · by_cases z : i = s + 1
        · rw [z, ho] at hio; cases hio
        · rw [g3 i (by omega), hxb]; exact h2 i (by omega) o hio
      · by_cases z : i = s + 1
        · rw [z]; exact ho
        · rw [hxb] at hb; exact h2n hb i (by omega)
    | some o =>
      rw [ho] at hp
      cases hb : x.base with
      | none =>
        rw [hb] at hp
        have e := List.mem_singleton.mp hp
        subst e
        rw [hxb] at hb
        refine ⟨⟨g1.l1, g1.l2, g1.js, g1.gap, g1.len, g1.lo, g1.hi, g1.anc⟩, fun i hi o' hio => ?_, fun z => by cases z⟩
        by_cases z : i = s + 1
        · rw [z, ho] at hio
          cases hio
          refine ⟨_, rfl, ?_⟩
          rw [z]
          show o - x.hp.sum + sumLe (steps x) _ = o
          rw [g1.total]; omega
        · rw [h2n hb i (by omega)] at hio; cases hio
      | some b =>
        rw [hb] at hp
        dsimp only at hp
        split at hp
        · rename_i hoff
          rw [List.mem_singleton.mp hp]
          refine ⟨g1, fun i hi o' hio => ?_, fun z => by rw [hb] at z; cases z⟩
          by_cases z : i = s + 1
          · rw [z, ho] at hio
            cases hio
            exact ⟨b, hb, by rw [z, g1.total]; exact hoff⟩
          · rw [g3 i (by omega), hxb]; exact h2 i (by omega) o' hio
        · cases hp
/-! completeness -/
theorem long_has {s : Nat} : ∀ (tt : List St) (p : Pl), (∀ t ∈ tt, t.2 ∈ js) → tt.Pairwise (fun a b => ap ≤ b.1 - a.1) → (∀ t ∈ tt, (pt pts s).1 < t.1 ∧ t.1 ≤ (pt pts (s + 1)).1) → (∀ l, p.ea.getLast? = some l → ∀ t ∈ tt, l + ap ≤ t.1) →
    ∃ q ∈ longN js ap pts s p tt.length, q.base = p.base ∧ q.hp = p.hp ++ tt.map (·.2) ∧ q.sl = p.sl ++ tt.map (fun _ => (s : Int)) ∧ (∃ l, q.ea = p.ea ++ l ∧ l.length = tt.length ∧ ∀ (i : Nat) m t, l[i]? = some m → tt[i]? = some t → m ≤ t.1 ∧ (pt pts s).1 < m) := by
  intro tt
  generalize hn : tt.length = n
  induction n generalizing tt with
  | zero =>
    intro p _ _ _ _
    rw [List.length_eq_zero_iff.mp hn]
    exact ⟨p, List.mem_singleton.mpr rfl, rfl, by simp, by simp, [], by simp, rfl, fun i m t h => by simp at h⟩
  | succ n ih0 =>
    obtain ⟨tt, t, rfl⟩ : ∃ a b, tt = a ++ [b] := by
      have hne : tt ≠ [] := fun e => by rw [e] at hn; cases hn
      exact ⟨tt.dropLast, tt.getLast hne, (List.dropLast_concat_getLast hne).symm⟩
    have hn2 : tt.length = n := by rw [List.length_append] at hn; exact Nat.succ.inj hn
    subst hn2
    have ih := ih0 tt rfl
    intro p hj hg hm hl
    obtain ⟨q, hq, e1, e2, e3, l, e4, e5, e6⟩ := ih p (fun x hx => hj x (List.mem_append_left _ hx)) (List.pairwise_append.mp hg).1 (fun x hx => hm x (List.mem_append_left _ hx)) (fun y hy x hx => hl y hy x (List.mem_append_left _ hx))
    have htm := hm t (List.mem_append_right _ (List.mem_singleton.mpr rfl))
    have hnx : nextM ap pts s q ≤ t.1 ∧ (pt pts s).1 < nextM ap pts s q := by
      unfold nextM
      cases hlast : q.ea.getLast? with
      | none => exact ⟨by show _ + 1 ≤ _; omega, by show _ < _ + 1; omega⟩
      | some y =>
        have hy : y + ap ≤ t.1 := by
          by_cases z : l = []
          · rw [e4, z, List.append_nil] at hlast
            exact hl y hlast t (List.mem_append_right _ (List.mem_singleton.mpr rfl))
          · have hl2 : l.getLast? = some y := by
              rw [e4, List.getLast?_append] at hlast
              cases hw : l.getLast? with
              | none => exact absurd (List.getLast?_eq_none_iff.mp hw) z
              | some w => rw [hw] at hlast; exact hlast
            rw [List.getLast?_eq_getElem?] at hl2
            have hlast := hl2
            have hi := (List.getElem?_eq_some_iff.mp hlast).1
            have htt : tt[l.length - 1]? = some (tt[l.length - 1]'(by omega)) := List.getElem?_eq_getElem (by omega)
            have := (e6 _ _ _ hlast htt).1
            have h2 := (List.pairwise_append.mp hg).2.2 _ (List.getElem_mem (by omega : l.length - 1 < tt.length)) t (List.mem_singleton.mpr rfl)
            omega
        exact ⟨by show max _ _ ≤ _; omega, by show _ < max _ _; omega⟩
    refine ⟨⟨q.base, q.sl ++ [(s : Int)], q.hp ++ [t.2], q.ea ++ [nextM ap pts s q]⟩, ?_, e1, ?_, ?_, l ++ [nextM ap pts s q], ?_, ?_, ?_⟩
    · show _ ∈ (longN js ap pts s p tt.length).flatMap _
      refine List.mem_flatMap.mpr ⟨q, hq, ?_⟩
      unfold withC
      rw [if_neg (by omega)]
      exact List.mem_map.mpr ⟨t.2, hj t (List.mem_append_right _ (List.mem_singleton.mpr rfl)), rfl⟩
    · rw [e2, List.map_append, List.append_assoc]; rfl
    · rw [e3, List.map_append, List.append_assoc]; rfl
    · rw [e4, List.append_assoc]
    · rw [List.length_append, e5]; rfl
    · intro i m u h1 h2
      by_cases hi : i < l.length
      · rw [List.getElem?_append_left hi] at h1
        rw [List.getElem?_append_left (by omega)] at h2
        exact e6 i m u h1 h2
      · rw [List.getElem?_append_right (by omega)] at h1
        rw [List.getElem?_append_right (by omega)] at h2
        have ei : i - l.length = 0 := by
          have := (List.getElem?_eq_some_iff.mp h1).1
          simp at this
          omega
        rw [ei] at h1
        rw [← e5, ei] at h2
        have a1 : nextM ap pts s q = m := Option.some.inj h1
        have a2 : t = u := Option.some.inj h2
        rw [← a1, ← a2]
        exact hnx
/-- the place of a step among the points: the slot -/
theorem all_has (h0 : 0 ≤ ap) (f : Int) : ∀ (s : Nat), Asc pts s → ∀ st : List St, Of js ap st → (st.length : Int) ≤ mo → (∀ t ∈ st, (pt pts 0).1 < t.1 ∧ t.1 ≤ (pt pts s).1) → (∀ i, i ≤ s → ∀ o, (pt pts i).2 = some o → f + sumLe st (pt pts i).1 = o) →
    ∃ p ∈ allP js ap mo pts s, p.hp = st.map (·.2) ∧ p.ea.length = st.length ∧ (∀ (i : Nat) m t, p.ea[i]? = some m → st[i]? = some t → m ≤ t.1 ∧ ∃ r, r < s ∧ p.sl[i]? = some (r : Int) ∧ (pt pts r).1 < m ∧ t.1 ≤ (pt pts (r + 1)).1) ∧ p.sl.length = st.length ∧ (p.base = some f ∨ (p.base = none ∧ ∀ i, i ≤ s → (pt pts i).2 = none))
  | 0, hA, st, hO, hl, hm, hs => by
    have : st = [] := by
      cases st with
      | nil => rfl
      | cons t st => have := hm t (List.mem_cons_self ..); omega
    subst this
    refine ⟨_, List.mem_singleton.mpr rfl, rfl, rfl, fun i m t h => by simp at h, rfl, ?_⟩
    cases ho : (pt pts 0).2 with
    | none =>
      refine .inr ⟨rfl, fun i hi => ?_⟩
      have : i = 0 := by omega
      rw [this]
      exact ho
    | some o =>
      have := hs 0 (Nat.le_refl _) o ho
      rw [sumLe_nil] at this
      exact .inl (by show some o = some f; congr 1; omega)
  | s + 1, hA, st, hO, hl, hm, hs => by
    -- the steps up to the point s, and those behind it
    have hsp : ∃ a b, st = a ++ b ∧ (∀ t ∈ a, t.1 ≤ (pt pts s).1) ∧ ∀ t ∈ b, (pt pts s).1 < t.1 := by
      clear hs hl hm
      obtain ⟨-, hg⟩ := hO
      induction st with
      | nil => exact ⟨[], [], rfl, by simp, by simp⟩
      | cons x st ih =>
        rw [List.pairwise_cons] at hg
        by_cases hx : x.1 ≤ (pt pts s).1
        · obtain ⟨a, b, e, h1, h2⟩ := ih hg.2
          exact ⟨x :: a, b, by rw [e]; rfl, fun t ht => by
            rcases List.mem_cons.mp ht with z | z
            · rw [z]; exact hx
            · exact h1 t z, h2⟩
        · exact ⟨[], x :: st, rfl, by simp, fun t ht => by
            rcases List.mem_cons.mp ht with z | z
            · rw [z]; omega
            · have := hg.1 t z; omega⟩
    obtain ⟨a, b, rfl, ha, hb⟩ := hsp
    have hA' : Asc pts s := fun i j x y => hA i j x (by omega)
    have mono : ∀ i, i ≤ s → (pt pts i).1 ≤ (pt pts s).1 := fun i hi => by
      by_cases z : i = s
      · rw [z]; exact Int.le_refl _
      · exact Int.le_of_lt (hA' i s (by omega) (Nat.le_refl _))
    have hg := List.pairwise_append.mp hO.gap
    rw [List.length_append] at hl
    obtain ⟨p, hp, e1, e2, e3, e4, e5⟩ := all_has h0 f s hA' a (hO.sub (List.sublist_append_left _ _)) (by omega) (fun t ht => ⟨(hm t (List.mem_append_left _ ht)).1, ha t ht⟩) (fun i hi o ho => by
      have := hs i (by omega) o ho
      rw [sumLe_app, sumLe_none (st := b) fun t ht => by have := hb t ht; have := mono i hi; omega] at this
      omega)
    obtain ⟨q, hq, f1, f2, f3, l, f4, f5, f6⟩ := long_has (js := js) (ap := ap) (pts := pts) (s := s) b p (fun t ht => hO.js t (List.mem_append_right _ ht)) hg.2.1 (fun t ht => ⟨hb t ht, (hm t (List.mem_append_right _ ht)).2⟩) (fun y hy t ht => by
      rw [List.getLast?_eq_getElem?] at hy
      have hi := (List.getElem?_eq_some_iff.mp hy).1
      have hat : a[p.ea.length - 1]? = some (a[p.ea.length - 1]'(by omega)) := List.getElem?_eq_getElem (by omega)
      have := (e3 _ _ _ hy hat).1
      have h2 := hg.2.2 _ (List.getElem_mem (by omega : p.ea.length - 1 < a.length)) t ht
      omega)
    have hsum : q.hp.sum = sumLe (a ++ b) (pt pts (s + 1)).1 := by
      rw [sumLe_all fun t ht => (hm t ht).2, f2, e1, ← List.map_append]
    have hup : ∃ q', q' ∈ upto (pt pts (s + 1)).2 q ∧ q'.sl = q.sl ∧ q'.hp = q.hp ∧ q'.ea = q.ea ∧ (q'.base = some f ∨ (q'.base = none ∧ ∀ i, i ≤ s + 1 → (pt pts i).2 = none)) := by
      unfold upto
      cases ho : (pt pts (s + 1)).2 with
      | none =>
        refine ⟨q, List.mem_singleton.mpr rfl, rfl, rfl, rfl, ?_⟩
        rw [f1]
        rcases e5 with e | ⟨e, e'⟩
        · exact .inl e
        · refine .inr ⟨e, fun i hi => ?_⟩
          by_cases z : i = s + 1
          · rw [z]; exact ho
          · exact e' i (by omega)
      | some o =>
        have hso := hs (s + 1) (Nat.le_refl _) o ho
        rcases e5 with e | ⟨e, e'⟩
        · rw [← f1] at e
          rw [e]
          dsimp only
          rw [if_pos (by rw [hsum]; exact hso)]
          exact ⟨q, List.mem_singleton.mpr rfl, rfl, rfl, rfl, .inl e⟩
        · rw [← f1] at e
          rw [e]
          exact ⟨_, List.mem_singleton.mpr rfl, rfl, rfl, rfl, .inl (by show some (o - q.hp.sum) = some f; congr 1; omega)⟩
    obtain ⟨q', u1, u2, u3, u4, u5⟩ := hup
    refine ⟨q', ?_, ?_, ?_, ?_, ?_, u5⟩
    · refine List.mem_flatMap.mpr ⟨q, List.mem_flatMap.mpr ⟨p, hp, List.mem_flatMap.mpr ⟨b.length, ?_, hq⟩⟩, u1⟩
      rw [List.mem_range, e1, List.length_map]
      omega
    · rw [u3, f2, e1, List.map_append]
    · rw [u4, f4, List.length_append, List.length_append, e2, f5]
    · intro i m t h1 h2
      rw [u4] at h1
      rw [u2]
      by_cases hi : i < a.length
      · rw [f4, List.getElem?_append_left (by omega)] at h1
        rw [List.getElem?_append_left hi] at h2
        obtain ⟨g1, r, g2, g3, g4, g5⟩ := e3 i m t h1 h2
        refine ⟨g1, r, by omega, ?_, g4, g5⟩
        rw [f3, List.getElem?_append_left (by omega)]
        exact g3
      · rw [f4, List.getElem?_append_right (by omega)] at h1
        rw [List.getElem?_append_right (by omega)] at h2
        rw [e2] at h1
        obtain ⟨g1, g2⟩ := f6 _ m t h1 h2
        refine ⟨g1, s, by omega, ?_, g2, (hm t (List.mem_append_right _ (List.mem_of_getElem? h2))).2⟩
        rw [f3, List.getElem?_append_right (by omega), e4, List.getElem?_map, h2]
        rfl
    · rw [u2, f3, List.length_append, List.length_append, List.length_map, e4]
/-! how many plans there can be -/
def wt (n m t : Nat) (p : Pl) : Nat := (1 + t * n) ^ (m - p.hp.length)
def wts (n m t : Nat) (l : List Pl) : Nat := (l.map (wt n m t)).sum
theorem wts_app {n m t : Nat} (a b : List Pl) : wts n m t (a ++ b) = wts n m t a + wts n m t b := by
  unfold wts; rw [List.map_append, List.sum_append]
theorem wts_len {n m t : Nat} : ∀ l : List Pl, l.length ≤ wts n m t l
  | [] => Nat.zero_le _
  | p :: l => by
    have h1 : 0 < wt n m t p := Nat.pow_pos (by omega)
    have h2 := wts_len (n := n) (m := m) (t := t) l
    show l.length + 1 ≤ wt n m t p + wts n m t l
    omega
theorem wts_flat {n m t t' : Nat} (f : Pl → List Pl) : ∀ l : List Pl, (∀ p ∈ l, wts n m t (f p) ≤ wt n m t' p) → wts n m t (l.flatMap f) ≤ wts n m t' l
  | [], _ => Nat.le_refl _
  | p :: l, h => by
    rw [List.flatMap_cons, wts_app]
    have h1 := h p (List.mem_cons_self ..)
    have h2 := wts_flat f l fun q hq => h q (List.mem_cons_of_mem _ hq)
    show _ ≤ wt n m t' p + wts n m t' l
    omega
theorem withC_len (s : Nat) (p : Pl) : (withC js ap pts s p).length ≤ js.length ∧ ∀ q ∈ withC js ap pts s p, q.hp.length = p.hp.length + 1 := by
  unfold withC
  split
  · exact ⟨Nat.zero_le _, fun q h => by cases h⟩
  · refine ⟨by rw [List.length_map]; exact Nat.le_refl _, fun q h => ?_⟩
    obtain ⟨j, _, rfl⟩ := List.mem_map.mp h
    show (p.hp ++ [j]).length = _
    rw [List.length_append]; rfl
theorem flat_len {α β : Type} (f : α → List β) (k : Nat) : ∀ l : List α, (∀ x ∈ l, (f x).length ≤ k) → (l.flatMap f).length ≤ l.length * k
  | [], _ => by simp
  | x :: l, h => by
    rw [List.flatMap_cons, List.length_append, List.length_cons, Nat.succ_mul]
    have h1 := h x (List.mem_cons_self ..)
    have h2 := flat_len f k l fun y hy => h y (List.mem_cons_of_mem _ hy)
    omega
theorem long_len (s : Nat) (p : Pl) : ∀ c : Nat, (longN js ap pts s p c).length ≤ js.length ^ c ∧ ∀ q ∈ longN js ap pts s p c, q.hp.length = p.hp.length + c
  | 0 => ⟨Nat.le_refl _, fun q h => by rw [List.mem_singleton.mp h]; rfl⟩
  | c + 1 => by
    obtain ⟨h1, h2⟩ := long_len s p c
    refine ⟨?_, fun q h => ?_⟩
    · have := flat_len (withC js ap pts s) js.length (longN js ap pts s p c) fun x _ => (withC_len s x).1
      show ((longN js ap pts s p c).flatMap (withC js ap pts s)).length ≤ _
      rw [Nat.pow_succ]
      exact Nat.le_trans this (Nat.mul_le_mul_right _ h1)
    · obtain ⟨x, hx, hq⟩ := List.mem_flatMap.mp h
      rw [(withC_len s x).2 q hq, h2 x hx]
      omega
/-- the sum of n^c a^(r-c) -/
def geo (n a : Nat) : Nat → Nat
  | 0 => 1
  | r + 1 => a * geo n a r + n ^ (r + 1)
theorem geo_le (n a : Nat) : ∀ r, geo n a r ≤ (a + n) ^ r
  | 0 => Nat.le_refl _
  | r + 1 => by
    have h := geo_le n a r
    have h2 : n ^ r ≤ (a + n) ^ r := Nat.pow_le_pow_left (Nat.le_add_left _ _) r
    show a * geo n a r + n ^ (r + 1) ≤ _
    rw [Nat.pow_succ, Nat.pow_succ, Nat.mul_comm ((a + n) ^ r), Nat.add_mul, Nat.mul_comm (n ^ r)]
    exact Nat.add_le_add (Nat.mul_le_mul_left _ h) (Nat.mul_le_mul_left _ h2)
theorem over_sum (n a : Nat) (g : Nat → Nat) : ∀ r, (∀ c, c ≤ r → g c ≤ n ^ c) → ((List.range (r + 1)).map fun c => g c * a ^ (r - c)).sum ≤ geo n a r
  | 0, h => by
    have := h 0 (Nat.le_refl _)
    show g 0 * a ^ 0 + 0 ≤ 1
    simp at this ⊢
    omega
  | r + 1, h => by
    have ih := over_sum n a g r fun c hc => h c (by omega)
    have h1 := h (r + 1) (Nat.le_refl _)
    rw [List.range_succ, List.map_append, List.sum_append]
    have e : ((List.range (r + 1)).map fun c => g c * a ^ (r + 1 - c)).sum = a * ((List.range (r + 1)).map fun c => g c * a ^ (r - c)).sum := by
      have : ∀ l : List Nat, (∀ c ∈ l, c ≤ r) → (l.map fun c => g c * a ^ (r + 1 - c)).sum = a * (l.map fun c => g c * a ^ (r - c)).sum := by
        intro l
        induction l with
        | nil => intro _; rfl
        | cons c l ih2 =>
          intro hl
          have hc := hl c (List.mem_cons_self ..)
          rw [List.map_cons, List.map_cons, List.sum_cons, List.sum_cons, ih2 fun x hx => hl x (List.mem_cons_of_mem _ hx), Nat.mul_add]
          have e2 : r + 1 - c = r - c + 1 := by omega
          rw [e2, Nat.pow_succ, ← Nat.mul_assoc, Nat.mul_comm]
      exact this _ fun c hc => by have := List.mem_range.mp hc; omega
    rw [e]
    show _ + (g (r + 1) * a ^ (r + 1 - (r + 1)) + 0) ≤ a * geo n a r + n ^ (r + 1)
    have h3 := Nat.mul_le_mul_left a ih
    rw [Nat.sub_self, Nat.pow_zero, Nat.mul_one]
    omega
theorem wts_le {n m t k : Nat} (l : List Pl) (h : ∀ p ∈ l, p.hp.length = k) : wts n m t l = l.length * (1 + t * n) ^ (m - k) := by
  induction l with
  | nil => simp [wts]
  | cons p l ih =>
    rw [List.length_cons, Nat.succ_mul, ← ih fun q hq => h q (List.mem_cons_of_mem _ hq)]
    show wt n m t p + wts n m t l = _
    unfold wt
    rw [h p (List.mem_cons_self ..)]
    omega
theorem over_wt {s : Nat} {p : Pl} {m t : Nat} (hm : mo = m) (hp : p.hp.length ≤ m) : wts js.length m t (over js ap mo pts s p) ≤ wt js.length m (t + 1) p := by
  unfold over
  have hr : (mo - (p.hp.length : Int)).toNat = m - p.hp.length := by omega
  rw [hr]
  generalize hrr : m - p.hp.length = r
  have key : ∀ l : List Nat, (∀ c ∈ l, c ≤ r) → wts js.length m t (l.flatMap (longN js ap pts s p)) = (l.map fun c => (longN js ap pts s p c).length * (1 + t * js.length) ^ (r - c)).sum := by
    intro l
    induction l with
    | nil => intro _; rfl
    | cons c l ih =>
      intro hl
      have hc := hl c (List.mem_cons_self ..)
      rw [List.flatMap_cons, wts_app, ih fun x hx => hl x (List.mem_cons_of_mem _ hx), wts_le _ (long_len s p c).2, List.map_cons, List.sum_cons]
      have e : m - (p.hp.length + c) = r - c := by omega
      rw [e]
  rw [key _ fun c hc => by have := List.mem_range.mp hc; omega]
  refine Nat.le_trans (over_sum js.length (1 + t * js.length) (fun c => (longN js ap pts s p c).length) r fun c _ => (long_len s p c).1) ?_
  refine Nat.le_trans (geo_le _ _ _) ?_
  unfold wt
  rw [hrr]
  have e : 1 + t * js.length + js.length = 1 + (t + 1) * js.length := by rw [Nat.succ_mul]; omega
  rw [e]
  exact Nat.le_refl _
theorem upto_wt {n m t : Nat} (off : Option Int) (p : Pl) : wts n m t (upto off p) ≤ wt n m t p := by
  unfold upto
  cases off with
  | none => exact Nat.le_refl _
  | some o =>
    cases p.base with
    | none => exact Nat.le_refl _
    | some b =>
      dsimp only
      split
      · exact Nat.le_refl _
      · exact Nat.zero_le _
theorem upto_hp {off : Option Int} {p q : Pl} (h : q ∈ upto off p) : q.hp = p.hp ∧ q.sl = p.sl ∧ q.ea = p.ea := by
  unfold upto at h
  cases off with
  | none => rw [List.mem_singleton.mp h]; exact ⟨rfl, rfl, rfl⟩
  | some o =>
    cases hb : p.base with
    | none => rw [hb] at h; rw [List.mem_singleton.mp h]; exact ⟨rfl, rfl, rfl⟩
    | some b =>
      rw [hb] at h
      dsimp only at h
      split at h
      · rw [List.mem_singleton.mp h]; exact ⟨rfl, rfl, rfl⟩
      · cases h
theorem over_hp {s : Nat} {p q : Pl} {m : Nat} (hm : mo = m) (hp : p.hp.length ≤ m) (h : q ∈ over js ap mo pts s p) : q.hp.length ≤ m := by
  obtain ⟨c, hc, h⟩ := List.mem_flatMap.mp h
  rw [List.mem_range] at hc
  rw [(long_len s p c).2 q h]
  omega
theorem all_wt {m : Nat} (hm : mo = m) : ∀ (s t : Nat), wts js.length m t (allP js ap mo pts s) ≤ (1 + (s + t) * js.length) ^ m ∧ ∀ p ∈ allP js ap mo pts s, p.hp.length ≤ m
  | 0, t => by
    refine ⟨?_, fun p hp => by rw [List.mem_singleton.mp hp]; exact Nat.zero_le _⟩
    show (1 + t * js.length) ^ (m - 0) + 0 ≤ _
    rw [Nat.zero_add, Nat.sub_zero, Nat.add_zero]
    exact Nat.le_refl _
  | s + 1, t => by
    obtain ⟨h1, h2⟩ := all_wt hm s (t + 1)
    refine ⟨?_, fun p hp => ?_⟩
    · show wts js.length m t (((allP js ap mo pts s).flatMap (over js ap mo pts s)).flatMap (upto (pt pts (s + 1)).2)) ≤ _
      refine Nat.le_trans (wts_flat (t' := t) _ _ fun p _ => upto_wt _ p) ?_
      refine Nat.le_trans (wts_flat (t' := t + 1) _ _ fun p hp => over_wt hm (h2 p hp)) ?_
      have e : s + 1 + t = s + (t + 1) := by omega
      rw [e]
      exact h1
    · obtain ⟨x, hx, hp⟩ := List.mem_flatMap.mp hp
      obtain ⟨y, hy, hx⟩ := List.mem_flatMap.mp hx
      rw [(upto_hp hp).1]
      exact over_hp hm (h2 y hy) hx
theorem all_len {m : Nat} (hm : mo = m) (s : Nat) : (allP js ap mo pts s).length ≤ (1 + s * js.length) ^ m := Nat.le_trans (wts_len _) (all_wt hm s 0).1
theorem longer_len {m : Nat} (hm : mo = m) (s : Nat) : ((allP js ap mo pts s).flatMap (over js ap mo pts s)).length ≤ (1 + (s + 1) * js.length) ^ m := by
  obtain ⟨h1, h2⟩ := all_wt (js := js) (ap := ap) (pts := pts) hm s 1
  exact Nat.le_trans (wts_len (n := js.length) (m := m) (t := 0) _) (Nat.le_trans (wts_flat (t' := 1) _ _ fun p hp => over_wt hm (h2 p hp)) h1)
theorem over_len {m : Nat} (hm : mo = m) {s : Nat} {p : Pl} (hp : p.hp.length ≤ m) : (over js ap mo pts s p).length ≤ (1 + js.length) ^ m := by
  refine Nat.le_trans (wts_len (n := js.length) (m := m) (t := 0) _) (Nat.le_trans (over_wt hm hp) ?_)
  unfold wt
  rw [Nat.zero_add, Nat.one_mul]
  exact Nat.pow_le_pow_right (by omega) (Nat.sub_le _ _)
end Pm

set_option Elab.async false
set_option linter.all false
set_option maxRecDepth 100000
set_option maxHeartbeats 4000000
namespace Zn
open PySem PySem.Spec PyProof.Rows L2 Dl
def top (i : Nat) : Stmt := PySem.Challenge.pw_everyzone_k36_changes_left_by_logs.main.body.getD i (.Pass ⟨0, 0, 0, 0⟩)
abbrev sWhole : Stmt := top 14
abbrev sPair : Stmt := top 15
abbrev sNeed : Stmt := top 17
abbrev sRows : Stmt := top 22
abbrev sFollow : Stmt := top 23
abbrev sIsJump : Stmt := top 24
abbrev sJump : Stmt := top 25
abbrev sTorn : Stmt := top 26
/-- built-in names that the module leaves alone -/
structure Nm (mg : Str → Option Value) : Prop where
  isi : mg "isinstance" = none
  int : mg "int" = none
  bool : mg "bool" = none
  lst : mg "list" = none
  tup : mg "tuple" = none
  len : mg "len" = none
  abs : mg "abs" = none
  min : mg "min" = none
  max : mg "max" = none
  rep : mg "repr" = none
  rng : mg "range" = none
/-- a def of the module -/
structure Df (K : PySem.W.Frag) (mg : Str → Option Value) (x : Str) (st : Stmt) (ps : List Str) (f : Addr) (fd : FuncData) : Prop where
  F : Fun K x x st f fd
  g : mg x = some (.ref f)
  b : Binds K fd ps []
section
variable {P : Program} {w : World} {K : PySem.W.Frag} {mg : Str → Option Value} {base : Heap}
/-! ### is_whole -/
def isI : PyData → Bool
  | .int _ => true
  | .bool _ => true
  | _ => false
def isBl : PyData → Bool
  | .bool _ => true
  | _ => false
def whole : PyData → Bool
  | .int _ => true
  | _ => false
theorem k_int (d : PyData) : kitB (tyN d) "int" = some (isI d) := by
  cases d with
  | none => exact (by decide +kernel : kitB "NoneType" "int" = some false)
  | bool b => exact (by decide +kernel : kitB "bool" "int" = some true)
  | int i => exact (by decide +kernel : kitB "int" "int" = some true)
  | str z => exact (by decide +kernel : kitB "str" "int" = some false)
  | list l => exact (by decide +kernel : kitB "list" "int" = some false)
  | tuple l => exact (by decide +kernel : kitB "tuple" "int" = some false)
  | dict l => exact (by decide +kernel : kitB "dict" "int" = some false)
theorem k_bool (d : PyData) : kitB (tyN d) "bool" = some (isBl d) := by
  cases d with
  | none => exact (by decide +kernel : kitB "NoneType" "bool" = some false)
  | bool b => exact (by decide +kernel : kitB "bool" "bool" = some true)
  | int i => exact (by decide +kernel : kitB "int" "bool" = some false)
  | str z => exact (by decide +kernel : kitB "str" "bool" = some false)
  | list l => exact (by decide +kernel : kitB "list" "bool" = some false)
  | tuple l => exact (by decide +kernel : kitB "tuple" "bool" = some false)
  | dict l => exact (by decide +kernel : kitB "dict" "bool" = some false)
theorem whole_eq (d : PyData) : (isI d && !isBl d) = whole d := by cases d <;> rfl
def RWhole (ds : List PyData) (d : PyData) : Prop := ∃ x, ds = [x] ∧ d = .bool (whole x)
theorem scWhole : FnScope ["value"] ["value"] (defScope sWhole) := ⟨rfl, rfl, rfl, by decide +kernel, rfl, by decide +kernel, by decide +kernel⟩
theorem ok_whole {f : Addr} {fd : FuncData} (T : Nm mg) (F : Df K mg "is_whole" sWhole ["value"] f fd) : FnOk P w K mg base CX0 1 f fd ["value"] (spR K RWhole) := by
  refine F.F.ok scWhole (fun vs H Q E h => ?_) (fun cdv A outer s H vs Q E hr h => ?_)
  · obtain ⟨M, ds, d, L, hd, ⟨x, rfl, rfl⟩, q⟩ := h
    exact dpa_len hd
  · obtain ⟨M, ds, d, L, hd, ⟨x, rfl, rfl⟩, q⟩ := h
    cases hd with
    | cons h1 h2 =>
      cases h2
      refine rb_ret (M := M) (xd_and2 (xd_is1 (k_int x) T.isi T.int (by decide +kernel) (xd_name 0 rfl h1)) fun _ => xd_not (xd_is1 (k_bool x) T.isi T.bool (by decide +kernel) (xd_name 0 rfl h1))) fun v H1 s hv => q v H1 s ?_
      rw [whole_eq] at hv
      exact hv

/-! ### need_integer -/
def RNeed (ds : List PyData) (d : PyData) : Prop := ∃ i : Int, ds = [.int i] ∧ d = .none
theorem scNeed : FnScope ["value"] ["value"] (defScope sNeed) := ⟨rfl, rfl, rfl, by decide +kernel, rfl, by decide +kernel, by decide +kernel⟩
theorem ok_need {f fW : Addr} {fd fdW : FuncData} (T : Nm mg) (FW : Df K mg "is_whole" sWhole ["value"] fW fdW) (F : Df K mg "need_integer" sNeed ["value"] f fd) : FnOk P w K mg base CX0 2 f fd ["value"] (spR K RNeed) := by
  have GW : FnOk P w K mg base CX0 1 fW fdW ["value"] (spR K RWhole) := ok_whole T FW
  refine F.F.ok scNeed (fun vs H Q E h => ?_) (fun cdv A outer s H vs Q E hr h => ?_)
  · obtain ⟨M, ds, d, L, hd, ⟨x, rfl, rfl⟩, q⟩ := h
    exact dpa_len hd
  · obtain ⟨M, ds, d, L, hd, ⟨x, rfl, rfl⟩, q⟩ := h
    cases hd with
    | cons h1 h2 =>
      cases h2
      refine rb_ifF ((xt_not (xt_val (M := M) (xd_call L GW hr FW.g FW.F.kp FW.b (xa_cons (xd_name 0 rfl h1) xa_nil) ⟨_, rfl, rfl⟩))).to rfl) fun H1 s => rb_nil (q _ H1 s .non)
/-! ### rows -/
abbrev Row := Int × Int × Int
def rowD (r : Row) : PyData := .tuple [.int r.1, .int r.2.1, .int r.2.2]
def jmp (r : Row) : Int := r.2.2 - r.2.1
def ab (n : Int) : Int := if n < 0 then -n else n
theorem pix {X : Cx} {n : Int} {j pos} : PlainIx (.Constant (.int n) j pos) := fun _ _ => rfl
def RJump (ds : List PyData) (d : PyData) : Prop := ∃ r : Row, ds = [rowD r] ∧ d = .int (jmp r)
theorem scJump : FnScope ["row"] ["row"] (defScope sJump) := ⟨rfl, rfl, rfl, by decide +kernel, rfl, by decide +kernel, by decide +kernel⟩
theorem ok_jump {f : Addr} {fd : FuncData} (F : Df K mg "jump_of" sJump ["row"] f fd) : FnOk P w K mg base CX0 1 f fd ["row"] (spR K RJump) := by
  refine F.F.ok scJump (fun vs H Q E h => ?_) (fun cdv A outer s H vs Q E hr h => ?_)
  · obtain ⟨M, ds, d, L, hd, ⟨x, rfl, rfl⟩, q⟩ := h
    exact dpa_len hd
  · obtain ⟨M, ds, d, L, hd, ⟨r, rfl, rfl⟩, q⟩ := h
    cases hd with
    | cons h1 h2 =>
      cases h2
      exact rb_ret (M := M) (xd_sub (xd_ixT (fun _ _ => rfl) (xd_name 0 rfl h1) xd_int rfl) (xd_ixT (fun _ _ => rfl) (xd_name 0 rfl h1) xd_int rfl)) q
def isJumpB (j : Int) : Bool := !decide (j = 0) && decide (ab j ≤ 720)
def RIsJump (ds : List PyData) (d : PyData) : Prop := ∃ j : Int, ds = [.int j] ∧ d = .bool (isJumpB j)
theorem scIsJump : FnScope ["value"] ["value"] (defScope sIsJump) := ⟨rfl, rfl, rfl, by decide +kernel, rfl, by decide +kernel, by decide +kernel⟩
theorem ok_isJump {f : Addr} {fd : FuncData} (T : Nm mg) (hG : ∃ t, mg "GREATEST_JUMP" = some (.int 720 t)) (F : Df K mg "is_jump" sIsJump ["value"] f fd) : FnOk P w K mg base CX0 1 f fd ["value"] (spR K RIsJump) := by
  obtain ⟨t, hG⟩ := hG
  refine F.F.ok scIsJump (fun vs H Q E h => ?_) (fun cdv A outer s H vs Q E hr h => ?_)
  · obtain ⟨M, ds, d, L, hd, ⟨x, rfl, rfl⟩, q⟩ := h
    exact dpa_len hd
  · obtain ⟨M, ds, d, L, hd, ⟨j, rfl, rfl⟩, q⟩ := h
    cases hd with
    | cons h1 h2 =>
      cases h2
      exact rb_ret (M := M) (xd_and2 (xd_neI (xd_name 0 rfl h1) xd_int) fun _ => xd_cmpI op_le (xd_abs T.abs (xd_name 0 rfl h1)) (xv_glob (v := .int 720) hG ⟨t, rfl⟩).int) q
def followB (rs : List Row) (r : Row) : Bool := match rs.getLast? with
  | none => true
  | some l => decide (ab (jmp l) + ab (jmp r) < r.1 - l.1)
def RFollow (ds : List PyData) (d : PyData) : Prop := ∃ (rs : List Row) (r : Row), ds = [.list (rs.map rowD), rowD r] ∧ d = .bool (isJumpB (jmp r) && followB rs r)
theorem scFollow : FnScope ["rows", "row", "last"] ["rows", "row"] (defScope sFollow) := ⟨rfl, rfl, rfl, by decide +kernel, rfl, by decide +kernel, by decide +kernel⟩
theorem at_last {rs : List Row} {l : Row} (h : rs.getLast? = some l) : atI (rs.map rowD) (-1) = some (rowD l) := by
  obtain ⟨ys, rfl⟩ := List.getLast?_eq_some_iff.mp h
  rw [List.map_append]
  exact atI_last _ _
theorem ok_follow {f fJ fI : Addr} {fd fdJ fdI : FuncData} (T : Nm mg) (hG : ∃ t, mg "GREATEST_JUMP" = some (.int 720 t)) (FJ : Df K mg "jump_of" sJump ["row"] fJ fdJ) (FI : Df K mg "is_jump" sIsJump ["value"] fI fdI) (F : Df K mg "can_follow" sFollow ["rows", "row"] f fd) : FnOk P w K mg base CX0 2 f fd ["rows", "row"] (spR K RFollow) := by
  have GJ : FnOk P w K mg base CX0 1 fJ fdJ ["row"] (spR K RJump) := ok_jump FJ
  have GI : FnOk P w K mg base CX0 1 fI fdI ["value"] (spR K RIsJump) := ok_isJump T hG FI
  refine F.F.ok scFollow (fun vs H Q E h => ?_) (fun cdv A outer s H vs Q E hr h => ?_)
  · obtain ⟨M, ds, d, L, hd, ⟨x, y, rfl, rfl⟩, q⟩ := h
    exact dpa_len hd
  · obtain ⟨M, ds, d, L, hd, ⟨rs, r, rfl, rfl⟩, q⟩ := h
    cases hd with
    | cons h1 h2 =>
      cases h2 with
      | cons h2 h3 =>
        cases h3
        refine rb_if (xt_not (xt_val (M := M) (xd_call L GI hr FI.g FI.F.kp FI.b (xa_cons (xd_call L GJ hr FJ.g FJ.F.kp FJ.b (xa_cons (xd_name 1 rfl h2) xa_nil) ⟨r, rfl, rfl⟩) xa_nil) ⟨_, rfl, rfl⟩))) (fun e H1 s => ?_) (fun e0 H0 s0 => rb_nil ?_)
        · refine rb_ret (M := M) xd_bl fun v H2 s2 hv => q v H2 (s.trans s2) ?_
          have ej : isJumpB (jmp r) = false := by
            cases z : isJumpB (jmp r)
            · rfl
            · rw [z] at e; exact absurd e Bool.false_ne_true
          rw [ej]
          exact hv
        have ej : isJumpB (jmp r) = true := by
          cases z : isJumpB (jmp r)
          · rw [z] at e0; exact absurd e0.symm Bool.false_ne_true
          · rfl
        have L := L.mono s0
        have h1 := h1.up (hid_mono (M := M) s0)
        have h2 := h2.up (hid_mono (M := M) s0)
        rw [ej] at q
        refine rb_if (xt_eqI (M := M) (xd_len T.len (xd_name 0 rfl h1)) xd_int) (fun e H1 s => ?_) (fun e H1 s => rb_nil ?_)
        · have e0 : rs = [] := by
            have z := of_decide_eq_true e
            rw [List.length_map] at z
            exact List.length_eq_zero_iff.mp (by omega)
          subst e0
          exact rb_ret (M := M) xd_bl fun v H2 s2 hv => q v H2 ((s0.trans s).trans s2) hv
        · have e0 : rs ≠ [] := fun z => by
            subst z
            simp at e
          obtain ⟨l, hl⟩ : ∃ l, rs.getLast? = some l := ⟨_, List.getLast?_eq_some_getLast e0⟩
          have g1 := h1.up (hid_mono (M := M) s)
          have g2 := h2.up (hid_mono (M := M) s)
          refine rb_set 2 (M := M) (xd_ixL (fun _ _ => rfl) (xd_name 0 rfl g1) (xd_neg xd_int) (at_last hl)) (fun v H2 s2 hv => ?_) scFollow.nd
          have g3 := g2.up (hid_mono (M := M) s2)
          have L2' := (L.mono s).mono s2
          refine rb_ret (M := M) (xd_cmpI op_gt (xd_sub (xd_ixT (fun _ _ => rfl) (xd_name 1 rfl g3) xd_int rfl) (xd_ixT (fun _ _ => rfl) (xd_name 2 rfl hv) xd_int rfl))
            (xd_add (xd_abs T.abs (xd_call L2' GJ hr FJ.g FJ.F.kp FJ.b (xa_cons (xd_name 2 rfl hv) xa_nil) ⟨l, rfl, rfl⟩)) (xd_abs T.abs (xd_call L2' GJ hr FJ.g FJ.F.kp FJ.b (xa_cons (xd_name 1 rfl g3) xa_nil) ⟨r, rfl, rfl⟩)))) fun v' H3 s3 hv' => q v' H3 (((s0.trans s).trans s2).trans s3) ?_
          unfold followB
          rw [hl, Bool.true_and]
          exact hv'
def tornD (r : Row) : PyData := .tuple [.int (r.1 + (if r.2.2 < r.2.1 then r.2.2 else r.2.1)), .int (r.1 + (if r.2.2 > r.2.1 then r.2.2 else r.2.1))]
def RTorn (ds : List PyData) (d : PyData) : Prop := ∃ r : Row, ds = [rowD r] ∧ d = tornD r
theorem scTorn : FnScope ["row", "moment", "before", "after"] ["row"] (defScope sTorn) := ⟨rfl, rfl, rfl, by decide +kernel, rfl, by decide +kernel, by decide +kernel⟩
theorem ok_torn {f : Addr} {fd : FuncData} (T : Nm mg) (F : Df K mg "torn_readings" sTorn ["row"] f fd) : FnOk P w K mg base CX0 1 f fd ["row"] (spR K RTorn) := by
  refine F.F.ok scTorn (fun vs H Q E h => ?_) (fun cdv A outer s H vs Q E hr h => ?_)
  · obtain ⟨M, ds, d, L, hd, ⟨x, rfl, rfl⟩, q⟩ := h
    exact dpa_len hd
  · obtain ⟨M, ds, d, L, hd, ⟨r, rfl, rfl⟩, q⟩ := h
    cases hd with
    | cons h1 h2 =>
      cases h2
      refine rb_asgR (XD.go (M := M) (xd_name 0 rfl h1) fun v H1 s1 hv => ?_)
      obtain ⟨p, xs, rfl, hp, hx⟩ := dp_tup hv
      cases hx with
      | cons a1 hx => cases hx with
        | cons a2 hx => cases hx with
          | cons a3 hx =>
            cases hx
            rw [dp_int a1, dp_int a2, dp_int a3] at hp
            refine rg_tup (same_seqT hid_le hp) (rgs_cons (rg_name 1 (rgs_cons (rg_name 2 (rgs_cons (rg_name 3 (rgs_nil ?_) scTorn.nd)) scTorn.nd)) scTorn.nd))
            exact rb_ret (M := M) (xd_tup (L.mono s1) (xa_cons (xd_add (xd_name 1 rfl (.int r.1)) (xd_min T.min (xa_cons (xd_name 2 rfl (.int r.2.1)) (xa_cons (xd_name 3 rfl (.int r.2.2)) xa_nil))))
              (xa_cons (xd_add (xd_name 1 rfl (.int r.1)) (xd_max T.max (xa_cons (xd_name 2 rfl (.int r.2.1)) (xa_cons (xd_name 3 rfl (.int r.2.2)) xa_nil)))) xa_nil))) fun v' H2 s2 hv' => q v' H2 (s1.trans s2) hv'
end
end Zn

set_option Elab.async false
set_option linter.all false
set_option maxRecDepth 100000
set_option maxHeartbeats 4000000
namespace Zn
open PySem PySem.Spec PyProof.Rows L2 Dl
/-! ### rows of changes: the mathematics -/
def rowsOf : Int → List (Int × Int) → List Row
  | _, [] => []
  | b, c :: cs => (c.1, b, c.2) :: rowsOf c.2 cs
def lastOff : Int → List (Int × Int) → Int
  | b, [] => b
  | _, c :: cs => lastOff c.2 cs
theorem rows_len : ∀ (b : Int) (cs : List (Int × Int)), (rowsOf b cs).length = cs.length
  | _, [] => rfl
  | _, c :: cs => by unfold rowsOf; rw [List.length_cons, List.length_cons, rows_len c.2 cs]
theorem rows_take : ∀ (b : Int) (cs : List (Int × Int)) (k : Nat), (rowsOf b cs).take k = rowsOf b (cs.take k)
  | _, [], k => by unfold rowsOf; cases k <;> rfl
  | _, c :: cs, 0 => rfl
  | _, c :: cs, k + 1 => by unfold rowsOf; rw [List.take_succ_cons, List.take_succ_cons, rows_take c.2 cs k]
theorem rows_get : ∀ (b : Int) (cs : List (Int × Int)) (k : Nat) (c : Int × Int), cs[k]? = some c → (rowsOf b cs)[k]? = some (c.1, lastOff b (cs.take k), c.2)
  | _, [], k, c, h => by simp at h
  | _, c' :: cs, 0, c, h => by simp at h; subst h; rfl
  | _, c' :: cs, k + 1, c, h => by
    have q := rows_get c'.2 cs k c (by simpa using h)
    unfold rowsOf lastOff
    rw [List.take_succ_cons]
    simpa using q
theorem last_snoc : ∀ (b : Int) (cs : List (Int × Int)) (c : Int × Int), lastOff b (cs ++ [c]) = c.2
  | _, [], c => rfl
  | _, c' :: cs, c => last_snoc c'.2 cs c
theorem rows_snoc : ∀ (b : Int) (cs : List (Int × Int)) (c : Int × Int), rowsOf b (cs ++ [c]) = rowsOf b cs ++ [(c.1, lastOff b cs, c.2)]
  | _, [], c => rfl
  | _, c' :: cs, c => by
    show (c'.1, _, c'.2) :: rowsOf c'.2 (cs ++ [c]) = _
    rw [rows_snoc c'.2 cs c]
    rfl
/-- each row passes the checks behind the ones ahead of it -/
def okR (rs : List Row) : Prop := ∀ (k : Nat) (r : Row), rs[k]? = some r → isJumpB (jmp r) = true ∧ followB (rs.take k) r = true
def IsPr (it : PyData) (c : Int × Int) : Prop := it = .tuple [.int c.1, .int c.2] ∨ it = .list [.int c.1, .int c.2]
def Items (items : List PyData) (cs : List (Int × Int)) : Prop := items.length = cs.length ∧ ∀ (i : Nat) (it : PyData), items[i]? = some it → ∃ c, cs[i]? = some c ∧ IsPr it c
def RPair (ds : List PyData) (d : PyData) : Prop := ∃ it c, ds = [it] ∧ IsPr it c ∧ d = .bool true
def RRows (ds es : List PyData) : Prop := ∃ (off : Int) (sq : PyData) (items : List PyData) (cs : List (Int × Int)), ds = [.int off, sq] ∧ (sq = .list items ∨ sq = .tuple items) ∧ Items items cs ∧ okR (rowsOf off cs) ∧ cs.length ≤ 1000 ∧ es = (rowsOf off cs).map rowD
theorem hid_weak {p : Addr} {M : List Addr} {H : Hp} : Same (hid (p :: M) H) (hid M H) := fun b o e => by
  have n : b ∉ p :: M := fun z => by unfold hid at e; rw [if_pos z] at e; cases e
  rw [hid_of (fun z => n (List.mem_cons_of_mem _ z))]
  exact hid_le _ _ e
theorem hid_cons_upd {p : Addr} {M : List Addr} {H : Hp} {o : HO} : hid (p :: M) (upd H p o) = hid (p :: M) H := hid_upd_mem (List.mem_cons_self ..)
theorem Live.tail {p : Addr} {M : List Addr} {H : Hp} (L : Live (p :: M) H) : Live M H := fun b hb => L b (List.mem_cons_of_mem _ hb)
theorem same_upd {H H' : Hp} {p : Addr} {o : HO} (s : Same H H') (hp : H p = none) : Same H (upd H' p o) := fun b u e => by rw [upd_ne (ne_of_none e hp)]; exact s b u e
theorem take_snoc {α : Type} {l : List α} {k : Nat} {x : α} (h : l[k]? = some x) : l.take (k + 1) = l.take k ++ [x] := by rw [List.take_add_one, h]; rfl
theorem k_tl : kitB "tuple" "list" = some false := by decide +kernel
theorem k_tt : kitB "tuple" "tuple" = some true := by decide +kernel
theorem k_ll : kitB "list" "list" = some true := by decide +kernel
theorem k_lt : kitB "list" "tuple" = some false := by decide +kernel
section
variable {P : Program} {w : World} {K : PySem.W.Frag} {mg : Str → Option Value} {base : Heap}
theorem scPair : FnScope ["value"] ["value"] (defScope sPair) := ⟨rfl, rfl, rfl, by decide +kernel, rfl, by decide +kernel, by decide +kernel⟩
theorem ok_pair {f fW : Addr} {fd fdW : FuncData} (T : Nm mg) (FW : Df K mg "is_whole" sWhole ["value"] fW fdW) (F : Df K mg "is_whole_pair" sPair ["value"] f fd) : FnOk P w K mg base CX0 2 f fd ["value"] (spR K RPair) := by
  have GW : FnOk P w K mg base CX0 1 fW fdW ["value"] (spR K RWhole) := ok_whole T FW
  refine F.F.ok scPair (fun vs H Q E h => ?_) (fun cdv A outer s H vs Q E hr h => ?_)
  · obtain ⟨M, ds, d, L, hd, ⟨x, c, rfl, _, rfl⟩, q⟩ := h
    exact dpa_len hd
  · obtain ⟨M, ds, d, L, hd, ⟨x, c, rfl, hx, rfl⟩, q⟩ := h
    cases hd with
    | cons h1 h2 =>
      cases h2
      rcases hx with rfl | rfl
      · refine rb_ret (M := M) (xd_andT ((xd_is2 (d := .tuple [.int c.1, .int c.2]) (r1 := false) (r2 := true) (T1 := "list") (T2 := "tuple") k_tl k_tt T.isi T.lst (by decide +kernel) T.tup (by decide +kernel) (xd_name 0 rfl h1)).to rfl)
          (xd_andT ((xd_eqI (xd_lenT T.len (xd_name 0 rfl h1)) xd_int).to rfl) (xd_andT (xd_call L GW hr FW.g FW.F.kp FW.b (xa_cons (xd_ixT (fun _ _ => rfl) (xd_name 0 rfl h1) xd_int rfl) xa_nil) ⟨.int c.1, rfl, rfl⟩)
            (xd_one (xd_call L GW hr FW.g FW.F.kp FW.b (xa_cons (xd_ixT (fun _ _ => rfl) (xd_name 0 rfl h1) xd_int rfl) xa_nil) ⟨.int c.2, rfl, rfl⟩))))) q
      · refine rb_ret (M := M) (xd_andT ((xd_is2 (d := .list [.int c.1, .int c.2]) (r1 := true) (r2 := false) (T1 := "list") (T2 := "tuple") k_ll k_lt T.isi T.lst (by decide +kernel) T.tup (by decide +kernel) (xd_name 0 rfl h1)).to rfl)
          (xd_andT ((xd_eqI (xd_len T.len (xd_name 0 rfl h1)) xd_int).to rfl) (xd_andT (xd_call L GW hr FW.g FW.F.kp FW.b (xa_cons (xd_ixL (fun _ _ => rfl) (xd_name 0 rfl h1) xd_int rfl) xa_nil) ⟨.int c.1, rfl, rfl⟩)
            (xd_one (xd_call L GW hr FW.g FW.F.kp FW.b (xa_cons (xd_ixL (fun _ _ => rfl) (xd_name 0 rfl h1) xd_int rfl) xa_nil) ⟨.int c.2, rfl, rfl⟩))))) q
/-- item[0], item[1] -/
theorem pr_ix {X : Cx} {M : List Addr} {σ : L2.St} {H : Hp} {a : Expr} {it : PyData} {c : Int × Int} {j : Nat} {p1 pos : Pos} (h : IsPr it c) (ha : XD X M σ H a it) {n : Int} {y : Int} (hn : atI [PyData.int c.1, PyData.int c.2] n = some (.int y)) : XD X M σ H (.Subscript a (.Constant (.int n) j p1) pos) (.int y) := by
  rcases h with rfl | rfl
  · exact xd_ixT (fun _ _ => rfl) ha xd_int hn
  · exact xd_ixL (fun _ _ => rfl) ha xd_int hn
theorem scRows : FnScope ["offset", "changes", "rows", "before", "item", "row"] ["offset", "changes"] (defScope sRows) := ⟨rfl, rfl, rfl, by decide +kernel, rfl, by decide +kernel, by decide +kernel⟩
theorem ok_rows {f fW fP fJ fI fF : Addr} {fd fdW fdP fdJ fdI fdF : FuncData} (T : Nm mg) (hG : ∃ t, mg "GREATEST_JUMP" = some (.int 720 t)) (FW : Df K mg "is_whole" sWhole ["value"] fW fdW) (FP : Df K mg "is_whole_pair" sPair ["value"] fP fdP)
    (FJ : Df K mg "jump_of" sJump ["row"] fJ fdJ) (FI : Df K mg "is_jump" sIsJump ["value"] fI fdI) (FF : Df K mg "can_follow" sFollow ["rows", "row"] fF fdF) (F : Df K mg "rows_of" sRows ["offset", "changes"] f fd) : FnOk P w K mg base CX0 3 f fd ["offset", "changes"] (spL K RRows) := by
  have GP : FnOk P w K mg base CX0 2 fP fdP ["value"] (spR K RPair) := ok_pair T FW FP
  have GF : FnOk P w K mg base CX0 2 fF fdF ["rows", "row"] (spR K RFollow) := ok_follow T hG FJ FI FF
  refine F.F.ok scRows (fun vs H Q E h => ?_) (fun cdv A outer s H vs Q E hr h => ?_)
  · obtain ⟨M, ds, es, L, hd, ⟨off, sq, items, cs, rfl, _⟩, q⟩ := h
    exact dpa_len hd
  · obtain ⟨M, ds, es, L, hd, ⟨off, sq, items, cs, rfl, hsq, hit, hok, hlen, rfl⟩, q⟩ := h
    cases hd with
    | cons h1 h2 =>
      cases h2 with
      | cons h2 h3 =>
        cases h3
        rename_i v0 v1
        have e0 := dp_int h1
        subst e0
        refine rb_setL 2 (xl_lst L xa_nil) (fun p xs H1 s1 hp h1p hxs => ?_) scRows.nd
        cases hxs
        have g0 : Same (hid M H) (hid (p :: M) H1) := hid_step hp s1
        have Lp : Live (p :: M) H1 := fun b hb => by
          rcases List.mem_cons.mp hb with z | hb
          · subst z; rw [h1p]; simp
          · exact L.mono s1 b hb
        have k2 := h2.up g0
        refine rb_set 3 (M := p :: M) (xd_name 0 rfl (.int off)) (fun v H2 s2 hv => ?_) scRows.nd
        have e3 := dp_int hv
        subst e3
        have k3 := k2.up (hid_mono (M := p :: M) s2)
        have Lp2 := Lp.mono s2
        rcases hsq with rfl | rfl
        · refine rb_for (M := p :: M) (xd_name 1 rfl k3) fun H3 s3 => ⟨fun k σ' H' => Same (hid (p :: M) H3) (hid (p :: M) H') ∧ Live (p :: M) H' ∧ Same H H' ∧ ∃ (xs : List V) (a4 a5 : Option V), σ' = [some (.int off), some v1, some (.ref p), some (.int (lastOff off (cs.take k))), a4, a5] ∧ H' p = some (.lst xs) ∧ DqAll K (hid (p :: M) H') xs ((rowsOf off (cs.take k)).map rowD),
            ⟨Same.refl _, Lp2.mono s3, (s1.trans s2).trans s3, [], none, none, rfl, s3 _ _ (s2 _ _ h1p), .nil⟩, fun k σ' H' w => w.1, fun k it hk σ' H' v hw hv => ?_, fun σ' H' hw => ?_⟩
          · obtain ⟨z1, L4, z2, xs, a4, a5, rfl, hp4, hx4⟩ := hw
            obtain ⟨c, hc, hpr⟩ := hit.2 k it hk
            have hklt : k < cs.length := (List.getElem?_eq_some_iff.mp hc).1
            have hrow := rows_get off cs k c hc
            obtain ⟨c1, c2⟩ := hok k _ hrow
            rw [rows_take] at c2
            have hxl : xs.length < 100000 := by
              rw [dpa_len hx4, List.length_map, rows_len, List.length_take]
              omega
            refine rg_name 4 ?_ scRows.nd
            refine rb_ifF ((xt_not (xt_val (M := p :: M) (xd_call L4 GP hr FP.g FP.F.kp FP.b (xa_cons (xd_name 4 rfl hv) xa_nil) ⟨it, c, rfl, hpr, rfl⟩))).to rfl) fun H5 s5 => ?_
            have hv5 := hv.up (hid_mono (M := p :: M) s5)
            have L5 := L4.mono s5
            refine rb_set 5 (M := p :: M) (xd_tup L5 (xa_cons (pr_ix hpr (xd_name 4 rfl hv5) rfl) (xa_cons (xd_name 3 rfl (.int _)) (xa_cons (pr_ix hpr (xd_name 4 rfl hv5) rfl) xa_nil)))) (fun v6 H6 s6 hv6 => ?_) scRows.nd
            have L6 := L5.mono s6
            have s46 := s5.trans s6
            have hx6 := hx4.up (hid_mono (M := p :: M) s46)
            have LM := Live.tail L6
            have hp6 : H6 p = some (.lst xs) := s46 _ _ hp4
            have kp : Dq K (hid M H6) (.ref p) (.list ((rowsOf off (cs.take k)).map rowD)) := .lst (by rw [hid_of (fun z => (L.fresh hp) z)]; exact hp6) (hx6.up hid_weak)
            refine rb_ifF ((xt_not (xt_val (M := M) (xd_call LM GF hr FF.g FF.F.kp FF.b (xa_cons (xd_name 2 rfl kp) (xa_cons (xd_name 5 rfl (hv6.up hid_weak)) xa_nil)) ⟨_, (c.1, lastOff off (cs.take k), c.2), rfl, rfl⟩))).to (by rw [c1, c2]; rfl)) fun H7 s7 => ?_
            refine rb_append (M := p :: M) (xs := xs) (List.mem_cons_self ..) (xv_name 2 rfl) (s7 _ _ (s46 _ _ hp4)) (xd_name 5 rfl (hv6.up (hid_mono s7))) hxl fun v8 H8 s8 hv8 => ?_
            have s68 := s7.trans s8
            have s48 := s46.trans s68
            have hv9 : Dq K (hid (p :: M) (upd H8 p (.lst (xs ++ [v8])))) v it := by rw [hid_cons_upd]; exact hv5.up (hid_mono (s6.trans s68))
            refine rb_set 3 (M := p :: M) (pr_ix hpr (xd_name 4 rfl hv9) rfl) (fun v10 H10 s10 hv10 => rb_nil ?_) scRows.nd
            have e10 := dp_int hv10
            subst e10
            have s4x : Same (hid (p :: M) H') (hid (p :: M) H10) := by
              refine (hid_mono (M := p :: M) s48).trans ?_
              have z := hid_mono (M := p :: M) s10
              rw [hid_cons_upd] at z
              exact z
            refine ⟨z1.trans s4x, (Live.upd (L6.mono s68)).mono s10, (same_upd (z2.trans s48) hp).trans s10, xs ++ [v8], some v, some v6, ?_, s10 _ _ upd_same, ?_⟩
            · rw [take_snoc hc, last_snoc]
              rfl
            · rw [take_snoc hc, rows_snoc, List.map_append]
              refine dpa_app (hx4.up s4x) (.cons (hv8.up ?_) .nil)
              have z := hid_mono (M := p :: M) s10
              rw [hid_cons_upd] at z
              exact z
          · obtain ⟨z1, L4, z2, xs, a4, a5, rfl, hp4, hx4⟩ := hw
            refine rb_retR (XV.go (xv_name 2 rfl) fun H5 s5 => q p xs H5 (z2.trans s5) hp (s5 _ _ hp4) ?_)
            rw [hit.1, List.take_length] at hx4
            exact (hx4.up (hid_mono (M := p :: M) s5)).up hid_weak
        · refine rb_forT (M := p :: M) (xd_name 1 rfl k3) fun H3 s3 => ⟨fun k σ' H' => Same (hid (p :: M) H3) (hid (p :: M) H') ∧ Live (p :: M) H' ∧ Same H H' ∧ ∃ (xs : List V) (a4 a5 : Option V), σ' = [some (.int off), some v1, some (.ref p), some (.int (lastOff off (cs.take k))), a4, a5] ∧ H' p = some (.lst xs) ∧ DqAll K (hid (p :: M) H') xs ((rowsOf off (cs.take k)).map rowD),
            ⟨Same.refl _, Lp2.mono s3, (s1.trans s2).trans s3, [], none, none, rfl, s3 _ _ (s2 _ _ h1p), .nil⟩, fun k σ' H' w => w.1, fun k it hk σ' H' v hw hv => ?_, fun σ' H' hw => ?_⟩
          · obtain ⟨z1, L4, z2, xs, a4, a5, rfl, hp4, hx4⟩ := hw
            obtain ⟨c, hc, hpr⟩ := hit.2 k it hk
            have hklt : k < cs.length := (List.getElem?_eq_some_iff.mp hc).1
            have hrow := rows_get off cs k c hc
            obtain ⟨c1, c2⟩ := hok k _ hrow
            rw [rows_take] at c2
            have hxl : xs.length < 100000 := by
              rw [dpa_len hx4, List.length_map, rows_len, List.length_take]
              omega
            refine rg_name 4 ?_ scRows.nd
            refine rb_ifF ((xt_not (xt_val (M := p :: M) (xd_call L4 GP hr FP.g FP.F.kp FP.b (xa_cons (xd_name 4 rfl hv) xa_nil) ⟨it, c, rfl, hpr, rfl⟩))).to rfl) fun H5 s5 => ?_
            have hv5 := hv.up (hid_mono (M := p :: M) s5)
            have L5 := L4.mono s5
            refine rb_set 5 (M := p :: M) (xd_tup L5 (xa_cons (pr_ix hpr (xd_name 4 rfl hv5) rfl) (xa_cons (xd_name 3 rfl (.int _)) (xa_cons (pr_ix hpr (xd_name 4 rfl hv5) rfl) xa_nil)))) (fun v6 H6 s6 hv6 => ?_) scRows.nd
            have L6 := L5.mono s6
            have s46 := s5.trans s6
            have hx6 := hx4.up (hid_mono (M := p :: M) s46)
            have LM := Live.tail L6
            have hp6 : H6 p = some (.lst xs) := s46 _ _ hp4
            have kp : Dq K (hid M H6) (.ref p) (.list ((rowsOf off (cs.take k)).map rowD)) := .lst (by rw [hid_of (fun z => (L.fresh hp) z)]; exact hp6) (hx6.up hid_weak)
            refine rb_ifF ((xt_not (xt_val (M := M) (xd_call LM GF hr FF.g FF.F.kp FF.b (xa_cons (xd_name 2 rfl kp) (xa_cons (xd_name 5 rfl (hv6.up hid_weak)) xa_nil)) ⟨_, (c.1, lastOff off (cs.take k), c.2), rfl, rfl⟩))).to (by rw [c1, c2]; rfl)) fun H7 s7 => ?_
            refine rb_append (M := p :: M) (xs := xs) (List.mem_cons_self ..) (xv_name 2 rfl) (s7 _ _ (s46 _ _ hp4)) (xd_name 5 rfl (hv6.up (hid_mono s7))) hxl fun v8 H8 s8 hv8 => ?_
            have s68 := s7.trans s8
            have s48 := s46.trans s68
            have hv9 : Dq K (hid (p :: M) (upd H8 p (.lst (xs ++ [v8])))) v it := by rw [hid_cons_upd]; exact hv5.up (hid_mono (s6.trans s68))
            refine rb_set 3 (M := p :: M) (pr_ix hpr (xd_name 4 rfl hv9) rfl) (fun v10 H10 s10 hv10 => rb_nil ?_) scRows.nd
            have e10 := dp_int hv10
            subst e10
            have s4x : Same (hid (p :: M) H') (hid (p :: M) H10) := by
              refine (hid_mono (M := p :: M) s48).trans ?_
              have z := hid_mono (M := p :: M) s10
              rw [hid_cons_upd] at z
              exact z
            refine ⟨z1.trans s4x, (Live.upd (L6.mono s68)).mono s10, (same_upd (z2.trans s48) hp).trans s10, xs ++ [v8], some v, some v6, ?_, s10 _ _ upd_same, ?_⟩
            · rw [take_snoc hc, last_snoc]
              rfl
            · rw [take_snoc hc, rows_snoc, List.map_append]
              refine dpa_app (hx4.up s4x) (.cons (hv8.up ?_) .nil)
              have z := hid_mono (M := p :: M) s10
              rw [hid_cons_upd] at z
              exact z
          · obtain ⟨z1, L4, z2, xs, a4, a5, rfl, hp4, hx4⟩ := hw
            refine rb_retR (XV.go (xv_name 2 rfl) fun H5 s5 => q p xs H5 (z2.trans s5) hp (s5 _ _ hp4) ?_)
            rw [hit.1, List.take_length] at hx4
            exact (hx4.up (hid_mono (M := p :: M) s5)).up hid_weak
end
end Zn

set_option Elab.async false
set_option linter.all false
set_option maxRecDepth 100000
set_option maxHeartbeats 4000000
namespace Zn
open PySem PySem.Spec PyProof.Rows L2 Dl
abbrev sInit : Stmt := inClass (top 21) 0
abbrev sFirst : Stmt := inClass (top 21) 1
abbrev sChanges : Stmt := inClass (top 21) 2
abbrev sJumps : Stmt := inClass (top 21) 3
abbrev sLen : Stmt := inClass (top 21) 4
abbrev sCont : Stmt := inClass (top 21) 5
abbrev sEq : Stmt := inClass (top 21) 6
/-! ### a zone -/
def zf (off : Int) (r : Addr) : List (Str × V) := [("base", .int off), ("rows", .ref r)]
theorem zf_base (off : Int) (r : Addr) : (zf off r).lookup ("base" : Str) = some (.int off) := by
  unfold zf
  simp [List.lookup]
theorem zf_rows (off : Int) (r : Addr) : (zf off r).lookup ("rows" : Str) = some (.ref r) := by
  unfold zf
  simp [List.lookup, show (("rows" : Str) == ("base" : Str)) = false by decide +kernel]
theorem zf_put (off : Int) (r : Addr) : putF "rows" (.ref r) [(("base" : Str), V.int off)] = zf off r := by
  show (if ("base" : Str) = "rows" then _ else (("base" : Str), V.int off) :: [(("rows" : Str), V.ref r)]) = _
  rw [if_neg (by decide +kernel)]
  rfl
theorem zf_none {m : Str} (off : Int) (r : Addr) (h1 : (m == ("base" : Str)) = false) (h2 : (m == ("rows" : Str)) = false) : (zf off r).lookup m = none := by
  unfold zf
  simp [List.lookup, h1, h2]
/-- at a a zone of the class at C: first offset off, rows rs -/
def ZAt (K : PySem.W.Frag) (C : Addr) (H : Hp) (a : Addr) (off : Int) (rs : List Row) : Prop := ∃ dx r, H a = some (.ins C dx (zf off r)) ∧ Dq K H (.ref r) (.list (rs.map rowD))
theorem ZAt.up {K : PySem.W.Frag} {C : Addr} {H H' : Hp} {a : Addr} {off : Int} {rs : List Row} (h : ZAt K C H a off rs) (s : Same H H') : ZAt K C H' a off rs := by
  obtain ⟨dx, r, h1, h2⟩ := h
  exact ⟨dx, r, s _ _ h1, h2.up s⟩
/-- what the written part says of the class -/
structure ZT (K : PySem.W.Frag) (mg : Str → Option Value) (C : Addr) : Prop where
  cl : Cls K C
  nB : NoAttr K C "base"
  nR : NoAttr K C "rows"
  mgC : mg "Zone" = some (.ref C)
/-- a method of the class -/
structure Mt (K : PySem.W.Frag) (C : Addr) (x q : Str) (st : Stmt) (ps : List Str) (f : Addr) (fd : FuncData) : Prop where
  F : Fun K x q st f fd
  b : Binds K fd ps []
  m : Meth K C x f
section
variable {X : Cx} {M : List Addr} {σ : L2.St} {H H' : Hp} {o : Expr} {pos : Pos} {K : PySem.W.Frag} {C pa : Addr} {off : Int} {rs : List Row}
/-- self.base, self.rows -/
theorem xv_base (hZ : ∃ mg, ZT X.K mg C) (h : ZAt X.K C (hid M H) pa off rs) (ho : XV X σ H o (.ref pa)) (hb : attributeBase o "base" X.env (eval o X.env) = eval o X.env := by rfl) : XV X σ H (.Attribute o "base" pos) (.int off) := by
  obtain ⟨dx, r, h1, h2⟩ := h
  obtain ⟨_, Z⟩ := hZ
  exact xv_fld ho (hid_le _ _ h1) Z.cl Z.nB (zf_base off r) hb
theorem xd_rows (hZ : ∃ mg, ZT X.K mg C) (h : ZAt X.K C (hid M H) pa off rs) (ho : XV X σ H o (.ref pa)) (hb : attributeBase o "rows" X.env (eval o X.env) = eval o X.env := by rfl) : XD X M σ H (.Attribute o "rows" pos) (.list (rs.map rowD)) := by
  obtain ⟨dx, r, h1, h2⟩ := h
  obtain ⟨_, Z⟩ := hZ
  exact (xv_fld ho (hid_le _ _ h1) Z.cl Z.nR (zf_rows off r) hb).dd h2
end
/-- a method without further arguments on a zone: a new list of the data f off rs; any data -/
def spML (K : PySem.W.Frag) (C : Addr) (f : Int → List Row → List PyData) : Sp := fun vs H Q _ => ∃ (M : List Addr) (a : Addr) (off : Int) (rs : List Row), vs = [.ref a] ∧ Live M H ∧ ZAt K C (hid M H) a off rs ∧ rs.length ≤ 1000 ∧
  ∀ p xs H1, Same H H1 → H p = none → H1 p = some (.lst xs) → DqAll K (hid M H1) xs (f off rs) → Q (.ref p) H1
def spMD (K : PySem.W.Frag) (C : Addr) (f : Int → List Row → PyData) : Sp := fun vs H Q _ => ∃ (M : List Addr) (a : Addr) (off : Int) (rs : List Row), vs = [.ref a] ∧ Live M H ∧ ZAt K C (hid M H) a off rs ∧ rs.length ≤ 1000 ∧
  ∀ v H1, Same H H1 → Dq K (hid M H1) v (f off rs) → Q v H1
section
variable {P : Program} {w : World} {K : PySem.W.Frag} {mg : Str → Option Value} {base : Heap} {C : Addr}
theorem fm_map {α : Type} (g : α → PyData) (f : PyData → Option PyData) (h : α → PyData) (e : ∀ r, f (g r) = some (h r)) : ∀ rs : List α, (rs.map g).filterMap f = rs.map h
  | [] => rfl
  | r :: rs => by rw [List.map_cons, List.filterMap_cons, e r, List.map_cons, fm_map g f h e rs]
theorem row_at {K : PySem.W.Frag} {H : Hp} {v : V} {r : Row} (h : Dq K H v (rowD r)) : ∃ p, v = .ref p ∧ SqT K H p [.int r.1, .int r.2.1, .int r.2.2] := by
  obtain ⟨p, xs, rfl, hp, hx⟩ := dp_tup h
  cases hx with
  | cons a1 hx => cases hx with
    | cons a2 hx => cases hx with
      | cons a3 hx => cases hx; rw [dp_int a1, dp_int a2, dp_int a3] at hp; exact ⟨p, rfl, hp⟩
/-- the row of an item -/
theorem mem_row {rs : List Row} {d : PyData} (h : d ∈ rs.map rowD) : ∃ r ∈ rs, d = rowD r := by
  obtain ⟨r, h1, h2⟩ := List.mem_map.mp h
  exact ⟨r, h1, h2.symm⟩
/-! first, len -/
theorem scFirst : FnScope ["self"] ["self"] (defScope sFirst) := ⟨rfl, rfl, rfl, by decide +kernel, rfl, by decide +kernel, by decide +kernel⟩
theorem ok_first {f : Addr} {fd : FuncData} (Z : ZT K mg C) (F : Fun K "first" "Zone.first" sFirst f fd) : FnOk P w K mg base CX0 1 f fd ["self"] (spMD K C fun off _ => .int off) := by
  refine F.ok scFirst (fun vs H Q E h => ?_) (fun cdv A outer s H vs Q E hr h => ?_)
  · obtain ⟨M, a, off, rs, rfl, _⟩ := h; rfl
  · obtain ⟨M, a, off, rs, rfl, L, hz, _, q⟩ := h
    exact rb_retR (XV.go (xv_base ⟨_, Z⟩ hz (xv_name 0 rfl)) fun H1 s => q _ H1 s (.int off))
theorem scLen : FnScope ["self"] ["self"] (defScope sLen) := ⟨rfl, rfl, rfl, by decide +kernel, rfl, by decide +kernel, by decide +kernel⟩
theorem ok_len {f : Addr} {fd : FuncData} (T : Nm mg) (Z : ZT K mg C) (F : Fun K "__len__" "Zone.__len__" sLen f fd) : FnOk P w K mg base CX0 1 f fd ["self"] (spMD K C fun _ rs => .int rs.length) := by
  refine F.ok scLen (fun vs H Q E h => ?_) (fun cdv A outer s H vs Q E hr h => ?_)
  · obtain ⟨M, a, off, rs, rfl, _⟩ := h; rfl
  · obtain ⟨M, a, off, rs, rfl, L, hz, _, q⟩ := h
    exact rb_ret (M := M) ((xd_len T.len (xd_rows ⟨_, Z⟩ hz (xv_name 0 rfl))).to (by rw [List.length_map])) q
/-! changes -/
def chD (r : Row) : PyData := .tuple [.int r.1, .int r.2.2]
theorem scChanges : FnScope ["self", "moment", "before", "after"] ["self"] (defScope sChanges) := ⟨rfl, rfl, rfl, by decide +kernel, rfl, by decide +kernel, by decide +kernel⟩
theorem ok_changes {f : Addr} {fd : FuncData} (Z : ZT K mg C) (F : Fun K "changes" "Zone.changes" sChanges f fd) : FnOk P w K mg base CX0 1 f fd ["self"] (spML K C fun _ rs => rs.map chD) := by
  refine F.ok scChanges (fun vs H Q E h => ?_) (fun cdv A outer s H vs Q E hr h => ?_)
  · obtain ⟨M, a, off, rs, rfl, _⟩ := h; rfl
  · obtain ⟨M, a, off, rs, rfl, L, hz, hlen, q⟩ := h
    refine rb_retR (XL.go (M := M) ((xl_comp (own := [("moment", 1), ("before", 2), ("after", 3)]) (fun d => match d with | .tuple [x, _, z] => some (.tuple [x, z]) | _ => none) L scChanges.nd (xd_rows ⟨_, Z⟩ hz (xv_name 0 rfl))
      (blkOk_by (own := [("moment", 1), ("before", 2), ("after", 3)]) (N := ["self", "moment", "before", "after"]) (sc := defScope sChanges) (by decide +kernel)) (by rw [List.length_map]; omega) (fun p d v H1 hd hp s1 Lp hv => ?_)).to (fm_map rowD _ chD (fun _ => rfl) rs)) q)
    obtain ⟨r, _, rfl⟩ := mem_row hd
    obtain ⟨t, rfl, ht⟩ := row_at hv
    intro s0 H0 C0 cl fp
    refine rg_tup (same_seqT hid_le ht) (rgs_cons (rg_name 1 (rgs_cons (rg_name 2 (rgs_cons (rg_name 3 (rgs_nil ?_) scChanges.nd)) scChanges.nd)) scChanges.nd))
    refine ⟨rfl, bt_nil ⟨Same.refl _, .inl ⟨rfl, _, rfl, fun s0 H0 C0 cl fp => ?_⟩⟩⟩
    exact XD.go (xd_tup Lp (xa_cons (xd_name 1 rfl (.int r.1)) (xa_cons (xd_name 3 rfl (.int r.2.2)) xa_nil))) fun v H2 s2 hv2 => ⟨s2, hv2⟩
/-! jump_list, gaps, folds -/
theorem scJumps : FnScope ["self", "row"] ["self"] (defScope sJumps) := ⟨rfl, rfl, rfl, by decide +kernel, rfl, by decide +kernel, by decide +kernel⟩
theorem ok_jumps {f fJ : Addr} {fd fdJ : FuncData} (Z : ZT K mg C) (FJ : Df K mg "jump_of" sJump ["row"] fJ fdJ) (F : Fun K "jump_list" "Zone.jump_list" sJumps f fd) : FnOk P w K mg base CX0 2 f fd ["self"] (spML K C fun _ rs => rs.map fun r => .int (jmp r)) := by
  have GJ : FnOk P w K mg base CX0 1 fJ fdJ ["row"] (spR K RJump) := ok_jump FJ
  refine F.ok scJumps (fun vs H Q E h => ?_) (fun cdv A outer s H vs Q E hr h => ?_)
  · obtain ⟨M, a, off, rs, rfl, _⟩ := h; rfl
  · obtain ⟨M, a, off, rs, rfl, L, hz, hlen, q⟩ := h
    refine rb_retR (XL.go (M := M) ((xl_comp (own := [("row", 1)]) (fun d => match d with | .tuple [_, .int y, .int z] => some (.int (z - y)) | _ => none) L scJumps.nd (xd_rows ⟨_, Z⟩ hz (xv_name 0 rfl))
      (blkOk_by (own := [("row", 1)]) (N := ["self", "row"]) (sc := defScope sJumps) (by decide +kernel)) (by rw [List.length_map]; omega) (fun p d v H1 hd hp s1 Lp hv => ?_)).to (fm_map rowD _ (fun r => .int (jmp r)) (fun _ => rfl) rs)) q)
    obtain ⟨r, _, rfl⟩ := mem_row hd
    intro s0 H0 C0 cl fp
    refine rg_name 1 ?_ scJumps.nd
    refine ⟨rfl, bt_nil ⟨Same.refl _, .inl ⟨rfl, _, rfl, fun s0 H0 C0 cl fp => ?_⟩⟩⟩
    exact XD.go (xd_call Lp GJ hr FJ.g FJ.F.kp FJ.b (xa_cons (xd_name 1 rfl hv) xa_nil) ⟨r, rfl, rfl⟩) fun v H2 s2 hv2 => ⟨s2, hv2⟩
end
end Zn

set_option Elab.async false
set_option linter.all false
set_option maxRecDepth 100000
set_option maxHeartbeats 4000000
namespace Zn
open PySem PySem.Spec PyProof.Rows L2 Dl
/-! ### data of rows compared -/
theorem eqv_row (r r' : Row) : PyData.eqv (rowD r) (rowD r') = decide (r = r') := by
  obtain ⟨a, b, c⟩ := r
  obtain ⟨a', b', c'⟩ := r'
  by_cases h : ((a, b, c) : Row) = (a', b', c')
  · cases h
    simp [rowD, PyData.eqv, PyData.eqvAll]
  · rw [decide_eq_false h]
    simp only [rowD, PyData.eqv, PyData.eqvAll, Bool.and_true]
    by_cases h1 : a = a'
    · by_cases h2 : b = b'
      · by_cases h3 : c = c'
        · subst h1; subst h2; subst h3; exact absurd rfl h
        · simp [h3]
      · simp [h2]
    · simp [h1]
theorem eqv_rows : ∀ (rs rs' : List Row), PyData.eqvAll (rs.map rowD) (rs'.map rowD) = decide (rs = rs')
  | [], [] => by simp [PyData.eqvAll]
  | [], r' :: rs' => by simp [PyData.eqvAll]
  | r :: rs, [] => by simp [PyData.eqvAll]
  | r :: rs, r' :: rs' => by
    rw [List.map_cons, List.map_cons]
    show (PyData.eqv (rowD r) (rowD r') && PyData.eqvAll (rs.map rowD) (rs'.map rowD)) = _
    rw [eqv_row, eqv_rows rs rs']
    by_cases h1 : r = r'
    · by_cases h2 : rs = rs'
      · simp [h1, h2]
      · simp [h1, h2]
    · simp [h1]
theorem lay_rows : ∀ rs : List Row, PyData.canLayAll0 (rs.map rowD) = true
  | [] => by simp [PyData.canLayAll0]
  | r :: rs => by
    rw [List.map_cons]
    show (PyData.canLay0 (rowD r) && PyData.canLayAll0 (rs.map rowD)) = true
    rw [lay_rows rs]
    simp [rowD, PyData.canLay0, PyData.canLayAll0]
theorem depth_rows : ∀ rs : List Row, PyData.depthAll (rs.map rowD) ≤ 1
  | [] => by simp [PyData.depthAll]
  | r :: rs => by
    rw [List.map_cons]
    show max (PyData.depth (rowD r)) (PyData.depthAll (rs.map rowD)) ≤ 1
    have := depth_rows rs
    have e : PyData.depth (rowD r) = 1 := by simp [rowD, PyData.depth, PyData.depthAll]
    omega
theorem shaped_rows (rs : List Row) : SeqAt.shaped (.list (rs.map rowD)) = true := by
  unfold SeqAt.shaped
  have h := depth_rows rs
  have e : PyData.depth (.list (rs.map rowD)) = PyData.depthAll (rs.map rowD) + 1 := by simp [PyData.depth]
  rw [show PyData.canLay0 (.list (rs.map rowD)) = PyData.canLayAll0 (rs.map rowD) by simp [PyData.canLay0], lay_rows, e]
  simp
  omega
/-! ### gaps, folds -/
def gapsOf (rs : List Row) : List PyData := rs.filterMap fun r => if 0 < jmp r then some (tornD r) else none
def foldsOf (rs : List Row) : List PyData := rs.filterMap fun r => if jmp r < 0 then some (tornD r) else none
theorem fm_fm {α : Type} (g : α → PyData) (f : PyData → Option PyData) (h : α → Option PyData) (e : ∀ r, f (g r) = h r) : ∀ rs : List α, (rs.map g).filterMap f = rs.filterMap h
  | [] => rfl
  | r :: rs => by rw [List.map_cons, List.filterMap_cons, List.filterMap_cons, e r, fm_fm g f h e rs]
theorem int_all {K : PySem.W.Frag} {H : Hp} : ∀ {ns : List Int} {xs : List V}, DqAll K H xs (ns.map PyData.int) → xs = ns.map V.int
  | [], _, h => by cases h; rfl
  | n :: ns, _, h => by
    cases h with
    | cons a b => rw [dp_int a, int_all b]; rfl
theorem inV_int (n : Int) : ∀ ns : List Int, inV (.int n) (ns.map V.int) = ns.any (fun m => m == n)
  | [] => rfl
  | m :: ns => by
    show (eqV (.int m) (.int n) || inV (.int n) (ns.map V.int)) = _
    rw [inV_int n ns]
    rfl
theorem flat_int : ∀ ns : List Int, (ns.map V.int).all flatV = true
  | [] => rfl
  | n :: ns => flat_int ns
section
variable {X : Cx} {M : List Addr} {σ : L2.St} {H H' : Hp} {a b : Expr} {pos : Pos}
theorem xd_inI {n : Int} {ns : List Int} (ha : XD X M σ H a (.int n)) (hb : XD X M σ H b (.list (ns.map PyData.int))) (hm : behindInMarks .In b = false := by rfl) : XD X M σ H (.Compare a [.In] [b] pos) (.bool (ns.any fun m => m == n)) :=
  xd_cmp op_in_seq ha hb (fun H1 v w s hv hw Q q => by
    obtain ⟨p, xs, rfl, hp, hx⟩ := dp_lst hw
    have e := int_all hx
    subst e
    rw [dp_int hv]
    exact ⟨p, _, rfl, .inl (SqL.of (hid_le _ _ hp)), rfl, flat_int ns, by rw [inV_int]; exact q _ H1 (Same.refl _) (.bl _)⟩) hm
end
section
variable {P : Program} {w : World} {K : PySem.W.Frag} {mg : Str → Option Value} {base : Heap} {C : Addr}
/-! ### in -/
def inB (rs : List Row) : PyData → Bool
  | .int n => (rs.map (·.1)).any fun m => m == n
  | _ => false
def spCont (K : PySem.W.Frag) (C : Addr) : Sp := fun vs H Q _ => ∃ (M : List Addr) (a : Addr) (off : Int) (rs : List Row) (v : V) (d : PyData), vs = [.ref a, v] ∧ Live M H ∧ ZAt K C (hid M H) a off rs ∧ rs.length ≤ 1000 ∧ Dq K (hid M H) v d ∧
  ∀ H1, Same H H1 → Q (.bl (inB rs d)) H1
theorem scCont : FnScope ["self", "x", "row"] ["self", "x"] (defScope sCont) := ⟨rfl, rfl, rfl, by decide +kernel, rfl, by decide +kernel, by decide +kernel⟩
theorem ok_cont {f fW : Addr} {fd fdW : FuncData} (T : Nm mg) (Z : ZT K mg C) (FW : Df K mg "is_whole" sWhole ["value"] fW fdW) (F : Fun K "__contains__" "Zone.__contains__" sCont f fd) : FnOk P w K mg base CX0 2 f fd ["self", "x"] (spCont K C) := by
  have GW : FnOk P w K mg base CX0 1 fW fdW ["value"] (spR K RWhole) := ok_whole T FW
  refine F.ok scCont (fun vs H Q E h => ?_) (fun cdv A outer s H vs Q E hr h => ?_)
  · obtain ⟨M, a, off, rs, v, d, rfl, _⟩ := h; rfl
  · obtain ⟨M, a, off, rs, v, d, rfl, L, hz, hlen, hd, q⟩ := h
    by_cases hwh : whole d = true
    · obtain ⟨n, rfl⟩ : ∃ n, d = .int n := by
        cases d <;> first | exact ⟨_, rfl⟩ | exact absurd hwh Bool.false_ne_true
      refine rb_ret (M := M) (xd_andT (xd_call L GW hr FW.g FW.F.kp FW.b (xa_cons (xd_name 1 rfl hd) xa_nil) ⟨.int n, rfl, rfl⟩) (xd_one (xd_inI (ns := rs.map (·.1)) (xd_name 1 rfl hd) (((xl_comp (own := [("row", 2)]) (fun d => match d with | .tuple [x, _, _] => some x | _ => none) L scCont.nd (xd_rows ⟨_, Z⟩ hz (xv_name 0 rfl))
        (blkOk_by (own := [("row", 2)]) (N := ["self", "x", "row"]) (sc := defScope sCont) (by decide +kernel)) (by rw [List.length_map]; omega) (fun p d v H1 hd hp s1 Lp hv => ?_)).to ((fm_map rowD _ (fun r => .int r.1) (fun _ => rfl) rs).trans (by rw [List.map_map]; rfl))).dd L)))) fun v H1 s1 hv => by
        rw [dp_bl hv]
        exact q H1 s1
      obtain ⟨r, _, rfl⟩ := mem_row hd
      intro s0 H0 C0 cl fp
      refine rg_name 2 ?_ scCont.nd
      refine ⟨rfl, bt_nil ⟨Same.refl _, .inl ⟨rfl, _, rfl, fun s0 H0 C0 cl fp => ?_⟩⟩⟩
      exact XD.go (xd_ixT (fun _ _ => rfl) (xd_name 2 rfl hv) xd_int rfl) fun v H2 s2 hv2 => ⟨s2, hv2⟩
    · have e : whole d = false := by cases h : whole d <;> simp_all
      refine rb_ret (M := M) (xd_andF ((xd_call L GW hr FW.g FW.F.kp FW.b (xa_cons (xd_name 1 rfl hd) xa_nil) ⟨d, rfl, rfl⟩).to (by rw [e]))) fun v H1 s1 hv => ?_
      rw [dp_bl hv]
      have e2 : inB rs d = false := by cases d <;> first | rfl | exact absurd rfl hwh
      rw [← e2]
      exact q H1 s1
end
end Zn

set_option Elab.async false
set_option linter.all false
set_option maxRecDepth 100000
set_option maxHeartbeats 4000000
namespace Zn
open PySem PySem.Spec PyProof.Rows L2 Dl
/-! ### == -/
/-- what the written part says of isinstance(.., Zone) -/
structure ZI (K : PySem.W.Frag) (C : Addr) : Prop where
  ha : PySem.W.findIn K (.ref C) "__class__" = some (some (.builtin "object.__class__"))
  hn : PySem.W.specialIn K (.builtin "object.__class__") "__get__" = some (some (.builtin "getset_descriptor.__get__"))
  htk : PySem.W.takesIn K (.builtin "object.__class__") = some true
  hm : PySem.W.mroIn K C (.type "object") = some true
  yes : PySem.W.kitOne K (.ref C) (.ref C) = some true
  no : PySem.W.kitOne K (.type "list") (.ref C) = some false
def spEqZ (K : PySem.W.Frag) (C : Addr) : Sp := fun vs H Q _ => ∃ (M : List Addr) (a b : Addr) (off : Int) (rs : List Row), vs = [.ref a, .ref b] ∧ Live M H ∧ ZAt K C (hid M H) a off rs ∧
  ((∃ off' rs', ZAt K C (hid M H) b off' rs' ∧ ∀ H1, Same H H1 → Q (.bl (decide (off = off' ∧ rs = rs'))) H1) ∨ (∃ xs, H b = some (.lst xs) ∧ ∀ H1, Same H H1 → Q (.bl false) H1))
section
variable {P : Program} {w : World} {K : PySem.W.Frag} {mg : Str → Option Value} {base : Heap} {C : Addr}
/-- isinstance(o, Zone) -/
theorem xd_isZ {X : Cx} {M : List Addr} {σ : L2.St} {H : Hp} {o : Expr} {pos p1 p2 : Pos} {t : Value} {r : Bool} {v : V} (hm : X.mg "isinstance" = none) (hC : X.mg "Zone" = some (.ref C)) (ho : XV X σ H o v) (hty : TyX X.K H v t) (hup : ∀ H1, Same H H1 → TyX X.K H1 v t) (hk : PySem.W.kitOne X.K t (.ref C) = some r) (hg : Gl X "isinstance" := by rfl) (hgZ : Gl X "Zone" := by rfl)
    (he : starEach [o, .Name "Zone" p2] X.env = (false, eval o X.env) :: starEach [.Name "Zone" p2] X.env := by rfl) (he2 : starEach [.Name "Zone" p2] X.env = (false, eval (.Name "Zone" p2) X.env) :: starEach [] X.env := by rfl) (hpl : (backTo pos (starEach [.Name "Zone" p2] X.env)).any (·.1) = false := by rfl) :
    XD X M σ H (.Call (.Name "isinstance" p1) [o, .Name "Zone" p2] [] pos) (.bool r) := fun H1 s Q q =>
  re_B call_isi (ra_cons (ho H1 s _ fun H2 s2 => ra_1 (xv_glob (v := .ref C) hC rfl hgZ (by decide) H2 (Same.refl _) _ fun H3 s3 => ⟨v, .ref C, t, .ref C, r, rfl, .own C, hup H3 ((s.trans s2).trans s3), hk, q _ H3 (s2.trans s3) (.bl _)⟩) he2) he) hm (by decide +kernel) hg (by decide) (by decide) he hpl
theorem scEq : FnScope ["self", "other"] ["self", "other"] (defScope sEq) := ⟨rfl, rfl, rfl, by decide +kernel, rfl, by decide +kernel, by decide +kernel⟩
theorem ok_eq {f : Addr} {fd : FuncData} (T : Nm mg) (Z : ZT K mg C) (I : ZI K C) (F : Fun K "__eq__" "Zone.__eq__" sEq f fd) : FnOk P w K mg base CX0 1 f fd ["self", "other"] (spEqZ K C) := by
  refine F.ok scEq (fun vs H Q E h => ?_) (fun cdv A outer s H vs Q E hr h => ?_)
  · obtain ⟨M, a, b, off, rs, rfl, _⟩ := h; rfl
  · obtain ⟨M, a, b, off, rs, rfl, L, hz, h⟩ := h
    rcases h with ⟨off', rs', hz', q⟩ | ⟨xs, hb, q⟩
    · have hty : ∀ H1, Same H H1 → TyX K H1 (.ref b) (.ref C) := fun H1 s1 => by
        obtain ⟨dx, r, e1, _⟩ := hz'
        exact .base (.ins (s1 _ _ (hid_le _ _ e1)) Z.cl I.ha I.hn I.htk I.hm)
      have e : (decide (off = off') && decide (rs = rs')) = decide (off = off' ∧ rs = rs') := by rw [Bool.decide_and]
      refine rb_ret (M := M) (xd_andT (xd_isZ T.isi Z.mgC (xv_name 1 rfl) (hty H (Same.refl H)) hty I.yes) (xd_and2 (xd_eqI (xv_base ⟨_, Z⟩ hz (xv_name 0 rfl)).int (xv_base ⟨_, Z⟩ hz' (xv_name 1 rfl)).int) fun _ =>
        ((xd_eqD hr.units (xd_rows ⟨_, Z⟩ hz (xv_name 0 rfl)) (xd_rows ⟨_, Z⟩ hz' (xv_name 1 rfl)) (shaped_rows rs) (shaped_rows rs')).to (by rw [show PyData.eqv (.list (rs.map rowD)) (.list (rs'.map rowD)) = PyData.eqvAll (rs.map rowD) (rs'.map rowD) by simp [PyData.eqv], eqv_rows])))) fun v H1 s1 hv => ?_
      rw [dp_bl hv, e]
      exact q H1 s1
    · have hty : ∀ H1, Same H H1 → TyX K H1 (.ref b) (.type "list") := fun H1 s1 => .base (.lst (s1 _ _ hb))
      refine rb_ret (M := M) (xd_andF (xd_isZ T.isi Z.mgC (xv_name 1 rfl) (hty H (Same.refl H)) hty I.no)) fun v H1 s1 hv => ?_
      rw [dp_bl hv]
      exact q H1 s1
/-! ### Zone(..) -/
/-- a zone just made: neither it nor its list of rows was there before -/
def ZNew (K : PySem.W.Frag) (C : Addr) (H0 : Hp) (M : List Addr) (H1 : Hp) (y : Addr) (off : Int) (rs : List Row) : Prop := H0 y = none ∧ ∃ dx r, H0 r = none ∧ hid M H1 y = some (.ins C dx (zf off r)) ∧ Dq K (hid M H1) (.ref r) (.list (rs.map rowD))
theorem ZNew.at {K : PySem.W.Frag} {C : Addr} {H0 : Hp} {M : List Addr} {H1 : Hp} {y : Addr} {off : Int} {rs : List Row} (h : ZNew K C H0 M H1 y off rs) : ZAt K C (hid M H1) y off rs := by
  obtain ⟨_, dx, r, _, h1, h2⟩ := h
  exact ⟨dx, r, h1, h2⟩
def spInit (K : PySem.W.Frag) (C : Addr) : Sp := fun vs H Q _ => ∃ (M : List Addr) (H0 : Hp) (y dx : Addr) (off : Int) (vq : V) (sq : PyData) (items : List PyData) (cs : List (Int × Int)), vs = [.ref y, .int off, vq] ∧ H = upd (upd H0 dx (.own y)) y (.ins C dx []) ∧ H0 y = none ∧ H0 dx = none ∧ dx ≠ y ∧ Live M H0 ∧
  Dq K (hid M H0) vq sq ∧ (sq = .list items ∨ sq = .tuple items) ∧ Items items cs ∧ okR (rowsOf off cs) ∧ cs.length ≤ 1000 ∧ ∀ H1, Same H0 H1 → ZNew K C H0 M H1 y off (rowsOf off cs) → Q .non H1
theorem scInit : FnScope ["self", "offset", "changes"] ["self", "offset", "changes"] (defScope sInit) := ⟨rfl, rfl, rfl, by decide +kernel, rfl, by decide +kernel, by decide +kernel⟩
theorem ok_init {f fN fR fW fP fJ fI fF : Addr} {fd fdN fdR fdW fdP fdJ fdI fdF : FuncData} (T : Nm mg) (Z : ZT K mg C) (hG : ∃ t, mg "GREATEST_JUMP" = some (.int 720 t)) (FW : Df K mg "is_whole" sWhole ["value"] fW fdW) (FP : Df K mg "is_whole_pair" sPair ["value"] fP fdP)
    (FJ : Df K mg "jump_of" sJump ["row"] fJ fdJ) (FI : Df K mg "is_jump" sIsJump ["value"] fI fdI) (FF : Df K mg "can_follow" sFollow ["rows", "row"] fF fdF) (FR : Df K mg "rows_of" sRows ["offset", "changes"] fR fdR) (FN : Df K mg "need_integer" sNeed ["value"] fN fdN)
    {kV dc pm cd ct oc dV : Value} {od an : Option Addr} {osl : Array (Option Value)} (lk : K.lookup f = some ⟨oc, od, .func (PySem.W.fnOf "__init__" "Zone.__init__" (defArgs sInit) (defBody sInit) (defScope sInit) dV kV dc pm an cd ct), osl⟩) (hcd : PySem.W.codeIn K cd "Zone.__init__" = true) :
    FnOk P w K mg base CX0 4 f (PySem.W.fnOf "__init__" "Zone.__init__" (defArgs sInit) (defBody sInit) (defScope sInit) dV kV dc pm an cd ct) ["self", "offset", "changes"] (spInit K C) := by
  have GN : FnOk P w K mg base CX0 3 fN fdN ["value"] (spR K RNeed) := (ok_need T FW FN).mono (by decide)
  have GR : FnOk P w K mg base CX0 3 fR fdR ["offset", "changes"] (spL K RRows) := ok_rows T hG FW FP FJ FI FF FR
  refine fn_of lk hcd scInit (fun vs H Q E h => ?_) (fun A outer s H vs Q E hr h => ?_)
  · obtain ⟨M, H0, y, dx, off, vq, sq, items, cs, rfl, _⟩ := h; rfl
  · obtain ⟨M, H0, y, dx, off, vq, sq, items, cs, rfl, rfl, hy, hdx, hne, L, hq, hsq, hit, hok, hlen, q⟩ := h
    suffices h : RB (cxOf CX0 P w K mg base ["self", "offset", "changes"] "Zone.__init__" (defScope sInit) f cd A outer s (upd (upd H0 dx (.own y)) y (.ins C dx [])) E).nox (defBody sInit) { nx := fun _ H' => Q .non H', rt := Q } (start ["self", "offset", "changes"] [V.ref y, V.int off, vq]) (upd (upd H0 dx (.own y)) y (.ins C dx [])) by
      obtain ⟨t, h1, h2⟩ := h
      exact ⟨t, h1.nox, h2⟩
    have hy1 : upd H0 dx (.own y) y = none := by rw [upd_ne (Ne.symm hne)]; exact hy
    have s0 : Same H0 (upd (upd H0 dx (.own y)) y (.ins C dx [])) := (same_new hdx).trans (same_new hy1)
    have eh : hid (y :: M) (upd (upd H0 dx (.own y)) y (.ins C dx [])) = hid M (upd H0 dx (.own y)) := hid_cons hy1
    have Ly : Live (y :: M) (upd (upd H0 dx (.own y)) y (.ins C dx [])) := (L.mono (same_new hdx)).cons hy1
    have hq1 : Dq K (hid (y :: M) (upd (upd H0 dx (.own y)) y (.ins C dx []))) vq sq := by rw [eh]; exact hq.up (hid_mono (same_new hdx))
    generalize hH : upd (upd H0 dx (.own y)) y (.ins C dx []) = H at s0 Ly hq1
    have hyH : H y = some (.ins C dx []) := by rw [← hH]; exact upd_same
    -- need_integer(offset)
    refine rb_expr (M := y :: M) (d := .none) (xd_call Ly GN hr FN.g FN.F.kp FN.b (xa_cons (xd_name 1 rfl (.int off)) xa_nil) ⟨off, rfl, rfl⟩) fun H1 s1 => ?_
    have hq2 := hq1.up (hid_mono (M := y :: M) s1)
    have Ly1 := Ly.mono s1
    -- isinstance(changes, (list, tuple))
    have ist : ∀ {p1 p2 p3 p4 p5 p6 : Pos} {k3}, XD (cxOf CX0 P w K mg base ["self", "offset", "changes"] "Zone.__init__" (defScope sInit) f cd A outer s H E).nox (y :: M) (start ["self", "offset", "changes"] [V.ref y, V.int off, vq]) H1 (.Call (.Name "isinstance" p1) [.Name "changes" p2, .Tuple [.Name "list" p3, .Name "tuple" p4] k3 p5] [] p6) (.bool true) := fun {p1 p2 p3 p4 p5 p6 k3} => by
      rcases hsq with rfl | rfl
      · exact (xd_is2 (d := .list items) (r1 := true) (r2 := false) (T1 := "list") (T2 := "tuple") k_ll k_lt T.isi T.lst (by decide +kernel) T.tup (by decide +kernel) (xd_name 2 rfl hq2)).to rfl
      · exact (xd_is2 (d := .tuple items) (r1 := false) (r2 := true) (T1 := "list") (T2 := "tuple") k_tl k_tt T.isi T.lst (by decide +kernel) T.tup (by decide +kernel) (xd_name 2 rfl hq2)).to rfl
    refine rb_ifF ((xt_not (xt_val (M := y :: M) ist)).to rfl) fun H2 s2 => ?_
    -- self.base = offset
    refine rb_fld (pa := y) (dx := dx) (fs := []) (XV.go (xv_name 1 rfl) fun H3 s3 => ⟨s3 _ _ (s2 _ _ (s1 _ _ hyH)), (by decide), xv_name 0 rfl, fun H4 s4 => ?_⟩) Z.cl Z.nB
    have s24 := (s2.trans s3).trans s4
    have hq5 : Dq K (hid (y :: M) (upd H4 y (.ins C dx (putF "base" (.int off) [])))) vq sq := by rw [hid_cons_upd]; exact hq2.up (hid_mono s24)
    have L5 : Live (y :: M) (upd H4 y (.ins C dx (putF "base" (.int off) []))) := (Ly1.mono s24).upd
    have s05 : Same H0 (upd H4 y (.ins C dx (putF "base" (.int off) []))) := same_upd ((s0.trans s1).trans s24) hy
    have h5y : upd H4 y (.ins C dx (putF "base" (.int off) [])) y = some (.ins C dx [("base", .int off)]) := upd_same
    generalize upd H4 y (.ins C dx (putF "base" (.int off) [])) = H5 at hq5 L5 s05 h5y
    -- self.rows = rows_of(offset, changes)
    refine rb_fld (pa := y) (dx := dx) (fs := [("base", .int off)]) (XL.go (M := y :: M) (xl_call L5 GR hr FR.g FR.F.kp FR.b (xa_cons (xd_name 1 rfl (.int off)) (xa_cons (xd_name 2 rfl hq5) xa_nil)) ⟨off, sq, items, cs, rfl, hsq, hit, hok, hlen, rfl⟩) fun p xs H6 s6 hp6 h6 hx6 =>
      ⟨s6 _ _ h5y, (by show 1 < 1000; decide), xv_name 0 rfl, fun H7 s7 => rb_nil (q _ (same_upd ((s05.trans s6).trans s7) hy) ?_)⟩) Z.cl Z.nR
    rw [zf_put]
    have npy : p ≠ y := fun z => by rw [z, h5y] at hp6; cases hp6
    have npM : p ∉ M := fun z => (Live.tail L5) p z hp6
    refine ⟨hy, dx, p, s05.free hp6, by rw [hid_of (L.fresh hy)]; exact upd_same, .lst (xs := xs) ?_ (hx6.up ?_)⟩
    · rw [hid_of npM, upd_ne npy]
      exact s7 _ _ h6
    · have z := (hid_mono (M := y :: M) s7)
      have z2 : Same (hid (y :: M) (upd H7 y (.ins C dx (zf off p)))) (hid M (upd H7 y (.ins C dx (zf off p)))) := hid_weak
      rw [hid_cons_upd] at z2
      exact z.trans z2
/-! ### a zone is made -/
/-- the expression makes a new zone -/
def XZ (C : Addr) (X : Cx) (M : List Addr) (σ : L2.St) (H : Hp) (e : Expr) (off : Int) (rs : List Row) : Prop := ∀ H1, Same H H1 → ∀ Q : VK, (∀ y H2, Same H1 H2 → ZAt X.K C (hid M H2) y off rs → Q (.ref y) H2) → RE X e σ H1 Q
theorem XZ.go {X : Cx} {M : List Addr} {σ : L2.St} {H : Hp} {e : Expr} {off : Int} {rs : List Row} {Q : VK} (h : XZ C X M σ H e off rs) (k : ∀ y H2, Same H H2 → ZAt X.K C (hid M H2) y off rs → Q (.ref y) H2) : RE X e σ H Q := h H (Same.refl H) Q k
/-- all that making a zone wants -/
structure ZMk (P : Program) (w : World) (K : PySem.W.Frag) (mg : Str → Option Value) (base : Heap) (C f : Addr) (fd : FuncData) (et : Addr) : Prop where
  Z : ZT K mg C
  mkk : Mk K C f
  G : FnOk P w K mg base CX0 4 f fd ["self", "offset", "changes"] (spInit K C)
  b2 : Binds K fd ["self", "offset", "changes"] []
  b1 : Binds K fd ["self", "offset", "changes"] [.ref et]
  et : SqT K (fun _ => none) et []
theorem xzn_make {X : Cx} {M : List Addr} {σ : L2.St} {H : Hp} {a b : Expr} {pos p1 : Pos} {off : Int} {sq : PyData} {items : List PyData} {cs : List (Int × Int)} {f et : Addr} {fd : FuncData} (L : Live M H) (W : ZMk X.prog X.w X.K X.mg X.base C f fd et) (hr : Room 5 X.A)
    (ha : XD X M σ H a (.int off)) (hb : XD X M σ H b sq) (hsq : sq = .list items ∨ sq = .tuple items) (hit : Items items cs) (hok : okR (rowsOf off cs)) (hlen : cs.length ≤ 1000) (hg : Gl X "Zone" := by rfl)
    (he : starEach [a, b] X.env = (false, eval a X.env) :: starEach [b] X.env := by rfl) (he2 : starEach [b] X.env = (false, eval b X.env) :: starEach [] X.env := by rfl) (hpl : (backTo pos (starEach [b] X.env)).any (·.1) = false := by rfl) : ∀ H1, Same H H1 → ∀ Q : VK, (∀ y H0 H2, Same H1 H0 → Same H0 H2 → ZNew X.K C H0 M H2 y off (rowsOf off cs) → Q (.ref y) H2) → RE X (.Call (.Name "Zone" p1) [a, b] [] pos) σ H1 Q := fun H1 s Q q =>
  re_make W.mkk W.G hr W.Z.mgC W.b2 .nil (ra_cons (ha H1 s _ fun v H2 s2 hv => ra_1 (hb H2 (s.trans s2) _ fun u H3 s3 hu y dx hy hdx hne => by
    rw [dp_int hv]
    refine ⟨M, H3, y, dx, off, u, sq, items, cs, rfl, rfl, hy, hdx, hne, L.mono ((s.trans s2).trans s3), hu, hsq, hit, hok, hlen, fun H4 s4 hz => ⟨rfl, q y H3 H4 (s2.trans s3) s4 hz⟩⟩) he2) he) hg (by decide) he hpl
theorem xz_make {X : Cx} {M : List Addr} {σ : L2.St} {H : Hp} {a b : Expr} {pos p1 : Pos} {off : Int} {sq : PyData} {items : List PyData} {cs : List (Int × Int)} {f et : Addr} {fd : FuncData} (L : Live M H) (W : ZMk X.prog X.w X.K X.mg X.base C f fd et) (hr : Room 5 X.A)
    (ha : XD X M σ H a (.int off)) (hb : XD X M σ H b sq) (hsq : sq = .list items ∨ sq = .tuple items) (hit : Items items cs) (hok : okR (rowsOf off cs)) (hlen : cs.length ≤ 1000) (hg : Gl X "Zone" := by rfl)
    (he : starEach [a, b] X.env = (false, eval a X.env) :: starEach [b] X.env := by rfl) (he2 : starEach [b] X.env = (false, eval b X.env) :: starEach [] X.env := by rfl) (hpl : (backTo pos (starEach [b] X.env)).any (·.1) = false := by rfl) : XZ C X M σ H (.Call (.Name "Zone" p1) [a, b] [] pos) off (rowsOf off cs) := fun H1 s Q q =>
  xzn_make L W hr ha hb hsq hit hok hlen hg he he2 hpl H1 s Q fun y H0 H2 s1 s2 hz => q y H2 (s1.trans s2) hz.at
theorem xz_make1 {X : Cx} {M : List Addr} {σ : L2.St} {H : Hp} {a : Expr} {pos p1 : Pos} {off : Int} {f et : Addr} {fd : FuncData} (L : Live M H) (W : ZMk X.prog X.w X.K X.mg X.base C f fd et) (hr : Room 5 X.A)
    (ha : XD X M σ H a (.int off)) (hg : Gl X "Zone" := by rfl) (he : starEach [a] X.env = (false, eval a X.env) :: starEach [] X.env := by rfl) (hpl : (backTo pos (starEach [] X.env)).any (·.1) = false := by rfl) : XZ C X M σ H (.Call (.Name "Zone" p1) [a] [] pos) off [] := fun H1 s Q q =>
  re_make (dvs := [.ref et]) W.mkk W.G hr W.Z.mgC W.b1 (.cons rfl .nil) (ra_1 (ha H1 s _ fun v H2 s2 hv y dx hy hdx hne => by
    rw [dp_int hv]
    refine ⟨M, H2, y, dx, off, .ref et, .tuple [], [], [], rfl, rfl, hy, hdx, hne, L.mono (s.trans s2), .tup (same_seqT (fun _ _ z => by cases z) W.et) .nil, .inr rfl, ⟨rfl, fun i it z => by simp at z⟩, fun k r z => by simp [rowsOf] at z, Nat.zero_le _, fun H4 s4 hz => ⟨rfl, q y H4 (s2.trans s4) hz.at⟩⟩) he) hg (by decide) he hpl
end
end Zn

set_option Elab.async false
set_option linter.all false
set_option maxRecDepth 100000
set_option maxHeartbeats 4000000
namespace Zn
open PySem PySem.Spec PyProof.Rows L2 Dl
section
variable {X : Cx} {M : List Addr} {σ : L2.St} {H H' : Hp} {e a b o ie : Expr} {d : PyData} {ds : List PyData} {pos p1 p2 p3 : Pos} {D : Ends} {rest : List Stmt} {v : V} {xs : List V}
/-! ### lists by the values themselves -/
theorem xv_lenS {p : Addr} (hm : X.mg "len" = none) (ha : XV X σ H e (.ref p)) (hS : SqL X.K H p xs) (hg : Gl X "len" := by rfl) (he : starEach [e] X.env = (false, eval e X.env) :: starEach [] X.env := by rfl) (hpl : (backTo pos (starEach [] X.env)).any (·.1) = false := by rfl) :
    XV X σ H (.Call (.Name "len" p1) [e] [] pos) (.int xs.length) := fun H1 s Q q =>
  re_B call_len_seq (ra_1 (ha H1 s _ fun H2 s2 => ⟨p, xs, rfl, .inl ((s.trans s2).seq hS), q H2 s2⟩) he) hm PySem.boot_len hg (by decide) (by decide) he hpl
theorem xv_ixS {p : Addr} {n : Int} (hs : PlainIx b) (ha : XV X σ H a (.ref p)) (hS : SqL X.K H p xs) (hb : XV X σ H b (.int n)) (h : atI xs n = some v) : XV X σ H (.Subscript a b pos) v := fun H1 s Q q =>
  ⟨_, pe_ix ix_list re_ re_ hs, ha H1 s _ fun H2 s2 => hb H2 (s.trans s2) _ fun H3 s3 => ⟨p, xs, n, v, rfl, rfl, ((s.trans s2).trans s3).seq hS, h, q H3 (s2.trans s3)⟩⟩
/-- o[i] = e -/
theorem rb_setIx {l : Addr} {n : Int} {j : Nat} (hl : H l = some (.lst xs)) (he : XD X M σ H e d) (ho : XV X σ H o (.ref l)) (hi : XV X σ H ie (.int n)) (hj : ixN xs.length n = some j) (k : ∀ v H1, Same H H1 → Dq X.K (hid M H1) v d → RB X rest D σ (upd H1 l (.lst (xs.set j v))))
    (hs : swapsWithSole [.Subscript o ie p1] e pos.line X.env = pure false := by rfl) (hw : swappedStores [.Subscript o ie p1] e X.env = pure none := by rfl) (h1 : (assignEach [.Subscript o ie p1] X.env).map (·.2) = [assign (.Subscript o ie p1) X.env] := by rfl)
    (hg : PG X (.Subscript o ie p1) (gSub (RE X o) (RE X ie) rSetL) := by exact pg_sub re_ re_ set_list) : RB X (.Assign [.Subscript o ie p1] e pos :: rest) D σ H :=
  rb_asgR (he.go fun v H1 s1 hv => ⟨_, hg, ho H1 s1 _ fun H2 s2 => hi H2 (s1.trans s2) _ fun H3 s3 => ⟨l, xs, n, j, rfl, rfl, ((s1.trans s2).trans s3) _ _ hl, hj, k v H3 ((s1.trans s2).trans s3) (hv.up (hid_mono (s2.trans s3)))⟩⟩) hs hw h1
theorem xd_pow {m n : Int} (ha : XD X M σ H a (.int m)) (hb : XD X M σ H b (.int n)) (hc : CPow m n) : XD X M σ H (.BinOp a .Pow b pos) (.int (m ^ n.toNat)) := xd_binI op_pow ha hb hc
theorem xd_mod {m n : Int} (ha : XD X M σ H a (.int m)) (hb : XD X M σ H b (.int n)) (hc : 0 < n) : XD X M σ H (.BinOp a .Mod b pos) (.int (m % n)) := xd_binI op_mod ha hb hc
theorem xd_div {m n : Int} (ha : XD X M σ H a (.int m)) (hb : XD X M σ H b (.int n)) (hc : CDivW m n) : XD X M σ H (.BinOp a .FloorDiv b pos) (.int (m / n)) := xd_binI op_fdivW ha hb hc
end
abbrev sCell : Stmt := top 52
abbrev sBag : Stmt := top 53
abbrev sTake : Stmt := top 54
/-- the bag: a great rest, a seed, a count up to n -/
def BagAt (H : Hp) (b : Addr) (n : Nat) : Prop := ∃ (g m c : Int), H b = some (.lst [.int g, .int m, .int c]) ∧ 0 ≤ m ∧ m < 2147483648 ∧ 0 ≤ c ∧ c ≤ n
theorem BagAt.up {H H' : Hp} {b : Addr} {n n' : Nat} (h : BagAt H b n) (s : Same H H') (hn : n ≤ n') : BagAt H' b n' := by
  obtain ⟨g, m, c, h1, h2, h3, h4, h5⟩ := h
  exact ⟨g, m, c, s _ _ h1, h2, h3, h4, by omega⟩
/-- all but b stands -/
def SameB (b : Addr) (H H' : Hp) : Prop := ∀ a o, a ≠ b → H a = some o → H' a = some o
theorem SameB.of {b : Addr} {H H' : Hp} (s : Same H H') : SameB b H H' := fun a o _ e => s a o e
theorem SameB.trans {b : Addr} {H H1 H2 : Hp} (s : SameB b H H1) (t : SameB b H1 H2) : SameB b H H2 := fun a o n e => t a o n (s a o n e)
theorem SameB.upd {b : Addr} {H H' : Hp} {o : HO} (s : SameB b H H') : SameB b H (upd H' b o) := fun a u n e => by rw [upd_ne n]; exact s a u n e
theorem SameB.hid {b : Addr} {M : List Addr} {H H' : Hp} (s : SameB b H H') (h : b ∈ M) : Same (hid M H) (hid M H') := fun a o e => by
  have n : a ∉ M := fun z => by unfold Dl.hid at e; rw [if_pos z] at e; cases e
  have nb : a ≠ b := fun z => n (z ▸ h)
  rw [hid_of n]
  exact s a o nb (hid_le _ _ e)
theorem SameB.live {b : Addr} {M : List Addr} {H H' : Hp} (s : SameB b H H') (L : Live M H) (hb : H' b ≠ none) : Live M H' := fun a ha z => by
  by_cases e : a = b
  · subst e; exact hb z
  · cases q : H a with
    | none => exact L a ha q
    | some o => rw [s a o e q] at z; cases z
theorem BagAt.some {H : Hp} {b : Addr} {n : Nat} (h : BagAt H b n) : H b ≠ none := by
  obtain ⟨g, m, c, h1, _⟩ := h
  rw [h1]; simp
def spCell (K : PySem.W.Frag) : Sp := fun vs H Q _ => ∃ (a : Addr) (ns : List Int) (j : Nat), vs = [.ref a, .int j] ∧ SqL K H a (ns.map V.int) ∧ ∀ (n : Int) H1, Same H H1 → Q (.int n) H1
def spBag : Sp := fun vs H Q _ => ∃ (n : Int), vs = [.int n] ∧ ∀ b H1, Same H H1 → H b = none → BagAt H1 b 0 → Q (.ref b) H1
def spTake : Sp := fun vs H Q _ => ∃ (b : Addr) (many : Int) (n : Nat), vs = [.ref b, .int many] ∧ 0 < many ∧ many.natAbs < 2 ^ 200 ∧ n ≤ 1000000 ∧ BagAt H b n ∧
  ∀ (r : Int) H1, 0 ≤ r → r < many → SameB b H H1 → BagAt H1 b (n + 1) → Q (.int r) H1
section
variable {P : Program} {w : World} {K : PySem.W.Frag} {mg : Str → Option Value} {base : Heap}
theorem scCell : FnScope ["_law_script", "_law_index"] ["_law_script", "_law_index"] (defScope sCell) := ⟨rfl, rfl, rfl, by decide +kernel, rfl, by decide +kernel, by decide +kernel⟩
theorem ok_cell {f : Addr} {fd : FuncData} (T : Nm mg) (F : Df K mg "_law_cell" sCell ["_law_script", "_law_index"] f fd) : FnOk P w K mg base CX0 1 f fd ["_law_script", "_law_index"] (spCell K) := by
  refine F.F.ok scCell (fun vs H Q E h => ?_) (fun cdv A outer s H vs Q E hr h => ?_)
  · obtain ⟨a, ns, j, rfl, _⟩ := h; rfl
  · obtain ⟨a, ns, j, rfl, hS, q⟩ := h
    refine rb_if (xt_cmpI (M := []) op_lt (xv_name 1 rfl).int (xv_lenS T.len (xv_name 0 rfl) hS).int) (fun e H1 s1 => ?_) (fun e H1 s1 => rb_nil ?_)
    · have hj : j < ns.length := by
        have z := of_decide_eq_true e
        rw [List.length_map] at z
        omega
      have ha : atI (ns.map V.int) ((j : Nat) : Int) = some (V.int ns[j]) := atI_nat (by rw [List.getElem?_map, List.getElem?_eq_getElem hj]; rfl)
      exact rb_retR (XV.go (xv_ixS (fun _ _ => rfl) (xv_name 0 rfl) (s1.seq hS) (xv_name 1 rfl) ha) fun H2 s2 => q _ H2 (s1.trans s2))
    · exact rb_ret (M := []) (xd_add (xd_mul xd_int (xv_name 1 rfl).int (.inl ⟨by decide, by decide⟩)) xd_int) fun v H2 s2 hv => by
        rw [dp_int hv]
        exact q _ H2 (s1.trans s2)
theorem scBag : FnScope ["_law_cell_here"] ["_law_cell_here"] (defScope sBag) := ⟨rfl, rfl, rfl, by decide +kernel, rfl, by decide +kernel, by decide +kernel⟩
theorem ok_bag {f : Addr} {fd : FuncData} (T : Nm mg) (F : Df K mg "_law_bag" sBag ["_law_cell_here"] f fd) : FnOk P w K mg base CX0 1 f fd ["_law_cell_here"] spBag := by
  refine F.F.ok scBag (fun vs H Q E h => ?_) (fun cdv A outer s H vs Q E hr h => ?_)
  · obtain ⟨n, rfl, _⟩ := h; rfl
  · obtain ⟨n, rfl, q⟩ := h
    refine rb_retR (XL.go (M := []) (xl_lst Live.nil (xa_cons (xd_max T.max (xa_cons xd_int (xa_cons (xd_sub (xv_name 0 rfl).int (xd_pow xd_int xd_int ⟨by decide, by decide, by decide⟩)) xa_nil))) (xa_cons (xd_mod (xv_name 0 rfl).int xd_int (by decide)) (xa_cons xd_int xa_nil)))) fun p xs H1 s1 hp h1 hx => ?_)
    cases hx with
    | cons a1 hx => cases hx with
      | cons a2 hx => cases hx with
        | cons a3 hx =>
          cases hx
          rw [dp_int a1, dp_int a2, dp_int a3] at h1
          exact q p H1 s1 hp ⟨_, _, _, h1, by omega, by omega, by decide, by decide⟩
theorem scTake : FnScope ["_law_bag_here", "_law_many", "_law_digit", "_law_mixed"] ["_law_bag_here", "_law_many"] (defScope sTake) := ⟨rfl, rfl, rfl, by decide +kernel, rfl, by decide +kernel, by decide +kernel⟩
theorem cdiv {m n : Int} (h : 0 < n) (h2 : n.natAbs < 2 ^ 200) : CDivW m n := wide_div h h2 (by decide) (by decide)
theorem ok_take {f : Addr} {fd : FuncData} (F : Df K mg "_law_take" sTake ["_law_bag_here", "_law_many"] f fd) : FnOk P w K mg base CX0 1 f fd ["_law_bag_here", "_law_many"] spTake := by
  refine F.F.ok scTake (fun vs H Q E h => ?_) (fun cdv A outer s H vs Q E hr h => ?_)
  · obtain ⟨b, many, n, rfl, _⟩ := h; rfl
  · obtain ⟨b, many, n, rfl, hm, hm2, hn, ⟨g, m, c, hb, m0, m1, c0, c1⟩, q⟩ := h
    have at0 : ∀ {x y z : V}, atI [x, y, z] 0 = some x := fun {x y z} => rfl
    have at1 : ∀ {x y z : V}, atI [x, y, z] 1 = some y := fun {x y z} => rfl
    have at2 : ∀ {x y z : V}, atI [x, y, z] 2 = some z := fun {x y z} => rfl
    refine rb_if (xt_cmpI (M := []) op_gt (xv_ixS (fun _ _ => rfl) (xv_name 0 rfl) (SqL.of hb) xv_int at0).int xd_int) (fun e H1 s1 => ?_) (fun e H1 s1 => rb_nil ?_)
    · have hb1 := s1 _ _ hb
      refine rb_set 2 (M := []) (xd_mod (xv_ixS (fun _ _ => rfl) (xv_name 0 rfl) (SqL.of hb1) xv_int at0).int (xv_name 1 rfl).int hm) (fun v H2 s2 hv => ?_) scTake.nd
      have ev := dp_int hv
      subst ev
      have hb2 := s2 _ _ hb1
      refine rb_setIx (M := []) (n := 0) (j := 0) hb2 (xd_div (xv_ixS (fun _ _ => rfl) (xv_name 0 rfl) (SqL.of hb2) xv_int at0).int (xv_name 1 rfl).int (cdiv hm hm2)) (xv_name 0 rfl) xv_int rfl fun v H3 s3 hv => ?_
      have ev := dp_int hv
      subst ev
      refine rb_retR (XV.go (xv_name 2 rfl) fun H4 s4 => q _ H4 (Int.emod_nonneg _ (by omega)) (Int.emod_lt_of_pos _ hm) ((((SameB.of s1).trans (.of s2)).trans (.of s3)).upd.trans (.of s4)) ⟨g / many, m, c, s4 _ _ upd_same, m0, m1, c0, by omega⟩)
    · have hb1 := s1 _ _ hb
      refine rb_setIx (M := []) (n := 2) (j := 2) hb1 (xd_add (xv_ixS (fun _ _ => rfl) (xv_name 0 rfl) (SqL.of hb1) xv_int at2).int xd_int) (xv_name 0 rfl) xv_int rfl fun v H2 s2 hv => ?_
      have ev := dp_int hv
      subst ev
      have hb3 : upd H2 b (.lst [V.int g, V.int m, V.int (c + 1)]) b = some (.lst [V.int g, V.int m, V.int (c + 1)]) := upd_same
      have sB : SameB b H (upd H2 b (.lst [V.int g, V.int m, V.int (c + 1)])) := ((SameB.of s1).trans (.of s2)).upd
      show RB _ _ _ _ (upd H2 b (.lst [V.int g, V.int m, V.int (c + 1)]))
      generalize upd H2 b (.lst [V.int g, V.int m, V.int (c + 1)]) = H3 at hb3 sB
      refine rb_set 3 (M := []) (xd_mod (xd_pow (xd_add (xd_add (xv_ixS (fun _ _ => rfl) (xv_name 0 rfl) (SqL.of hb3) xv_int at1).int (xd_mul xd_int (xv_ixS (fun _ _ => rfl) (xv_name 0 rfl) (SqL.of hb3) xv_int at2).int (.inl ⟨by decide, by decide⟩))) xd_int) xd_int ⟨by decide, by decide, by omega⟩) xd_int (by decide)) (fun v H4 s4 hv => ?_) scTake.nd
      have ev := dp_int hv
      subst ev
      generalize hx : ((m + 452930477 * (c + 1) + 487) ^ (5 : Int).toNat % 2147483647 : Int) = x1
      have x0 : 0 ≤ x1 := by rw [← hx]; exact Int.emod_nonneg _ (by decide)
      have x2 : x1 < 2147483647 := by rw [← hx]; exact Int.emod_lt_of_pos _ (by decide)
      have hb4 := s4 _ _ hb3
      refine rb_set 3 (M := []) (xd_mod (xd_pow (xd_add (xv_name 3 rfl).int (xd_mul xd_int (xv_ixS (fun _ _ => rfl) (xv_name 0 rfl) (SqL.of hb4) xv_int at2).int (.inl ⟨by decide, by decide⟩))) xd_int ⟨by decide, by decide, by omega⟩) xd_int (by decide)) (fun v H5 s5 hv => ?_) scTake.nd
      have ev := dp_int hv
      subst ev
      refine rb_ret (M := []) (xd_mod (xd_div (xv_name 3 rfl).int xd_int (cdiv (by decide) (by decide))) (xv_name 1 rfl).int hm) fun v H6 s6 hv => ?_
      rw [dp_int hv]
      exact q _ H6 (Int.emod_nonneg _ (by omega)) (Int.emod_lt_of_pos _ hm) (((sB.trans (.of s4)).trans (.of s5)).trans (.of s6)) ⟨g, m, c + 1, s6 _ _ (s5 _ _ hb4), m0, m1, by omega, by omega⟩
end
end Zn

set_option Elab.async false
set_option linter.all false
set_option maxRecDepth 100000
set_option maxHeartbeats 8000000
namespace Zn
open PySem PySem.Spec PyProof.Rows L2 Dl
/-! ### plans -/
abbrev Step := Int × Int
def stepD (s : Step) : PyData := .tuple [.int s.1, .int s.2]
def planD (f : Int) (st : List Step) : PyData := .tuple [.int f, .list (st.map stepD)]
def okJ (j : Int) : Prop := j ≠ 0 ∧ -720 ≤ j ∧ j ≤ 720
def gapJ (s t : Step) : Prop := ab s.2 + ab t.2 < t.1 - s.1
def okS (st : List Step) : Prop := (∀ s ∈ st, okJ s.2) ∧ ∀ (k : Nat) (s t : Step), st[k]? = some s → st[k + 1]? = some t → gapJ s t
def bigS (n : Int) (st : List Step) : Prop := ∀ s ∈ st, -n ≤ s.1 ∧ s.1 ≤ n
structure PlanOk (f : Int) (st : List Step) : Prop where
  len : st.length ≤ 19
  ok : okS st
  f0 : -850 ≤ f
  f1 : f ≤ 850
  big : bigS 2000000000000 st
theorem okS_nil : okS [] := ⟨fun _ h => by simp at h, fun k s t h => by simp at h⟩
theorem okS_one {t : Step} (h : okJ t.2) : okS [t] := ⟨fun s hs => by rw [List.mem_singleton.mp hs]; exact h, fun k s u h1 h2 => by simp at h2⟩
theorem okS_snoc {st : List Step} {l t : Step} (h : okS st) (hl : st.getLast? = some l) (hj : okJ t.2) (hg : gapJ l t) : okS (st ++ [t]) := by
  refine ⟨fun s hs => ?_, fun k s u h1 h2 => ?_⟩
  · rcases List.mem_append.mp hs with z | z
    · exact h.1 s z
    · rw [List.mem_singleton.mp z]; exact hj
  · have hk : k + 1 < (st ++ [t]).length := (List.getElem?_eq_some_iff.mp h2).1
    rw [List.length_append, List.length_singleton] at hk
    by_cases e : k + 1 < st.length
    · rw [List.getElem?_append_left (by omega)] at h1
      rw [List.getElem?_append_left e] at h2
      exact h.2 k s u h1 h2
    · have ek : k + 1 = st.length := by omega
      rw [List.getElem?_append_left (by omega)] at h1
      rw [List.getElem?_append_right (by omega), ek, Nat.sub_self] at h2
      cases h2
      have e2 : st.getLast? = st[k]? := by rw [List.getLast?_eq_getElem?, ← ek]; rfl
      rw [e2, h1] at hl
      cases hl
      exact hg
theorem bigS_snoc {n n' : Int} {st : List Step} {t : Step} (h : bigS n st) (hn : n ≤ n') (h0 : -n' ≤ t.1) (h1 : t.1 ≤ n') : bigS n' (st ++ [t]) := fun s hs => by
  rcases List.mem_append.mp hs with z | z
  · have := h s z; omega
  · rw [List.mem_singleton.mp z]; omega
section
variable {X : Cx} {M : List Addr} {σ : L2.St} {H H' : Hp} {e a b o ie : Expr} {es : List Expr} {d : PyData} {ds : List PyData} {pos p1 p2 p3 : Pos} {D : Ends} {rest : List Stmt} {v : V} {xs : List V} {Q : VK}
theorem re_bin {op : Operator} {r : R2} (ho : OpR X (binaryOp op) r) (h : RE X a σ H fun x H1 => RE X b σ H1 fun y H2 => r x y H2 Q) : RE X (.BinOp a op b pos) σ H Q := ⟨_, pe_op ho re_ re_, h⟩
theorem re_addI (h : RE X a σ H fun x H1 => ∃ i, x = .int i ∧ RE X b σ H1 fun y H2 => ∃ j, y = .int j ∧ Q (.int (i + j)) H2) : RE X (.BinOp a .Add b pos) σ H Q :=
  re_bin op_add (re_mono h fun x H1 ⟨i, ei, h1⟩ => re_mono h1 fun y H2 ⟨j, ej, q⟩ => ⟨i, j, ei, ej, q⟩)
theorem re_subI (h : RE X a σ H fun x H1 => ∃ i, x = .int i ∧ RE X b σ H1 fun y H2 => ∃ j, y = .int j ∧ Q (.int (i - j)) H2) : RE X (.BinOp a .Sub b pos) σ H Q :=
  re_bin op_sub (re_mono h fun x H1 ⟨i, ei, h1⟩ => re_mono h1 fun y H2 ⟨j, ej, q⟩ => ⟨i, j, ei, ej, q⟩)
theorem re_mulI (h : RE X a σ H fun x H1 => ∃ i, x = .int i ∧ (-(2 ^ 64) < i ∧ i < 2 ^ 64) ∧ RE X b σ H1 fun y H2 => ∃ j, y = .int j ∧ Q (.int (i * j)) H2) : RE X (.BinOp a .Mult b pos) σ H Q :=
  re_bin op_mul (re_mono h fun x H1 ⟨i, ei, hi, h1⟩ => re_mono h1 fun y H2 ⟨j, ej, q⟩ => ⟨i, j, ei, ej, .inl hi, q⟩)
theorem at_menu {ms : List Int} {r : Int} (h0 : 0 ≤ r) (h1 : r.toNat < ms.length) : atI (ms.map V.int) r = some (V.int (ms[r.toNat])) := by
  have h : atI (ms.map V.int) ((r.toNat : Nat) : Int) = some (V.int (ms[r.toNat])) := atI_nat (by rw [List.getElem?_map, List.getElem?_eq_getElem h1]; rfl)
  rw [Int.toNat_of_nonneg h0] at h
  exact h
/-- [ints][e] -/
theorem re_menu {esl : List Expr} {n : Nat} (hs : PlainIx b) (hn : n ≤ 1000) (h : RA X esl σ H fun vs H1 => ∃ ms : List Int, vs = ms.map V.int ∧ ms.length = n ∧ ∀ l, H1 l = none → RE X b σ (upd H1 l (.lst vs)) fun y H3 => ∃ r : Int, y = .int r ∧ 0 ≤ r ∧ r < n ∧ H3 l = some (.lst vs) ∧ ∀ z, z ∈ ms → Q (.int z) H3) :
    RE X (.Subscript (.List esl p1) b pos) σ H Q :=
  ⟨_, pe_ix ix_list (pe_lst ra_) re_ hs, ra_mono h fun vs H1 ⟨ms, e1, e2, k⟩ => ⟨by rw [e1, List.length_map, e2]; exact Nat.le_trans hn (by decide), fun l hl => re_mono (k l hl) fun y H3 ⟨r, ey, r0, r1, h3, q⟩ => by
    subst ey
    have hlt : r.toNat < ms.length := by omega
    exact ⟨l, vs, r, .int (ms[r.toNat]), rfl, rfl, SqL.of h3, by rw [e1]; exact at_menu r0 hlt, q _ (List.getElem_mem hlt)⟩⟩⟩
theorem ra_int {n : Int} {Q : List V → Hp → Prop} (h : XV X σ H e (.int n)) (k : ∀ H1, Same H H1 → RA X es σ H1 fun vs H2 => Q (.int n :: vs) H2) (hs : starEach (e :: es) X.env = (false, eval e X.env) :: starEach es X.env := by rfl) : RA X (e :: es) σ H Q := ra_cons (h.go fun H1 s => k H1 s) hs
theorem re_int {n : Int} (h : XV X σ H e (.int n)) (k : ∀ H1, Same H H1 → Q (.int n) H1) : RE X e σ H Q := h.go k
end
/-- a draw -/
theorem re_take {X : Cx} {σ : L2.St} {H : Hp} {o e : Expr} {pos p1 : Pos} {Q : VK} {k n : Nat} {f b : Addr} {fd : FuncData} {many : Int} (G : FnOk X.prog X.w X.K X.mg X.base CX0 k f fd ["_law_bag_here", "_law_many"] spTake) (F : Df X.K X.mg "_law_take" sTake ["_law_bag_here", "_law_many"] f fd) (hr : Room k X.A)
    (ho : XV X σ H o (.ref b)) (he : XV X σ H e (.int many)) (hB : BagAt H b n) (q : ∀ (r : Int) H1, 0 ≤ r → r < many → SameB b H H1 → BagAt H1 b (n + 1) → Q (.int r) H1) (h0 : 0 < many := by decide) (h1 : many.natAbs < 2 ^ 200 := by decide) (hn : n ≤ 1000000 := by omega) (hg : Gl X "_law_take" := by rfl)
    (hs : starEach [o, e] X.env = (false, eval o X.env) :: starEach [e] X.env := by rfl) (hs2 : starEach [e] X.env = (false, eval e X.env) :: starEach [] X.env := by rfl) (hpl : (backTo pos (starEach [e] X.env)).any (·.1) = false := by rfl) : RE X (.Call (.Name "_law_take" p1) [o, e] [] pos) σ H Q :=
  re_call G hr F.g F.F.kp F.b (ra_cons (ho.go fun H1 s1 => ra_1 ((he.up s1).go fun H2 s2 => ⟨b, many, n, rfl, h0, h1, hn, hB.up (s1.trans s2) (Nat.le_refl _), fun r H3 r0 r1 sB hB3 => q r H3 r0 r1 ((SameB.of (s1.trans s2)).trans sB) hB3⟩) hs2) hs) hg (by decide) hs hpl
theorem sameB_new {b l : Addr} {H : Hp} {o : HO} (h : H l = none) : SameB b H (upd H l o) := SameB.of (same_new h)
theorem bag_new {H : Hp} {b l : Addr} {n : Nat} {o : HO} (h : BagAt H b n) (hl : H l = none) : BagAt (upd H l o) b n := h.up (same_new hl) (Nat.le_refl _)
theorem bag_sameB {H H' : Hp} {b : Addr} {n : Nat} (h : BagAt H b n) (s : Same H H') : BagAt H' b n := h.up s (Nat.le_refl _)
end Zn

set_option Elab.async false
set_option linter.all false
set_option maxRecDepth 100000
set_option maxHeartbeats 8000000
namespace Zn
open PySem PySem.Spec PyProof.Rows L2 Dl
theorem mem4 {z a b c d : Int} (h : z ∈ [a, b, c, d]) : z = a ∨ z = b ∨ z = c ∨ z = d := by simpa using h
section
variable {P : Program} {w : World} {K : PySem.W.Frag} {mg : Str → Option Value} {base : Heap}
theorem eqv_steps (st : List Step) : PyData.eqv (.list (st.map stepD)) (.list []) = decide (st = []) := by
  cases st with
  | nil => simp [PyData.eqv, PyData.eqvAll]
  | cons s st => simp [PyData.eqv, PyData.eqvAll]
theorem lay_steps : ∀ st : List Step, PyData.canLayAll0 (st.map stepD) = true
  | [] => by simp [PyData.canLayAll0]
  | r :: rs => by
    rw [List.map_cons]
    show (PyData.canLay0 (stepD r) && PyData.canLayAll0 (rs.map stepD)) = true
    rw [lay_steps rs]
    simp [stepD, PyData.canLay0, PyData.canLayAll0]
theorem depth_steps : ∀ st : List Step, PyData.depthAll (st.map stepD) ≤ 1
  | [] => by simp [PyData.depthAll]
  | r :: rs => by
    rw [List.map_cons]
    show max (PyData.depth (stepD r)) (PyData.depthAll (rs.map stepD)) ≤ 1
    have := depth_steps rs
    have e : PyData.depth (stepD r) = 1 := by simp [stepD, PyData.depth, PyData.depthAll]
    omega
theorem shaped_steps (st : List Step) : SeqAt.shaped (.list (st.map stepD)) = true := by
  unfold SeqAt.shaped
  have h := depth_steps st
  have e : PyData.depth (.list (st.map stepD)) = PyData.depthAll (st.map stepD) + 1 := by simp [PyData.depth]
  rw [show PyData.canLay0 (.list (st.map stepD)) = PyData.canLayAll0 (st.map stepD) by simp [PyData.canLay0], lay_steps, e]
  simp
  omega
theorem shaped_nil : SeqAt.shaped (.list []) = true := by decide +kernel
theorem mem5 {z a b c d e : Int} (h : z ∈ [a, b, c, d, e]) : z = a ∨ z = b ∨ z = c ∨ z = d ∨ z = e := by simpa using h
theorem mem10 {z a b c d e f g h i j : Int} (q : z ∈ [a, b, c, d, e, f, g, h, i, j]) : z = a ∨ z = b ∨ z = c ∨ z = d ∨ z = e ∨ z = f ∨ z = g ∨ z = h ∨ z = i ∨ z = j := by simpa using q
theorem last_step {st : List Step} {l : Step} (h : st.getLast? = some l) : atI (st.map stepD) (-1) = some (stepD l) := by
  obtain ⟨ys, rfl⟩ := List.getLast?_eq_some_iff.mp h
  rw [List.map_append]
  exact atI_last _ _
theorem ab_eq (n : Int) : ab n = (if n < 0 then -n else n) := rfl
end
end Zn

set_option Elab.async false
set_option linter.all false
set_option maxRecDepth 100000
set_option maxHeartbeats 8000000
namespace Zn
open PySem PySem.Spec PyProof.Rows L2 Dl
abbrev sLChanges : Stmt := top 0 /- not here -/
abbrev sLMade : Stmt := top 0 /- not here -/
abbrev sLSpans : Stmt := top 0 /- not here -/
/-! ### the mathematics of plans -/
def chOf : Int → List Step → List (Int × Int)
  | _, [] => []
  | o, s :: st => (s.1, o + s.2) :: chOf (o + s.2) st
def offS : Int → List Step → Int
  | o, [] => o
  | o, s :: st => offS (o + s.2) st
/-- the rows of a plan -/
def rowsP (f : Int) (st : List Step) : List Row := rowsOf f (chOf f st)
theorem ch_len : ∀ (o : Int) (st : List Step), (chOf o st).length = st.length
  | _, [] => rfl
  | o, s :: st => by unfold chOf; rw [List.length_cons, List.length_cons, ch_len]
theorem ch_snoc : ∀ (o : Int) (st : List Step) (s : Step), chOf o (st ++ [s]) = chOf o st ++ [(s.1, offS o st + s.2)]
  | _, [], s => rfl
  | o, t :: st, s => by
    show (t.1, o + t.2) :: chOf (o + t.2) (st ++ [s]) = _
    rw [ch_snoc (o + t.2) st s]
    rfl
theorem off_snoc : ∀ (o : Int) (st : List Step) (s : Step), offS o (st ++ [s]) = offS o st + s.2
  | _, [], s => rfl
  | o, t :: st, s => off_snoc (o + t.2) st s
theorem last_ch : ∀ (o : Int) (st : List Step), lastOff o (chOf o st) = offS o st
  | _, [] => rfl
  | o, s :: st => last_ch (o + s.2) st
theorem rowsP_snoc (f : Int) (st : List Step) (s : Step) : rowsP f (st ++ [s]) = rowsP f st ++ [(s.1, offS f st, offS f st + s.2)] := by
  unfold rowsP
  rw [ch_snoc, rows_snoc, last_ch]
theorem rowsP_len (f : Int) (st : List Step) : (rowsP f st).length = st.length := by unfold rowsP; rw [rows_len, ch_len]
theorem rowsP_cons (f : Int) (s : Step) (st : List Step) : rowsP f (s :: st) = (s.1, f, f + s.2) :: rowsP (f + s.2) st := rfl
theorem rowsP_get : ∀ (f : Int) (st : List Step) (k : Nat) (s : Step), st[k]? = some s → ∃ o, (rowsP f st)[k]? = some (s.1, o, o + s.2)
  | _, [], k, s, h => by simp at h
  | f, t :: st, 0, s, h => by simp at h; subst h; exact ⟨f, rfl⟩
  | f, t :: st, k + 1, s, h => by
    obtain ⟨o, ho⟩ := rowsP_get (f + t.2) st k s (by simpa using h)
    exact ⟨o, by rw [rowsP_cons]; simpa using ho⟩
theorem ab_le {j : Int} (h : okJ j) : isJumpB j = true := by
  unfold isJumpB ab
  unfold okJ at h
  simp
  refine ⟨h.1, ?_⟩
  split <;> omega
/-- a plan's rows pass all checks -/
theorem okR_of {f : Int} {st : List Step} (h : okS st) : okR (rowsP f st) := by
  intro k r hr
  have hk : k < st.length := by rw [← rowsP_len f st]; exact (List.getElem?_eq_some_iff.mp hr).1
  obtain ⟨o, ho⟩ := rowsP_get f st k st[k] (List.getElem?_eq_getElem hk)
  rw [hr] at ho
  cases ho
  have ej : jmp (st[k].1, o, o + st[k].2) = st[k].2 := by show o + st[k].2 - o = _; omega
  refine ⟨by rw [ej]; exact ab_le (h.1 _ (List.getElem_mem hk)), ?_⟩
  unfold followB
  cases k with
  | zero => rfl
  | succ k =>
    have hk2 : k < st.length := by omega
    obtain ⟨o2, ho2⟩ := rowsP_get f st k st[k] (List.getElem?_eq_getElem hk2)
    have hl : ((rowsP f st).take (k + 1)).getLast? = some (st[k].1, o2, o2 + st[k].2) := by
      rw [take_snoc ho2, List.getLast?_append]
      simp
    rw [hl]
    have ej2 : jmp (st[k].1, o2, o2 + st[k].2) = st[k].2 := by show o2 + st[k].2 - o2 = _; omega
    show decide (ab (jmp (st[k].1, o2, o2 + st[k].2)) + ab (jmp (st[k + 1].1, o, o + st[k + 1].2)) < st[k + 1].1 - st[k].1) = true
    rw [ej, ej2]
    exact decide_eq_true (h.2 k _ _ (List.getElem?_eq_getElem hk2) (List.getElem?_eq_getElem hk))
def RLChanges (ds es : List PyData) : Prop := ∃ (f : Int) (st : List Step), ds = [planD f st] ∧ st.length ≤ 1000 ∧ es = (chOf f st).map stepD
theorem items_ch : ∀ cs : List (Int × Int), Items (cs.map stepD) cs := fun cs => ⟨by rw [List.length_map], fun i it h => by
  rw [List.getElem?_map] at h
  cases e : cs[i]? with
  | none => rw [e] at h; cases h
  | some c => rw [e] at h; cases h; exact ⟨c, rfl, .inl rfl⟩⟩
theorem step_at {K : PySem.W.Frag} {H : Hp} {v : V} {s : Step} (h : Dq K H v (stepD s)) : ∃ p, v = .ref p ∧ SqT K H p [.int s.1, .int s.2] := by
  obtain ⟨p, xs, rfl, hp, hx⟩ := dp_tup h
  cases hx with
  | cons a1 hx => cases hx with
    | cons a2 hx => cases hx; rw [dp_int a1, dp_int a2] at hp; exact ⟨p, rfl, hp⟩
theorem map_get {α : Type} {g : α → PyData} {xs : List α} {k : Nat} {d : PyData} (h : (xs.map g)[k]? = some d) : ∃ x, xs[k]? = some x ∧ d = g x := by
  rw [List.getElem?_map] at h
  cases e : xs[k]? with
  | none => rw [e] at h; cases h
  | some x => rw [e] at h; cases h; exact ⟨x, rfl, rfl⟩
section
variable {X : Cx} {M : List Addr} {σ : L2.St} {H H' : Hp} {e a b o ie : Expr} {pos p1 p2 p3 : Pos} {D : Ends} {rest : List Stmt}
theorem rb_parR (i j : Nat) {x y : Str} {px py pt : Pos} {kt k2 pt2} (ha : RA X [a, b] σ H fun vs H1 => ∃ v w, vs = [v, w] ∧ RB X rest D ((σ.set i (some v)).set j (some w)) H1) (hN : X.N.Nodup)
    (hw : swappedStores [.Tuple [.Name x px, .Name y py] kt pt] (.Tuple [a, b] k2 pt2) X.env = pure (some [x, y]) := by rfl) (hc : X.calm = true := by rfl) (hi : X.N[i]? = some x := by rfl) (hj : X.N[j]? = some y := by rfl) (hij : i ≠ j := by decide)
    (hx : X.env.scope.names.lookup x = some .local := by rfl) (hy : X.env.scope.names.lookup y = some .local := by rfl)
    (hs : swapsWithSole [.Tuple [.Name x px, .Name y py] kt pt] (.Tuple [a, b] k2 pt2) pos.line X.env = pure false := by rfl) : RB X (.Assign [.Tuple [.Name x px, .Name y py] kt pt] (.Tuple [a, b] k2 pt2) pos :: rest) D σ H :=
  ⟨_, pss_cons (ps_par hc hN hi hj hij hx hy ra_ hw hs) rb_, ha⟩
end
section
variable {P : Program} {w : World} {K : PySem.W.Frag} {mg : Str → Option Value} {base : Heap} {C : Addr}
/-! made -/
/-! spans -/
end
end Zn

set_option Elab.async false
set_option linter.all false
set_option maxRecDepth 100000
set_option maxHeartbeats 8000000
namespace Zn
open PySem PySem.Spec PyProof.Rows L2 Dl
/-! k08: is_integer, need_zone, checked_jumps, zone_with -/
abbrev sIsInt : Stmt := top 16
abbrev sNeedZ : Stmt := top 29
abbrev sChk : Stmt := top 34
abbrev sZW : Stmt := top 0 /- not here -/
theorem ch_rows : ∀ (f : Int) (st : List Step), (rowsP f st).map chD = (chOf f st).map stepD
  | _, [] => rfl
  | f, s :: st => by
    rw [rowsP_cons, List.map_cons, ch_rows]
    rfl
theorem rowsP_at : ∀ (f : Int) (st : List Step) (k : Nat) (s : Step), st[k]? = some s → (rowsP f st)[k]? = some (s.1, offS f (st.take k), offS f (st.take k) + s.2)
  | _, [], k, s, h => by simp at h
  | f, t :: st, 0, s, h => by simp at h; subst h; rfl
  | f, t :: st, k + 1, s, h => by
    rw [rowsP_cons, List.take_succ_cons]
    show (rowsP (f + t.2) st)[k]? = some (s.1, offS (f + t.2) (st.take k), _)
    exact rowsP_at (f + t.2) st k s (by simpa using h)
theorem rowsP_take : ∀ (f : Int) (st : List Step) (k : Nat), (rowsP f st).take k = rowsP f (st.take k)
  | _, [], k => by cases k <;> rfl
  | f, s :: st, 0 => rfl
  | f, s :: st, k + 1 => by rw [rowsP_cons, List.take_succ_cons, List.take_succ_cons, rowsP_cons, rowsP_take]
theorem plan0 {f : Int} {st : List Step} : atI [PyData.int f, .list (st.map stepD)] 0 = some (.int f) := rfl
theorem plan1 {f : Int} {st : List Step} : atI [PyData.int f, .list (st.map stepD)] 1 = some (.list (st.map stepD)) := rfl
theorem mem_step {st : List Step} {d : PyData} (h : d ∈ st.map stepD) : ∃ s ∈ st, d = stepD s := by
  obtain ⟨s, h1, h2⟩ := List.mem_map.mp h
  exact ⟨s, h1, h2.symm⟩
section
variable {X : Cx} {M : List Addr} {σ : L2.St} {H H' : Hp} {e a b c o : Expr} {d sq : PyData} {ds : List PyData} {pos p1 p2 : Pos} {D : Ends} {rest : List Stmt} {C pa : Addr} {off : Int} {rs : List Row}
theorem xz_v (ho : XV X σ H o (.ref pa)) (hz : ZAt X.K C (hid M H) pa off rs) : XZ C X M σ H o off rs := fun H1 s Q q => ho H1 s Q fun H2 s2 => q pa H2 s2 (hz.up (hid_mono (s.trans s2)))
/-- over a list or a tuple -/
theorem rb_forS {tg : Expr} {body : List Stmt} (hsq : sq = .list ds ∨ sq = .tuple ds) (hit : XD X M σ H e sq)
    (h : ∀ H1, Same H H1 → ∃ Pv : Nat → L2.St → Hp → Prop, Pv 0 σ H1 ∧ (∀ k σ' H', Pv k σ' H' → Same (hid M H1) (hid M H')) ∧
      (∀ k d, ds[k]? = some d → ∀ σ' H' v, Pv k σ' H' → Dq X.K (hid M H') v d → RG X tg v σ' H' fun σ2 H2 => RB X body { D with nx := Pv (k + 1), ct := Pv (k + 1), bk := RB X rest D } σ2 H2) ∧ ∀ σ' H', Pv ds.length σ' H' → RB X rest D σ' H')
    (hp : PassesOwn (model X.prog X.w) X.A X.env X.xe := by exact PassesOwn.never) (hc : X.calm = true := by rfl) (hs : ∀ x, foldedSetIterable e X.env x = pure x := by intro _; rfl) : RB X (.For tg e body [] pos :: rest) D σ H := by
  rcases hsq with rfl | rfl
  · exact rb_for hit h hp hc hs
  · exact rb_forT hit h hp hc hs
/-- isinstance(a, (list, tuple)) -/
theorem xd_isS {q1 q2 q3 : Pos} {k3} (T1 : X.mg "isinstance" = none) (T2 : X.mg "list" = none) (T3 : X.mg "tuple" = none) (hsq : sq = .list ds ∨ sq = .tuple ds) (ha : XD X M σ H a sq) (hg : Gl X "isinstance" := by rfl) (hg1 : Gl X "list" := by rfl) (hg2 : Gl X "tuple" := by rfl)
    (he : starEach [a, .Tuple [.Name "list" q1, .Name "tuple" q2] k3 q3] X.env = (false, eval a X.env) :: starEach [.Tuple [.Name "list" q1, .Name "tuple" q2] k3 q3] X.env := by rfl) (he2 : starEach [.Tuple [.Name "list" q1, .Name "tuple" q2] k3 q3] X.env = (false, eval (.Tuple [.Name "list" q1, .Name "tuple" q2] k3 q3) X.env) :: starEach [] X.env := by rfl)
    (hs1 : starEach [.Name "list" q1, .Name "tuple" q2] X.env = (false, eval (.Name "list" q1) X.env) :: starEach [.Name "tuple" q2] X.env := by rfl) (hs2 : starEach [.Name "tuple" q2] X.env = (false, eval (.Name "tuple" q2) X.env) :: starEach [] X.env := by rfl)
    (hpl : (backTo pos (starEach [.Tuple [.Name "list" q1, .Name "tuple" q2] k3 q3] X.env)).any (·.1) = false := by rfl) : XD X M σ H (.Call (.Name "isinstance" p1) [a, .Tuple [.Name "list" q1, .Name "tuple" q2] k3 q3] [] pos) (.bool true) := by
  rcases hsq with rfl | rfl
  · exact (xd_is2 (d := .list ds) (r1 := true) (r2 := false) (T1 := "list") (T2 := "tuple") k_ll k_lt T1 T2 (by decide +kernel) T3 (by decide +kernel) ha hg hg1 hg2 (by decide) (by decide) (by decide) (by decide) he he2 hs1 hs2 hpl).to rfl
  · exact (xd_is2 (d := .tuple ds) (r1 := false) (r2 := true) (T1 := "list") (T2 := "tuple") k_tl k_tt T1 T2 (by decide +kernel) T3 (by decide +kernel) ha hg hg1 hg2 (by decide) (by decide) (by decide) (by decide) he he2 hs1 hs2 hpl).to rfl
/-- l <= x <= h, as a value -/
theorem xd_chainI {op op' : CmpOp} {g g' : Int → Int → Bool} {l m n : Int} (ho : OpR X (compareOp op) (rI0 fun i j => .bl (g i j))) (ho' : OpR X (compareOp op') (rI0 fun i j => .bl (g' i j))) (ha : XD X M σ H a (.int l)) (hb : XD X M σ H b (.int m)) (hc : XD X M σ H c (.int n))
    (hm : lastMarks [op, op'] [b, c] = false := by with_unfolding_all rfl) : XD X M σ H (.Compare a [op, op'] [b, c] pos) (.bool (g l m && g' m n)) := fun H1 s Q q =>
  ⟨_, pe_chain ho ho' re_ re_ re_ hm, ha H1 s _ fun v H2 s2 hv => hb H2 (s.trans s2) _ fun u H3 s3 hu => ⟨l, m, dp_int hv, dp_int hu, g l m, rfl, by
    cases e : g l m with
    | false =>
      rw [e] at q
      exact iteF (q _ H3 (s2.trans s3) (.bl _))
    | true =>
      rw [e] at q
      exact iteT (hc H3 ((s.trans s2).trans s3) _ fun y H4 s4 hy => ⟨m, n, dp_int hu, dp_int hy, q _ H4 ((s2.trans s3).trans s4) (.bl _)⟩)⟩⟩
/-- xs + [x]: a list that is being made -/
theorem live_new {p : Addr} (L : Live M H) (s : Same H H') (h : H' p ≠ none) : Live (p :: M) H' := fun b hb => by
  rcases List.mem_cons.mp hb with z | hb
  · subst z; exact h
  · exact L.mono s b hb
end
section
variable {P : Program} {w : World} {K : PySem.W.Frag} {mg : Str → Option Value} {base : Heap} {C : Addr}
def RInt (ds : List PyData) (d : PyData) : Prop := ∃ x lo hi : Int, ds = [.int x, .int lo, .int hi] ∧ d = .bool (decide (lo ≤ x) && decide (x ≤ hi))
theorem scIsInt : FnScope ["value", "low", "high"] ["value", "low", "high"] (defScope sIsInt) := ⟨rfl, rfl, rfl, by decide +kernel, rfl, by decide +kernel, by decide +kernel⟩
theorem ok_isInt {f fW : Addr} {fd fdW : FuncData} (T : Nm mg) (FW : Df K mg "is_whole" sWhole ["value"] fW fdW) (F : Df K mg "is_integer" sIsInt ["value", "low", "high"] f fd) : FnOk P w K mg base CX0 2 f fd ["value", "low", "high"] (spR K RInt) := by
  have GW : FnOk P w K mg base CX0 1 fW fdW ["value"] (spR K RWhole) := ok_whole T FW
  refine F.F.ok scIsInt (fun vs H Q E h => ?_) (fun cdv A outer s H vs Q E hr h => ?_)
  · obtain ⟨M, ds, d, L, hd, ⟨x, lo, hi, rfl, _⟩, q⟩ := h
    exact dpa_len hd
  · obtain ⟨M, ds, d, L, hd, ⟨x, lo, hi, rfl, rfl⟩, q⟩ := h
    cases hd with
    | cons h1 hd => cases hd with
      | cons h2 hd => cases hd with
        | cons h3 hd =>
          cases hd
          exact rb_ret (M := M) (xd_andT (xd_call L GW hr FW.g FW.F.kp FW.b (xa_cons (xd_name 0 rfl h1) xa_nil) ⟨.int x, rfl, rfl⟩) (xd_one (xd_chainI op_le op_le (xd_name 1 rfl h2) (xd_name 0 rfl h1) (xd_name 2 rfl h3)))) q
def spNeedZ (K : PySem.W.Frag) (C : Addr) : Sp := fun vs H Q _ => ∃ (M : List Addr) (a : Addr) (off : Int) (rs : List Row), vs = [.ref a] ∧ ZAt K C (hid M H) a off rs ∧ ∀ H1, Same H H1 → Q .non H1
theorem scNeedZ : FnScope ["value"] ["value"] (defScope sNeedZ) := ⟨rfl, rfl, rfl, by decide +kernel, rfl, by decide +kernel, by decide +kernel⟩
theorem ok_needZ {f : Addr} {fd : FuncData} (T : Nm mg) (Z : ZT K mg C) (I : ZI K C) (F : Df K mg "need_zone" sNeedZ ["value"] f fd) : FnOk P w K mg base CX0 1 f fd ["value"] (spNeedZ K C) := by
  refine F.F.ok scNeedZ (fun vs H Q E h => ?_) (fun cdv A outer s H vs Q E hr h => ?_)
  · obtain ⟨M, a, off, rs, rfl, _⟩ := h; rfl
  · obtain ⟨M, a, off, rs, rfl, hz, q⟩ := h
    have hty : ∀ H1, Same H H1 → TyX K H1 (.ref a) (.ref C) := fun H1 s1 => by
      obtain ⟨dx, r, e1, _⟩ := hz
      exact .base (.ins (s1 _ _ (hid_le _ _ e1)) Z.cl I.ha I.hn I.htk I.hm)
    exact rb_ifF ((xt_not (xt_val (M := M) (xd_isZ T.isi Z.mgC (xv_name 0 rfl) (hty H (Same.refl H)) hty I.yes))).to rfl) fun H1 s1 => rb_nil (q H1 s1)
/-! jumps -/
theorem any_int (ns : List Int) (n : Int) : (ns.any fun m => m == n) = decide (n ∈ ns) := by
  induction ns with
  | nil => simp
  | cons m ns ih =>
    rw [List.any_cons, ih]
    by_cases h : m = n
    · subst h; simp
    · have e : (m == n) = false := by simpa using h
      rw [e, Bool.false_or]
      have h' : n ≠ m := fun z => h z.symm
      by_cases k : n ∈ ns
      · rw [decide_eq_true k, decide_eq_true (List.mem_cons_of_mem _ k)]
      · rw [decide_eq_false k, decide_eq_false (by simp [h', k])]
theorem inI_R {X : Cx} {M : List Addr} {H : Hp} {v w : V} {n : Int} {ns : List Int} (hv : Dq X.K (hid M H) v (.int n)) (hw : Dq X.K (hid M H) w (.list (ns.map PyData.int)) ∨ Dq X.K (hid M H) w (.tuple (ns.map PyData.int))) {Q : VK} (q : Q (.bl (decide (n ∈ ns))) H) : rIn X.K false v w H Q := by
  rw [dp_int hv]
  rcases hw with hw | hw
  · obtain ⟨p, xs, rfl, hp, hx⟩ := dp_lst hw
    have e := int_all hx
    subst e
    exact ⟨p, _, rfl, .inl (SqL.of (hid_le _ _ hp)), rfl, flat_int ns, by rw [inV_int, any_int]; exact q⟩
  · obtain ⟨p, xs, rfl, hp, hx⟩ := dp_tup hw
    have e := int_all hx
    subst e
    exact ⟨p, _, rfl, .inr (same_seqT hid_le hp), rfl, flat_int ns, by rw [inV_int, any_int]; exact q⟩
theorem notInI_R {X : Cx} {M : List Addr} {H : Hp} {v w : V} {n : Int} {ns : List Int} (hv : Dq X.K (hid M H) v (.int n)) (hw : Dq X.K (hid M H) w (.list (ns.map PyData.int)) ∨ Dq X.K (hid M H) w (.tuple (ns.map PyData.int))) {Q : VK} (q : Q (.bl (!decide (n ∈ ns))) H) : rIn X.K true v w H Q := by
  rw [dp_int hv]
  rcases hw with hw | hw
  · obtain ⟨p, xs, rfl, hp, hx⟩ := dp_lst hw
    have e := int_all hx
    subst e
    exact ⟨p, _, rfl, .inl (SqL.of (hid_le _ _ hp)), rfl, flat_int ns, by rw [inV_int, any_int]; exact q⟩
  · obtain ⟨p, xs, rfl, hp, hx⟩ := dp_tup hw
    have e := int_all hx
    subst e
    exact ⟨p, _, rfl, .inr (same_seqT hid_le hp), rfl, flat_int ns, by rw [inV_int, any_int]; exact q⟩
section
variable {X : Cx} {M : List Addr} {σ : L2.St} {H : Hp} {a b : Expr} {pos : Pos} {n : Int} {ns : List Int} {sq : PyData}
theorem seq_of {K : PySem.W.Frag} {H : Hp} {w : V} (hs : sq = .list (ns.map PyData.int) ∨ sq = .tuple (ns.map PyData.int)) (h : Dq K H w sq) : Dq K H w (.list (ns.map PyData.int)) ∨ Dq K H w (.tuple (ns.map PyData.int)) := by
  rcases hs with rfl | rfl
  · exact .inl h
  · exact .inr h
theorem xt_inS (hs : sq = .list (ns.map PyData.int) ∨ sq = .tuple (ns.map PyData.int)) (ha : XD X M σ H a (.int n)) (hb : XD X M σ H b sq) (hm : behindInMarks .In b = false := by rfl) : XT X σ H (.Compare a [.In] [b] pos) (decide (n ∈ ns)) :=
  xt_cmp op_in_seq ha hb (fun H1 v w s hv hw Q q => inI_R hv (seq_of hs hw) (q H1 (Same.refl _))) hm
theorem xd_inS (hs : sq = .list (ns.map PyData.int) ∨ sq = .tuple (ns.map PyData.int)) (ha : XD X M σ H a (.int n)) (hb : XD X M σ H b sq) (hm : behindInMarks .In b = false := by rfl) : XD X M σ H (.Compare a [.In] [b] pos) (.bool (decide (n ∈ ns))) :=
  xd_cmp op_in_seq ha hb (fun H1 v w s hv hw Q q => inI_R hv (seq_of hs hw) (q _ H1 (Same.refl _) (.bl _))) hm
theorem xt_notInS (hs : sq = .list (ns.map PyData.int) ∨ sq = .tuple (ns.map PyData.int)) (ha : XD X M σ H a (.int n)) (hb : XD X M σ H b sq) (hm : behindInMarks .NotIn b = false := by rfl) : XT X σ H (.Compare a [.NotIn] [b] pos) (!decide (n ∈ ns)) :=
  xt_cmp op_notIn_seq ha hb (fun H1 v w s hv hw Q q => notInI_R hv (seq_of hs hw) (q H1 (Same.refl _))) hm
end
def okJs (js : List Int) : Prop := (∀ j ∈ js, okJ j) ∧ js.Nodup ∧ 1 ≤ js.length ∧ js.length ≤ 4
def RChk (ds es : List PyData) : Prop := ∃ (sq : PyData) (js : List Int), ds = [sq] ∧ (sq = .list (js.map PyData.int) ∨ sq = .tuple (js.map PyData.int)) ∧ okJs js ∧ es = js.map PyData.int
theorem okJ_B {j : Int} (h : okJ j) : isJumpB j = true := ab_le h
theorem scChk : FnScope ["jumps", "found", "item"] ["jumps"] (defScope sChk) := ⟨rfl, rfl, rfl, by decide +kernel, rfl, by decide +kernel, by decide +kernel⟩
theorem ok_chk {f fW fI : Addr} {fd fdW fdI : FuncData} (T : Nm mg) (hG : ∃ t, mg "GREATEST_JUMP" = some (.int 720 t)) (FW : Df K mg "is_whole" sWhole ["value"] fW fdW) (FI : Df K mg "is_jump" sIsJump ["value"] fI fdI) (F : Df K mg "checked_jumps" sChk ["jumps"] f fd) : FnOk P w K mg base CX0 2 f fd ["jumps"] (spL K RChk) := by
  have GW : FnOk P w K mg base CX0 1 fW fdW ["value"] (spR K RWhole) := ok_whole T FW
  have GI : FnOk P w K mg base CX0 1 fI fdI ["value"] (spR K RIsJump) := ok_isJump T hG FI
  refine F.F.ok scChk (fun vs H Q E h => ?_) (fun cdv A outer s H vs Q E hr h => ?_)
  · obtain ⟨M, ds, es, L, hd, ⟨sq, js, rfl, _⟩, q⟩ := h
    exact dpa_len hd
  · obtain ⟨M, ds, es, L, hd, ⟨sq, js, rfl, hsq, hjs, rfl⟩, q⟩ := h
    cases hd with
    | cons h1 h2 =>
      cases h2
      rename_i v0
      refine rb_setL 1 (xl_lst L xa_nil) (fun p xs H1 s1 hp h1p hxs => ?_) scChk.nd
      cases hxs
      have g0 : Same (hid M H) (hid (p :: M) H1) := hid_step hp s1
      have Lp : Live (p :: M) H1 := live_new L s1 (by rw [h1p]; simp)
      refine rb_forS (M := p :: M) hsq (xd_name 0 rfl (h1.up g0)) fun H3 s3 => ⟨fun k σ' H' => Same (hid (p :: M) H3) (hid (p :: M) H') ∧ Live (p :: M) H' ∧ Same H H' ∧ ∃ (a2 : Option V), σ' = [some v0, some (.ref p), a2] ∧ H' p = some (.lst ((js.take k).map V.int)),
        ⟨Same.refl _, Lp.mono s3, s1.trans s3, none, rfl, s3 _ _ h1p⟩, fun k σ' H' w => w.1, fun k it hk σ' H' v hw hv => ?_, fun σ' H' hw => ?_⟩
      · obtain ⟨z1, L4, z2, a2, rfl, hp4⟩ := hw
        obtain ⟨j, hj, rfl⟩ := map_get hk
        have hjm : j ∈ js := List.mem_of_getElem? hj
        have hnew : j ∉ js.take k := fun z => by
          have e : js = js.take k ++ j :: js.drop (k + 1) := by
            obtain ⟨hl, e⟩ := List.getElem?_eq_some_iff.mp hj
            rw [← e, List.getElem_cons_drop, List.take_append_drop]
          have nd := hjs.2.1
          rw [e, List.nodup_append] at nd
          exact nd.2.2 j z j (List.mem_cons_self ..) rfl
        have ev := dp_int hv
        subst ev
        refine rg_name 2 ?_ scChk.nd
        refine rb_ifF ((xt_or2 (xt_not (xt_val (M := p :: M) (xd_call L4 GW hr FW.g FW.F.kp FW.b (xa_cons (xv_name 2 rfl).int xa_nil) ⟨.int j, rfl, rfl⟩))) fun _ => xt_not (xt_val (M := p :: M) (xd_call L4 GI hr FI.g FI.F.kp FI.b (xa_cons (xv_name 2 rfl).int xa_nil) ⟨j, rfl, rfl⟩))).to (by rw [okJ_B (hjs.1 j hjm)]; rfl)) fun H5 s5 => ?_
        have hpM : p ∉ M := L.fresh hp
        refine rb_ifF ((xt_inS (M := M) (ns := js.take k) (.inl rfl) (xv_name 2 rfl).int (xd_name 1 rfl (.lst (by rw [hid_of hpM]; exact s5 _ _ hp4) (ints_dq _)))).to (decide_eq_false hnew)) fun H6 s6 => ?_
        have s46 := s5.trans s6
        refine rb_append (M := p :: M) (xs := (js.take k).map V.int) (List.mem_cons_self ..) (xv_name 1 rfl) (s46 _ _ hp4) (xv_name 2 rfl).int (by rw [List.length_map, List.length_take]; have := hjs.2.2.2; omega) fun v7 H7 s7 hv7 => rb_nil ?_
        have e7 := dp_int hv7
        subst e7
        have s47 := s46.trans s7
        refine ⟨?_, (L4.mono s47).upd, same_upd (z2.trans s47) hp, some (.int j), rfl, ?_⟩
        · rw [hid_cons_upd]; exact z1.trans (hid_mono s47)
        · rw [take_snoc hj, List.map_append]; exact upd_same
      · obtain ⟨z1, L4, z2, a2, rfl, hp4⟩ := hw
        rw [List.length_map, List.take_length] at hp4
        exact rb_retR (XV.go (xv_name 1 rfl) fun H5 s5 => q p _ H5 (z2.trans s5) hp (s5 _ _ hp4) (ints_dq _))
/-! zone_with -/
def spZW (K : PySem.W.Frag) (C : Addr) : Sp := fun vs H Q _ => ∃ (M : List Addr) (v : V) (f : Int) (sq : PyData) (items : List PyData) (st : List Step), vs = [.int f, v] ∧ Live M H ∧ Dq K (hid M H) v sq ∧ (sq = .list items ∨ sq = .tuple items) ∧ Items items st ∧ st.length ≤ 1000 ∧ okS st ∧
  ∀ y H1, Same H H1 → ZAt K C (hid M H1) y f (rowsP f st) → Q (.ref y) H1
end
end Zn

set_option Elab.async false
set_option linter.all false
set_option maxRecDepth 100000
set_option maxHeartbeats 8000000
namespace Dl
open PySem PySem.Spec PyProof.Rows L2
section
variable {X : Cx} {M : List Addr} {σ : L2.St} {H H' : Hp} {e a b c o elt tg iter : Expr} {ifs : List Expr} {scope : Scope} {own : List (Str × Nat)} {d d1 d2 : PyData} {ds ds2 es' : List PyData} {v : V} {pos p1 p2 p3 : Pos}
/-- [elt for tg in iter if ..], iter a tuple -/
theorem xl_compT (f : PyData → Option PyData) (L : Live M H) (hN : X.N.Nodup) (hit : XD X M σ H iter (.tuple ds)) (ok : BlkOk X.N X.env.scope scope own) (hz : ds.length ≤ 100000)
    (hst : ∀ p d v H1, d ∈ ds → H p = none → Same H H1 → Live (p :: M) H1 → Dq X.K (hid (p :: M) H1) v d → BG X scope tg v (wipe σ (own.map (·.2))) H1 fun σ2 H2 => wipe σ2 (own.map (·.2)) = wipe σ (own.map (·.2)) ∧ BT X scope ifs σ2 H2 fun k H3 =>
      Same H1 H3 ∧ ((k = true ∧ ∃ d', f d = some d' ∧ BE X scope elt σ2 H3 fun y H4 => Same H3 H4 ∧ Dq X.K (hid (p :: M) H4) y d') ∨ (k = false ∧ f d = none)))
    (hc : X.calm = true := by rfl) (hs : ∀ x, foldedSetIterable iter X.env x = pure x := by intro _; rfl) : XL X M σ H (.ListComp elt [⟨tg, iter, ifs, 0⟩] scope pos) (ds.filterMap f) := fun H1 s1 Q q =>
  ⟨_, pe_lc (own := own) hc hN (pi_tup re_) ok (fun _ _ _ _ _ => bg_) (fun _ _ _ _ _ => bt_) (fun _ _ _ _ _ => be_) hs, hit H1 s1 _ fun v H2 s2 hv => by
    obtain ⟨a, xs, rfl, ha, hx⟩ := dp_tup hv
    have L2' : Live M H2 := L.mono (s1.trans s2)
    refine ⟨a, rfl, ⟨xs, same_seqT hid_le ha⟩, fun p hp => ?_⟩
    have hp0 : H p = none := (s1.trans s2).free hp
    refine lc_tup (xs := xs) (a := a) (fun i H' => Same H2 H' ∧ ∃ acc, H' p = some (.lst acc) ∧ DqAll X.K (hid (p :: M) H') acc ((ds.take i).filterMap f)) ⟨same_new hp, [], upd_same, by simpa using DqAll.nil⟩ (fun i H' _ w => same_seqT w.1 (same_seqT hid_le ha)) (fun i x H' hi w => ?_) (fun H' w => ?_)
    · obtain ⟨sH, acc, hacc, hda⟩ := w
      obtain ⟨d, hd1, hd2⟩ := dpa_get' hx hi
      have etake : ds.take (i + 1) = ds.take i ++ [d] := by rw [List.take_add_one, hd1]; rfl
      have hlen : acc.length < sizeLine := by
        rw [dpa_len hda]
        have h1 : ((ds.take i).filterMap f).length ≤ (ds.take i).length := List.length_filterMap_le ..
        have h2 : (ds.take i).length ≤ i := by rw [List.length_take]; omega
        have h3 : i < ds.length := (List.getElem?_eq_some_iff.mp hd1).1
        have h4 : 100000 < sizeLine := by decide
        omega
      have Lp : Live (p :: M) H' := fun b hb => by
        rcases List.mem_cons.mp hb with z | hb
        · subst z; rw [hacc]; simp
        · exact L2'.mono sH b hb
      refine bg_mono (hst p d x H' (List.mem_of_getElem? hd1) hp0 ((s1.trans s2).trans sH) Lp (hd2.up (hid_step hp sH))) fun σ2 Ha ⟨hw, hbt⟩ => ⟨hw, bt_mono hbt fun k Hb ⟨sb, hk⟩ => ?_⟩
      rcases hk with ⟨hk, d', hf, hbe⟩ | ⟨hk, hf⟩
      · subst hk
        refine iteT (be_mono hbe fun y Hc ⟨sc, hy⟩ => ?_)
        have sd := sb.trans sc
        refine ⟨acc, sd _ _ hacc, hlen, fun b o e => ?_, acc ++ [y], upd_same, ?_⟩
        · rw [upd_ne (ne_of_none e hp)]
          exact sd _ _ (sH _ _ e)
        · have eh : hid (p :: M) (upd Hc p (.lst (acc ++ [y]))) = hid (p :: M) Hc := hid_upd_mem (List.mem_cons_self ..)
          rw [eh, etake, List.filterMap_append]
          have e2 : [d].filterMap f = [d'] := by simp [hf]
          rw [e2]
          exact dpa_app (hda.up (hid_mono sd)) (.cons hy .nil)
      · subst hk
        refine iteF ⟨sH.trans sb, acc, sb _ _ hacc, ?_⟩
        rw [etake, List.filterMap_append]
        have e2 : [d].filterMap f = [] := by simp [hf]
        rw [e2, List.append_nil]
        exact hda.up (hid_mono sb)
    · obtain ⟨sH, acc, hacc, hda⟩ := w
      have e1 : ds.take xs.length = ds := by rw [dpa_len hx]; exact List.take_length
      rw [e1] at hda
      refine q p acc H' (s2.trans sH) (s2.free hp) hacc (hda.up fun b o e => ?_)
      have n1 : b ∉ p :: M := fun z => by unfold hid at e; rw [if_pos z] at e; cases e
      rw [hid_of (fun z => n1 (List.mem_cons_of_mem _ z))]
      exact hid_le _ _ e⟩
/-- the greatest of some -/
def mx : List Int → Int
  | [] => 0
  | [x] => x
  | x :: y :: r => if mx (y :: r) ≤ x then x else mx (y :: r)
theorem mx_ok : ∀ {ns : List Int}, ns ≠ [] → mx ns ∈ ns ∧ ∀ y ∈ ns, y ≤ mx ns
  | [], h => absurd rfl h
  | [x], _ => ⟨List.mem_cons_self .., fun y hy => by rw [List.mem_singleton.mp hy]; exact Int.le_refl _⟩
  | x :: y :: r, _ => by
    obtain ⟨a, b⟩ := mx_ok (ns := y :: r) (by simp)
    unfold mx
    split
    · rename_i z
      refine ⟨List.mem_cons_self .., fun u hu => ?_⟩
      rcases List.mem_cons.mp hu with e | hu
      · rw [e]; exact Int.le_refl _
      · exact Int.le_trans (b u hu) z
    · rename_i z
      refine ⟨List.mem_cons_of_mem _ a, fun u hu => ?_⟩
      rcases List.mem_cons.mp hu with e | hu
      · rw [e]; omega
      · exact b u hu
theorem mx_same {ns ms : List Int} (h : ∀ k, k ∈ ns ↔ k ∈ ms) (hn : ns ≠ []) (hm : ms ≠ []) : mx ns = mx ms := by
  obtain ⟨a1, b1⟩ := mx_ok hn
  obtain ⟨a2, b2⟩ := mx_ok hm
  have := b2 _ ((h _).mp a1)
  have := b1 _ ((h _).mpr a2)
  omega
theorem xd_maxL {ns : List Int} (hm : X.mg "max" = none) (hn : ns ≠ []) (ha : XD X M σ H e (.list (ns.map PyData.int))) (hc : X.calm = true := by rfl) (hg : Gl X "max" := by rfl)
    (he : starEach [e] X.env = (false, eval e X.env) :: starEach [] X.env := by rfl) (hpl : (backTo p2 (starEach [] X.env)).any (·.1) = false := by rfl) : XD X M σ H (.Call (.Name "max" p1) [e] [] p2) (.int (mx ns)) := fun H1 s1 Q q =>
  re_B (cr_max hc) (ra_1 (ha H1 s1 _ fun v H2 s2 hv => by
    obtain ⟨a, xs, rfl, ha, hx⟩ := dp_lst hv
    have ex := ints_v hx
    subst ex
    refine ⟨a, ns, rfl, SqL.of (hid_le _ _ ha), by have := List.length_pos_iff.mpr hn; omega, fun m h1 h2 => ?_⟩
    obtain ⟨a1, b1⟩ := mx_ok hn
    have e : m = mx ns := by
      have := h2 _ a1
      have := b1 _ h1
      omega
    rw [e]
    exact q _ H2 s2 (.int _)) he) hm (by decide +kernel) hg (by decide) (by decide) he hpl
/-- sorted, as a list -/
def insI (x : Int) : List Int → List Int
  | [] => [x]
  | y :: ys => if x ≤ y then x :: y :: ys else y :: insI x ys
def isort : List Int → List Int
  | [] => []
  | x :: xs => insI x (isort xs)
theorem mem_ins (x k : Int) : ∀ ys : List Int, k ∈ insI x ys ↔ k = x ∨ k ∈ ys
  | [] => by simp [insI]
  | y :: ys => by
    unfold insI
    split
    · rw [List.mem_cons]
    · rw [List.mem_cons, mem_ins x k ys, List.mem_cons]
      constructor
      · rintro (h | h | h)
        · exact .inr (.inl h)
        · exact .inl h
        · exact .inr (.inr h)
      · rintro (h | h | h)
        · exact .inr (.inl h)
        · exact .inl h
        · exact .inr (.inr h)
theorem mem_isort (k : Int) : ∀ xs : List Int, k ∈ isort xs ↔ k ∈ xs
  | [] => Iff.rfl
  | x :: xs => by
    unfold isort
    rw [mem_ins, mem_isort k xs, List.mem_cons]
theorem asc_ins {x : Int} : ∀ {ys : List Int}, ys.Pairwise (· < ·) → x ∉ ys → (insI x ys).Pairwise (· < ·)
  | [], _, _ => List.pairwise_singleton _ _
  | y :: ys, h, n => by
    obtain ⟨h1, h2⟩ := List.pairwise_cons.mp h
    have ne : x ≠ y := fun z => n (z ▸ List.mem_cons_self ..)
    unfold insI
    split
    · refine List.pairwise_cons.mpr ⟨fun u hu => ?_, h⟩
      rcases List.mem_cons.mp hu with e | hu
      · rw [e]; omega
      · have := h1 u hu; omega
    · refine List.pairwise_cons.mpr ⟨fun u hu => ?_, asc_ins h2 fun z => n (List.mem_cons_of_mem _ z)⟩
      rcases (mem_ins x u ys).mp hu with e | hu
      · rw [e]; omega
      · exact h1 u hu
theorem asc_isort : ∀ {xs : List Int}, xs.Nodup → (isort xs).Pairwise (· < ·)
  | [], _ => .nil
  | x :: xs, h => by
    obtain ⟨h1, h2⟩ := List.nodup_cons.mp h
    exact asc_ins (asc_isort h2) fun z => h1 ((mem_isort x xs).mp z)
theorem len_ins (x : Int) : ∀ ys : List Int, (insI x ys).length = ys.length + 1
  | [] => rfl
  | y :: ys => by
    unfold insI
    split
    · rfl
    · rw [List.length_cons, len_ins x ys, List.length_cons]
theorem len_isort : ∀ xs : List Int, (isort xs).length = xs.length
  | [] => rfl
  | x :: xs => by unfold isort; rw [len_ins, len_isort xs]; rfl
end
end Dl
namespace Zn
open PySem PySem.Spec PyProof.Rows L2 Dl
/-! ### kinds -/
abbrev sKInit : Stmt := inClass (top 33) 0
abbrev sKJumps : Stmt := inClass (top 33) 1
abbrev sKApart : Stmt := inClass (top 33) 2
abbrev sKMost : Stmt := inClass (top 33) 3
abbrev sKCont : Stmt := inClass (top 33) 4
abbrev sKEq : Stmt := inClass (top 33) 5
abbrev sHas : Stmt := inClass (top 33) 6
abbrev sWhy : Stmt := inClass (top 33) 7
def kf (t : Addr) (ap mo : Int) : List (Str × V) := [("sizes", .ref t), ("distance", .int ap), ("many", .int mo)]
theorem kf_s (t : Addr) (ap mo : Int) : (kf t ap mo).lookup ("sizes" : Str) = some (.ref t) := by
  unfold kf
  simp [List.lookup]
theorem kf_d (t : Addr) (ap mo : Int) : (kf t ap mo).lookup ("distance" : Str) = some (.int ap) := by
  unfold kf
  simp [List.lookup, show (("distance" : Str) == ("sizes" : Str)) = false by decide +kernel]
theorem kf_m (t : Addr) (ap mo : Int) : (kf t ap mo).lookup ("many" : Str) = some (.int mo) := by
  unfold kf
  simp [List.lookup, show (("many" : Str) == ("sizes" : Str)) = false by decide +kernel, show (("many" : Str) == ("distance" : Str)) = false by decide +kernel]
theorem kf_none {m : Str} (t : Addr) (ap mo : Int) (h1 : (m == ("sizes" : Str)) = false) (h2 : (m == ("distance" : Str)) = false) (h3 : (m == ("many" : Str)) = false) : (kf t ap mo).lookup m = none := by
  unfold kf
  simp [List.lookup, h1, h2, h3]
theorem kf_put1 (t : Addr) (ap : Int) : putF "distance" (.int ap) [(("sizes" : Str), V.ref t)] = [(("sizes" : Str), V.ref t), (("distance" : Str), V.int ap)] := by
  show (if ("sizes" : Str) = "distance" then _ else (("sizes" : Str), V.ref t) :: [(("distance" : Str), V.int ap)]) = _
  rw [if_neg (by decide +kernel)]
theorem kf_put2 (t : Addr) (ap mo : Int) : putF "many" (.int mo) [(("sizes" : Str), V.ref t), (("distance" : Str), V.int ap)] = kf t ap mo := by
  show (if ("sizes" : Str) = "many" then _ else (("sizes" : Str), V.ref t) :: (if ("distance" : Str) = "many" then _ else (("distance" : Str), V.int ap) :: [(("many" : Str), V.int mo)])) = _
  rw [if_neg (by decide +kernel), if_neg (by decide +kernel)]
  rfl
/-- a kind as it was told -/
structure Kd where
  js : List Int
  ap : Int
  mo : Int
def floorK (js : List Int) : Int := 2 * mx (js.map ab)
structure KOk (k : Kd) : Prop where
  js : okJs k.js
  ap : floorK k.js < k.ap
  m0 : 0 ≤ k.mo
  m1 : k.mo ≤ 3
/-- at a a kind of the class at C -/
def KAt (K : PySem.W.Frag) (C : Addr) (H : Hp) (a : Addr) (k : Kd) : Prop := ∃ dx t, H a = some (.ins C dx (kf t k.ap k.mo)) ∧ Dq K H (.ref t) (.tuple ((isort k.js).map PyData.int))
theorem KAt.up {K : PySem.W.Frag} {C : Addr} {H H' : Hp} {a : Addr} {k : Kd} (h : KAt K C H a k) (s : Same H H') : KAt K C H' a k := by
  obtain ⟨dx, r, h1, h2⟩ := h
  exact ⟨dx, r, s _ _ h1, h2.up s⟩
structure KT (K : PySem.W.Frag) (mg : Str → Option Value) (C : Addr) : Prop where
  cl : Cls K C
  nS : NoAttr K C "sizes"
  nD : NoAttr K C "distance"
  nM : NoAttr K C "many"
  mgC : mg "Kind" = some (.ref C)
section
variable {X : Cx} {M : List Addr} {σ : L2.St} {H H' : Hp} {o : Expr} {pos : Pos} {K : PySem.W.Frag} {C pa : Addr} {k : Kd}
theorem xd_sizes (hZ : ∃ mg, KT X.K mg C) (h : KAt X.K C (hid M H) pa k) (ho : XV X σ H o (.ref pa)) (hb : attributeBase o "sizes" X.env (eval o X.env) = eval o X.env := by rfl) : XD X M σ H (.Attribute o "sizes" pos) (.tuple ((isort k.js).map PyData.int)) := by
  obtain ⟨dx, r, h1, h2⟩ := h
  obtain ⟨_, Z⟩ := hZ
  exact (xv_fld ho (hid_le _ _ h1) Z.cl Z.nS (kf_s r _ _) hb).dd h2
theorem xv_dist (hZ : ∃ mg, KT X.K mg C) (h : KAt X.K C (hid M H) pa k) (ho : XV X σ H o (.ref pa)) (hb : attributeBase o "distance" X.env (eval o X.env) = eval o X.env := by rfl) : XV X σ H (.Attribute o "distance" pos) (.int k.ap) := by
  obtain ⟨dx, r, h1, h2⟩ := h
  obtain ⟨_, Z⟩ := hZ
  exact xv_fld ho (hid_le _ _ h1) Z.cl Z.nD (kf_d r _ _) hb
theorem xv_many (hZ : ∃ mg, KT X.K mg C) (h : KAt X.K C (hid M H) pa k) (ho : XV X σ H o (.ref pa)) (hb : attributeBase o "many" X.env (eval o X.env) = eval o X.env := by rfl) : XV X σ H (.Attribute o "many" pos) (.int k.mo) := by
  obtain ⟨dx, r, h1, h2⟩ := h
  obtain ⟨_, Z⟩ := hZ
  exact xv_fld ho (hid_le _ _ h1) Z.cl Z.nM (kf_m r _ _) hb
end
def spKInit (K : PySem.W.Frag) (C : Addr) : Sp := fun vs H Q _ => ∃ (M : List Addr) (H0 : Hp) (y dx : Addr) (vq : V) (sq : PyData) (k : Kd), vs = [.ref y, vq, .int k.ap, .int k.mo] ∧ H = upd (upd H0 dx (.own y)) y (.ins C dx []) ∧ H0 y = none ∧ H0 dx = none ∧ dx ≠ y ∧ Live M H0 ∧
  Dq K (hid M H0) vq sq ∧ (sq = .list (k.js.map PyData.int) ∨ sq = .tuple (k.js.map PyData.int)) ∧ KOk k ∧ ∀ H1, Same H0 H1 → KAt K C (hid M H1) y k → Q .non H1
section
variable {P : Program} {w : World} {K : PySem.W.Frag} {mg : Str → Option Value} {base : Heap} {C : Addr}
theorem scKInit : FnScope ["self", "jumps", "apart", "most", "jump"] ["self", "jumps", "apart", "most"] (defScope sKInit) := ⟨rfl, rfl, rfl, by decide +kernel, rfl, by decide +kernel, by decide +kernel⟩
theorem fm_abs : ∀ js : List Int, (js.map PyData.int).filterMap (fun d => match d with | .int j => some (PyData.int (ab j)) | _ => none) = (js.map ab).map PyData.int
  | [] => rfl
  | j :: js => by rw [List.map_cons, List.filterMap_cons, List.map_cons, List.map_cons, ← fm_abs js]
theorem okJs_ne {js : List Int} (h : okJs js) : js ≠ [] := fun z => by
  have := h.2.2.1
  rw [z] at this
  simp at this
theorem ne_sort {js : List Int} (h : js ≠ []) : (isort js).map ab ≠ [] := fun z => by
  have e := congrArg List.length z
  rw [List.length_map, len_isort] at e
  exact h (List.length_eq_zero_iff.mp e)
theorem floor_sort {js : List Int} (h : js ≠ []) : 2 * mx ((isort js).map ab) = floorK js := by
  unfold floorK
  rw [mx_same (ns := (isort js).map ab) (ms := js.map ab) (fun k => ?_) (ne_sort h) (fun z => h (List.map_eq_nil_iff.mp z))]
  rw [List.mem_map, List.mem_map]
  constructor
  · rintro ⟨j, hj, e⟩; exact ⟨j, (mem_isort j js).mp hj, e⟩
  · rintro ⟨j, hj, e⟩; exact ⟨j, (mem_isort j js).mpr hj, e⟩
theorem ok_kinit {f fW fI fC fJ : Addr} {fd fdW fdI fdC fdJ : FuncData} (T : Nm mg) (hS : mg "sorted" = none) (Z : KT K mg C) (hG : ∃ t, mg "GREATEST_JUMP" = some (.int 720 t)) (hJ : ∃ t, mg "MOST_JUMPS" = some (.int 4 t)) (hM : ∃ t, mg "MOST_CHANGES" = some (.int 3 t)) (FW : Df K mg "is_whole" sWhole ["value"] fW fdW) (FI : Df K mg "is_integer" sIsInt ["value", "low", "high"] fI fdI)
    (FJ : Df K mg "is_jump" sIsJump ["value"] fJ fdJ) (FC : Df K mg "checked_jumps" sChk ["jumps"] fC fdC)
    {kV dc pm cd ct oc dV : Value} {od an : Option Addr} {osl : Array (Option Value)} (lk : K.lookup f = some ⟨oc, od, .func (PySem.W.fnOf "__init__" "Kind.__init__" (defArgs sKInit) (defBody sKInit) (defScope sKInit) dV kV dc pm an cd ct), osl⟩) (hcd : PySem.W.codeIn K cd "Kind.__init__" = true) :
    FnOk P w K mg base CX0 3 f (PySem.W.fnOf "__init__" "Kind.__init__" (defArgs sKInit) (defBody sKInit) (defScope sKInit) dV kV dc pm an cd ct) ["self", "jumps", "apart", "most"] (spKInit K C) := by
  have GW : FnOk P w K mg base CX0 2 fW fdW ["value"] (spR K RWhole) := (ok_whole T FW).mono (by decide)
  have GI : FnOk P w K mg base CX0 2 fI fdI ["value", "low", "high"] (spR K RInt) := ok_isInt T FW FI
  have GC : FnOk P w K mg base CX0 2 fC fdC ["jumps"] (spL K RChk) := ok_chk T hG FW FJ FC
  obtain ⟨tj, hJ⟩ := hJ
  obtain ⟨tm, hM⟩ := hM
  refine fn_of lk hcd scKInit (fun vs H Q E h => ?_) (fun A outer s H vs Q E hr h => ?_)
  · obtain ⟨M, H0, y, dx, vq, sq, k, rfl, _⟩ := h; rfl
  · obtain ⟨M, H0, y, dx, vq, sq, k, rfl, rfl, hy, hdx, hne, L, hq, hsq, hok, q⟩ := h
    suffices h : RB (cxOf CX0 P w K mg base ["self", "jumps", "apart", "most", "jump"] "Kind.__init__" (defScope sKInit) f cd A outer s (upd (upd H0 dx (.own y)) y (.ins C dx [])) E).nox (defBody sKInit) { nx := fun _ H' => Q .non H', rt := Q } (start ["self", "jumps", "apart", "most", "jump"] [V.ref y, vq, V.int k.ap, V.int k.mo]) (upd (upd H0 dx (.own y)) y (.ins C dx [])) by
      obtain ⟨t, h1, h2⟩ := h
      exact ⟨t, h1.nox, h2⟩
    have hjs := hok.js
    have hjl : (k.js.map PyData.int).length = k.js.length := List.length_map ..
    have hy1 : upd H0 dx (.own y) y = none := by rw [upd_ne (Ne.symm hne)]; exact hy
    have s0 : Same H0 (upd (upd H0 dx (.own y)) y (.ins C dx [])) := (same_new hdx).trans (same_new hy1)
    have eh : hid (y :: M) (upd (upd H0 dx (.own y)) y (.ins C dx [])) = hid M (upd H0 dx (.own y)) := hid_cons hy1
    have Ly : Live (y :: M) (upd (upd H0 dx (.own y)) y (.ins C dx [])) := (L.mono (same_new hdx)).cons hy1
    have hq1 : Dq K (hid (y :: M) (upd (upd H0 dx (.own y)) y (.ins C dx []))) vq sq := by rw [eh]; exact hq.up (hid_mono (same_new hdx))
    generalize hH : upd (upd H0 dx (.own y)) y (.ins C dx []) = H at s0 Ly hq1
    have hyH : H y = some (.ins C dx []) := by rw [← hH]; exact upd_same
    have lenS : ∀ {p1 p2 p3 : Pos}, XD (cxOf CX0 P w K mg base ["self", "jumps", "apart", "most", "jump"] "Kind.__init__" (defScope sKInit) f cd A outer s H E).nox (y :: M) (start ["self", "jumps", "apart", "most", "jump"] [V.ref y, vq, V.int k.ap, V.int k.mo]) H (.Call (.Name "len" p1) [.Name "jumps" p2] [] p3) (.int k.js.length) := fun {p1 p2 p3} => by
      rcases hsq with rfl | rfl
      · exact (xd_len T.len (xd_name 1 rfl hq1)).to (by rw [hjl])
      · exact (xd_lenT T.len (xd_name 1 rfl hq1)).to (by rw [hjl])
    refine rb_ifF ((xt_or2 (xt_not (xt_val (M := y :: M) (xd_isS T.isi T.lst T.tup hsq (xd_name 1 rfl hq1)))) fun _ => xt_not (xt_chainI (M := y :: M) op_le op_le xd_int lenS (xv_glob (v := .int 4) hJ ⟨tj, rfl⟩).int)).to (by
      have h1 := hjs.2.2.1
      have h2 := hjs.2.2.2
      rw [decide_eq_true (show (1 : Int) ≤ (k.js.length : Int) by omega), decide_eq_true (show (k.js.length : Int) ≤ 4 by omega)]
      rfl)) fun H1 s1 => ?_
    have hq2 := hq1.up (hid_mono (M := y :: M) s1)
    have L1 := Ly.mono s1
    refine rb_fld (pa := y) (dx := dx) (fs := []) (XD.go (M := y :: M) (xd_tupleL T.tup L1 (XL.dd (xl_sortedI (isort k.js) hS L1 (XL.dd (xl_call L1 GC hr FC.g FC.F.kp FC.b (xa_cons (xd_name 1 rfl hq2) xa_nil) ⟨sq, k.js, rfl, hsq, hjs, rfl⟩) L1) (by have := hjs.2.2.2; omega) hjs.2.1 (asc_isort hjs.2.1) (fun j => mem_isort j k.js)) L1)) fun v3 H3 s3 hv3 =>
      ⟨s3 _ _ (s1 _ _ hyH), (by decide), xv_name 0 rfl, fun H4 s4 => ?_⟩) Z.cl Z.nS
    obtain ⟨t, xs, rfl, ht, hxs⟩ := dp_tup hv3
    have s14 := s3.trans s4
    have L5 : Live (y :: M) (upd H4 y (.ins C dx (putF "sizes" (.ref t) []))) := (L1.mono s14).upd
    have s05 : Same H0 (upd H4 y (.ins C dx (putF "sizes" (.ref t) []))) := same_upd ((s0.trans s1).trans s14) hy
    have h5y : upd H4 y (.ins C dx (putF "sizes" (.ref t) [])) y = some (.ins C dx [("sizes", .ref t)]) := upd_same
    have ht5 : Dq K (hid (y :: M) (upd H4 y (.ins C dx (putF "sizes" (.ref t) [])))) (.ref t) (.tuple ((isort k.js).map PyData.int)) := by
      rw [hid_cons_upd]
      exact hv3.up (hid_mono s4)
    generalize upd H4 y (.ins C dx (putF "sizes" (.ref t) [])) = H5 at L5 s05 h5y ht5
    have ne := ne_sort (okJs_ne hjs)
    refine rb_ifF ((xt_or2 (xt_not (xt_val (M := y :: M) (xd_call L5 GW hr FW.g FW.F.kp FW.b (xa_cons (xv_name 2 rfl).int xa_nil) ⟨.int k.ap, rfl, rfl⟩))) fun _ => xt_cmpI (M := y :: M) op_le (xv_name 2 rfl).int (xd_mul xd_int (xd_maxL T.max ne (XL.dd ((xl_compT (own := [("jump", 4)]) (fun d => match d with | .int j => some (PyData.int (ab j)) | _ => none) L5 scKInit.nd
        ((xv_fld (xv_name 0 rfl) h5y Z.cl Z.nS (by simp [List.lookup])).dd ht5) (blkOk_by (own := [("jump", 4)]) (N := ["self", "jumps", "apart", "most", "jump"]) (sc := defScope sKInit) (by decide +kernel)) (by rw [List.length_map, len_isort]; have := hjs.2.2.2; omega) (fun p d v Hx hd hp sx Lp hv => ?cmp)).to (fm_abs _)) L5)) (.inl ⟨by decide, by decide⟩))).to (by
          rw [floor_sort (okJs_ne hjs), decide_eq_false (by have := hok.ap; omega)]
          rfl)) fun H6 s6 => ?_
    case cmp =>
      obtain ⟨j, _, rfl⟩ := List.mem_map.mp hd
      have ej := dp_int hv
      subst ej
      intro s0 H0 C0 cl fp
      refine rg_name 4 ?_ scKInit.nd
      refine ⟨rfl, bt_nil ⟨Same.refl _, .inl ⟨rfl, _, rfl, fun s0 H0 C0 cl fp => ?_⟩⟩⟩
      exact XD.go (xd_abs T.abs (xv_name 4 rfl).int) fun v H2 s2 hv2 => ⟨s2, hv2⟩
    have L6 := L5.mono s6
    refine rb_ifF ((xt_not (xt_val (M := y :: M) (xd_call L6 GI hr FI.g FI.F.kp FI.b (xa_cons (xv_name 3 rfl).int (xa_cons xd_int (xa_cons (xv_glob (v := .int 3) hM ⟨tm, rfl⟩).int xa_nil))) ⟨k.mo, 0, 3, rfl, rfl⟩))).to (by
      rw [decide_eq_true hok.m0, decide_eq_true hok.m1]
      rfl)) fun H7 s7 => ?_
    have s57 := s6.trans s7
    have ht7 := ht5.up (hid_mono (M := y :: M) s57)
    refine rb_fld (pa := y) (dx := dx) (fs := [("sizes", .ref t)]) (XV.go (xv_name 2 rfl) fun H8 s8 => ⟨s8 _ _ (s57 _ _ h5y), (by show 1 < 1000; decide), xv_name 0 rfl, fun H9 s9 => ?_⟩) Z.cl Z.nD
    rw [kf_put1]
    have s79 := s8.trans s9
    have ht9 : Dq K (hid (y :: M) (upd H9 y (.ins C dx [("sizes", .ref t), ("distance", .int k.ap)]))) (.ref t) (.tuple ((isort k.js).map PyData.int)) := by
      rw [hid_cons_upd]
      exact ht7.up (hid_mono s79)
    have s09 : Same H0 (upd H9 y (.ins C dx [("sizes", .ref t), ("distance", .int k.ap)])) := same_upd ((s05.trans s57).trans s79) hy
    have h9y : upd H9 y (.ins C dx [("sizes", .ref t), ("distance", .int k.ap)]) y = some (.ins C dx [("sizes", .ref t), ("distance", .int k.ap)]) := upd_same
    generalize upd H9 y (.ins C dx [("sizes", .ref t), ("distance", .int k.ap)]) = Ha at ht9 s09 h9y
    refine rb_fld (pa := y) (dx := dx) (fs := [("sizes", .ref t), ("distance", .int k.ap)]) (XV.go (xv_name 3 rfl) fun Hb sb => ⟨sb _ _ h9y, (by show 2 < 1000; decide), xv_name 0 rfl, fun Hc sc => rb_nil (q _ (same_upd ((s09.trans sb).trans sc) hy) ?_)⟩) Z.cl Z.nM
    rw [kf_put2]
    refine ⟨dx, t, by rw [hid_of (L.fresh hy)]; exact upd_same, ?_⟩
    have hz : Same (hid (y :: M) Ha) (hid (y :: M) (upd Hc y (.ins C dx (kf t k.ap k.mo)))) := by
      rw [hid_cons_upd]
      exact hid_mono (sb.trans sc)
    exact (ht9.up hz).up hid_weak
/-! properties -/
def spKD (K : PySem.W.Frag) (C : Addr) (f : Kd → PyData) : Sp := fun vs H Q _ => ∃ (M : List Addr) (a : Addr) (k : Kd), vs = [.ref a] ∧ Live M H ∧ KAt K C (hid M H) a k ∧ ∀ v H1, Same H H1 → Dq K (hid M H1) v (f k) → Q v H1
theorem scKJumps : FnScope ["self"] ["self"] (defScope sKJumps) := ⟨rfl, rfl, rfl, by decide +kernel, rfl, by decide +kernel, by decide +kernel⟩
theorem ok_kjumps {f : Addr} {fd : FuncData} (Z : KT K mg C) (F : Fun K "jumps" "Kind.jumps" sKJumps f fd) : FnOk P w K mg base CX0 1 f fd ["self"] (spKD K C fun k => .tuple ((isort k.js).map PyData.int)) := by
  refine F.ok scKJumps (fun vs H Q E h => ?_) (fun cdv A outer s H vs Q E hr h => ?_)
  · obtain ⟨M, a, k, rfl, _⟩ := h; rfl
  · obtain ⟨M, a, k, rfl, L, hk, q⟩ := h
    exact rb_ret (M := M) (xd_sizes ⟨_, Z⟩ hk (xv_name 0 rfl)) q
theorem scKApart : FnScope ["self"] ["self"] (defScope sKApart) := ⟨rfl, rfl, rfl, by decide +kernel, rfl, by decide +kernel, by decide +kernel⟩
theorem ok_kapart {f : Addr} {fd : FuncData} (Z : KT K mg C) (F : Fun K "apart" "Kind.apart" sKApart f fd) : FnOk P w K mg base CX0 1 f fd ["self"] (spKD K C fun k => .int k.ap) := by
  refine F.ok scKApart (fun vs H Q E h => ?_) (fun cdv A outer s H vs Q E hr h => ?_)
  · obtain ⟨M, a, k, rfl, _⟩ := h; rfl
  · obtain ⟨M, a, k, rfl, L, hk, q⟩ := h
    exact rb_ret (M := M) (xv_dist ⟨_, Z⟩ hk (xv_name 0 rfl)).int q
theorem scKMost : FnScope ["self"] ["self"] (defScope sKMost) := ⟨rfl, rfl, rfl, by decide +kernel, rfl, by decide +kernel, by decide +kernel⟩
theorem ok_kmost {f : Addr} {fd : FuncData} (Z : KT K mg C) (F : Fun K "most" "Kind.most" sKMost f fd) : FnOk P w K mg base CX0 1 f fd ["self"] (spKD K C fun k => .int k.mo) := by
  refine F.ok scKMost (fun vs H Q E h => ?_) (fun cdv A outer s H vs Q E hr h => ?_)
  · obtain ⟨M, a, k, rfl, _⟩ := h; rfl
  · obtain ⟨M, a, k, rfl, L, hk, q⟩ := h
    exact rb_ret (M := M) (xv_many ⟨_, Z⟩ hk (xv_name 0 rfl)).int q
end
end Zn

set_option Elab.async false
set_option linter.all false
set_option maxRecDepth 100000
set_option maxHeartbeats 8000000
namespace Dl
open PySem PySem.Spec PyProof.Rows L2
section
variable {X : Cx} {M : List Addr} {σ : L2.St} {H H' : Hp} {e a b c o : Expr} {d d1 d2 : PyData} {ds ds2 : List PyData} {v : V} {pos p1 p2 p3 tpos : Pos} {D : Ends} {rest : List Stmt}
/-- for i, x in enumerate(e): .. -/
theorem rb_enum {elts : List Expr} {kk : Nat} {body : List Stmt} (hm : X.mg "enumerate" = none) (hit : XD X M σ H e (.list ds))
    (h : ∀ H1, Same H H1 → ∃ Pv : Nat → L2.St → Hp → Prop, Pv 0 σ H1 ∧ (∀ k σ' H', Pv k σ' H' → Same (hid M H1) (hid M H')) ∧
      (∀ k d, ds[k]? = some d → ∀ σ' H' T x, Pv k σ' H' → H' T = none → Dq X.K (hid M H') x d → RG X (.Tuple elts kk tpos) (.ref T) σ' (upd H' T (.tup [.int (k : Nat), x])) fun σ2 H2 => RB X body { D with nx := Pv (k + 1), ct := Pv (k + 1), bk := RB X rest D } σ2 H2) ∧ ∀ σ' H', Pv ds.length σ' H' → RB X rest D σ' H')
    (hg : Gl X "enumerate" := by rfl) (he : starEach [e] X.env = [(false, eval e X.env)] := by rfl) (hp : PassesOwn (model X.prog X.w) X.A X.env X.xe := by exact PassesOwn.never) (hc : X.calm = true := by rfl) (hs : ∀ x, foldedSetIterable (.Call (.Name "enumerate" p1) [e] [] p2) X.env x = pure x := by intro _; rfl) :
    RB X (.For (.Tuple elts kk tpos) (.Call (.Name "enumerate" p1) [e] [] p2) body [] pos :: rest) D σ H :=
  ⟨_, pss_cons (ps_for hp hc (pi_enum hg hm ra_ he) rg_ rb_ hs) rb_, ra_1 (hit H (Same.refl H) _ fun v H1 s1 hv => by
    obtain ⟨a, xs, rfl, ha, hx⟩ := dp_lst hv
    obtain ⟨Pv, h0, hk, hst, hd⟩ := h H1 s1
    have hlen := dpa_len hx
    refine ⟨a, xs, rfl, SqL.of (hid_le _ _ ha), fun i m σ' H' => m + i = xs.length ∧ Pv i σ' H', ⟨xs.length, rfl, h0⟩, fun i m σ' H' w => ?_⟩
    obtain ⟨hmi, hp⟩ := w
    have here : SqL X.K H' a xs := SqL.of (hid_le _ _ (hk i σ' H' hp _ _ ha))
    cases ex : xs[i]? with
    | none =>
      have hge : xs.length ≤ i := List.getElem?_eq_none_iff.mp ex
      have ei : i = ds.length := by omega
      subst ei
      exact .inl ⟨⟨xs, here, hge⟩, hd σ' H' hp⟩
    | some x0 =>
      have hlt := (List.getElem?_eq_some_iff.mp ex).1
      refine .inr ⟨⟨xs, x0, here, ex⟩, Pv (i + 1), fun σ2 H2 h2 => ⟨m - 1, by omega, by omega, h2⟩, fun v H2 hy => ?_⟩
      obtain ⟨T, x, rfl, hT, rfl, hx0⟩ := hy
      obtain ⟨d, hd1, hd2⟩ := dpa_get' hx (hx0 xs here)
      exact hst i d hd1 σ' H' T x hp hT (hd2.up (hk i σ' H' hp))) he⟩
/-- for tg in range(a, b): .. -/
theorem rb_range2k {tg : Expr} {body : List Stmt} {lo hi : Int} {n : Nat} (hm : X.mg "range" = none) (ha : XD X M σ H a (.int lo)) (hb : XD X M σ H b (.int hi)) (hn : (hi - lo).toNat = n) (hz : (-(1000000 : Int) ≤ lo ∧ lo ≤ 1000000) ∧ (-(1000000 : Int) ≤ hi ∧ hi ≤ 1000000))
    (h : ∀ H1, Same H H1 → ∃ Pv : Nat → L2.St → Hp → Prop, Pv 0 σ H1 ∧ (∀ k σ' H', k < n → Pv k σ' H' → RG X tg (.int (lo + (k : Int))) σ' H' fun σ2 H2 => RB X body { D with nx := Pv (k + 1), ct := Pv (k + 1), bk := RB X rest D } σ2 H2) ∧ ∀ σ' H', Pv n σ' H' → RB X rest D σ' H')
    (hg : Gl X "range" := by rfl) (he : starEach [a, b] X.env = (false, eval a X.env) :: starEach [b] X.env := by rfl) (he2 : starEach [b] X.env = (false, eval b X.env) :: starEach [] X.env := by rfl) (he3 : starEach [b] X.env = [(false, eval b X.env)] := by rfl)
    (hp : PassesOwn (model X.prog X.w) X.A X.env X.xe := by exact PassesOwn.never) (hc : X.calm = true := by rfl) (hs : ∀ x, foldedSetIterable (.Call (.Name "range" p1) [a, b] [] p2) X.env x = pure x := by intro _; rfl) : RB X (.For tg (.Call (.Name "range" p1) [a, b] [] p2) body [] pos :: rest) D σ H :=
  ⟨_, pss_cons (ps_for hp hc (pi_range2 hg hm ra_ (by rw [he, he3]) he3) rg_ rb_ hs) rb_, ra_cons (ha H (Same.refl H) _ fun v H1 s1 hv => ra_1 (hb H1 s1 _ fun u H2 s2 hu => by
    have b1 : (1000000 : Int) < 2 ^ 62 := by decide
    obtain ⟨Pv, h0, hst, hd⟩ := h H2 (s1.trans s2)
    refine ⟨lo, hi, by rw [dp_int hv, dp_int hu], ⟨by omega, by omega, by omega, by omega⟩, ?_⟩
    rw [hn]
    exact for_range Pv h0 (fun i σ' H' hi' p => hst i σ' H' hi' p) hd) he2) he⟩
/-- e is None -/
def isN : PyData → Bool
  | .none => true
  | _ => false
theorem dec_non {K : PySem.W.Frag} {H : Hp} {v : V} {d : PyData} (h : Dq K H v d) : decide (v = V.non) = isN d := by
  cases h <;> first | exact decide_eq_true rfl | exact decide_eq_false (fun z => V.noConfusion z)
theorem xd_isNone {j} (ha : XD X M σ H a d) (hm : behindInMarks .Is (.Constant .none j p1) = false := by rfl) : XD X M σ H (.Compare a [.Is] [.Constant .none j p1] pos) (.bool (isN d)) :=
  xd_cmp op_isN ha xd_non (fun H1 v w s hv hw Q q => ⟨dp_non hw, by rw [dec_non hv]; exact q _ H1 (Same.refl _) (.bl _)⟩) hm
theorem xt_isNone {j} (ha : XD X M σ H a d) (hm : behindInMarks .Is (.Constant .none j p1) = false := by rfl) : XT X σ H (.Compare a [.Is] [.Constant .none j p1] pos) (isN d) :=
  xt_cmp op_isN ha (xd_non (M := M)) (fun H1 v w s hv hw Q q => ⟨dp_non hw, by rw [dec_non hv]; exact q H1 (Same.refl _)⟩) hm
/-- the first number below n with p -/
def first (p : Nat → Bool) : Nat → Option Nat
  | 0 => none
  | n + 1 => match first p n with
    | some i => some i
    | none => if p n = true then some n else none
theorem first_snoc {p : Nat → Bool} {k : Nat} (h : first p k = none) (hp : p k = false) : first p (k + 1) = none := by
  unfold first
  rw [h]
  simp [hp]
theorem first_hit {p : Nat → Bool} {k : Nat} (h : first p k = none) (hp : p k = true) : ∀ {n : Nat}, k < n → first p n = some k
  | 0, hn => by omega
  | n + 1, hn => by
    by_cases z : k = n
    · subst z
      unfold first
      rw [h]
      simp [hp]
    · have q := first_hit h hp (n := n) (by omega)
      unfold first
      rw [q]
/-- tuples and lists of whole numbers, compared -/
theorem eqv_ints2 : ∀ ns ms : List Int, PyData.eqvAll (ns.map PyData.int) (ms.map PyData.int) = decide (ns = ms)
  | [], [] => by simp [PyData.eqvAll]
  | [], m :: ms => by simp [PyData.eqvAll]
  | n :: ns, [] => by simp [PyData.eqvAll]
  | n :: ns, m :: ms => by
    rw [List.map_cons, List.map_cons]
    show (PyData.eqv (.int n) (.int m) && PyData.eqvAll (ns.map PyData.int) (ms.map PyData.int)) = _
    rw [eqv_ints2 ns ms]
    by_cases h1 : n = m
    · by_cases h2 : ns = ms
      · simp [h1, h2, PyData.eqv]
      · simp [h1, h2, PyData.eqv]
    · simp [h1, PyData.eqv]
theorem lay_ints : ∀ ns : List Int, PyData.canLayAll0 (ns.map PyData.int) = true
  | [] => by simp [PyData.canLayAll0]
  | r :: rs => by
    rw [List.map_cons]
    show (PyData.canLay0 (.int r) && PyData.canLayAll0 (rs.map PyData.int)) = true
    rw [lay_ints rs]
    simp [PyData.canLay0]
theorem depth_ints : ∀ ns : List Int, PyData.depthAll (ns.map PyData.int) = 0
  | [] => by simp [PyData.depthAll]
  | r :: rs => by
    rw [List.map_cons]
    show max (PyData.depth (.int r)) (PyData.depthAll (rs.map PyData.int)) = 0
    rw [depth_ints rs]
    simp [PyData.depth]
theorem shaped_intsT (ns : List Int) : SeqAt.shaped (.tuple (ns.map PyData.int)) = true := by
  unfold SeqAt.shaped
  rw [show PyData.canLay0 (.tuple (ns.map PyData.int)) = PyData.canLayAll0 (ns.map PyData.int) by simp [PyData.canLay0], lay_ints, show PyData.depth (.tuple (ns.map PyData.int)) = PyData.depthAll (ns.map PyData.int) + 1 by simp [PyData.depth], depth_ints]
  simp
theorem shaped_ints (ns : List Int) : SeqAt.shaped (.list (ns.map PyData.int)) = true := by
  unfold SeqAt.shaped
  rw [show PyData.canLay0 (.list (ns.map PyData.int)) = PyData.canLayAll0 (ns.map PyData.int) by simp [PyData.canLay0], lay_ints, show PyData.depth (.list (ns.map PyData.int)) = PyData.depthAll (ns.map PyData.int) + 1 by simp [PyData.depth], depth_ints]
  simp
end
end Dl
namespace Zn
open PySem PySem.Spec PyProof.Rows L2 Dl
theorem jmp_rows : ∀ (f : Int) (st : List Step), (rowsP f st).map jmp = st.map (·.2)
  | _, [] => rfl
  | f, s :: st => by
    rw [rowsP_cons, List.map_cons, List.map_cons, jmp_rows]
    have e : jmp (s.1, f, f + s.2) = s.2 := by show f + s.2 - f = _; omega
    rw [e]
theorem jumps_rows (f : Int) (st : List Step) : (rowsP f st).map (fun r => PyData.int (jmp r)) = (st.map (·.2)).map PyData.int := by
  have h := congrArg (List.map PyData.int) (jmp_rows f st)
  rw [List.map_map] at h
  exact h
section
variable {X : Cx} {M : List Addr} {σ : L2.St} {H : Hp} {e o : Expr} {C : Addr} {off : Int} {rs : List Row} {pos apos p1 p2 : Pos} {f : Addr} {fd : FuncData}
/-- o.m(), a new list -/
theorem xl_z {m : Str} {g : Int → List Row → List PyData} {k : Nat} {pl : Sem Bool} (L : Live M H) (hc : Cls X.K C) (hM : Meth X.K C m f) (h1 : (m == ("base" : Str)) = false) (h2 : (m == ("rows" : Str)) = false) (F : FnOk X.prog X.w X.K X.mg X.base CX0 k f fd ["self"] (spML X.K C g)) (hr : Room k X.A) (hb : Binds X.K fd ["self"] [])
    (ho : XZ C X M σ H o off rs) (hlen : rs.length ≤ 1000)
    (ht : eval (.Call (.Attribute o m apos) [] [] pos) X.env = (do
      let ov ← eval o X.env
      standAt apos.atName
      let (f, first) ← holding [ov] (getMethod ov m pl)
      callWith pos f first (backTo pos (starEach [] X.env)) (backToKw pos (keywordEach [] X.env))) := by rfl) : XL X M σ H (.Call (.Attribute o m apos) [] [] pos) (g off rs) := fun H1 s Q q =>
  ⟨_, pe_meth0 re_ hc hM F hr hb .nil pass0 ht, ho H1 s _ fun y H2 s2 hz => by
    obtain ⟨dx, r, e1, e2⟩ := hz
    exact ⟨y, dx, _, rfl, hid_le _ _ e1, zf_none off r h1 h2, M, y, off, rs, rfl, L.mono (s.trans s2), ⟨dx, r, e1, e2⟩, hlen, fun p xs H3 s3 hp h3 hd => q p xs H3 (s2.trans s3) (s2.free hp) h3 hd⟩⟩
theorem xd_lenX (L : Live M H) (hs : PySem.W.findIn X.K (.ref C) "__len__" = some (some (.ref f))) (hf : PySem.W.isFn X.K (.ref f) = true) (F : FnOk X.prog X.w X.K X.mg X.base CX0 1 f fd ["self"] (spMD X.K C fun _ rs => .int rs.length)) (hr : Room 2 X.A) (hb : Binds X.K fd ["self"] []) (hm : X.mg "len" = none)
    (ho : XZ C X M σ H o off rs) (hlen : rs.length ≤ 1000) (hg : Gl X "len" := by rfl) (he : starEach [o] X.env = (false, eval o X.env) :: starEach [] X.env := by rfl) (hpl : (backTo pos (starEach [] X.env)).any (·.1) = false := by rfl) :
    XD X M σ H (.Call (.Name "len" p1) [o] [] pos) (.int rs.length) := fun H1 s Q q =>
  re_B (call_lenO hs hf F hr hb) (ra_1 (ho H1 s _ fun y H2 s2 hz => by
    have hz0 := hz
    obtain ⟨dx, r, e1, e2⟩ := hz
    exact ⟨y, dx, _, rfl, hid_le _ _ e1, M, y, off, rs, rfl, L.mono (s.trans s2), hz0, hlen, fun v H3 s3 hv => ⟨rs.length, dp_int hv, by omega, q _ H3 (s2.trans s3) (.int _)⟩⟩) he) hm (by decide +kernel) hg (by decide) (by decide) he hpl
/-- the expression tells a kind -/
def XK (C : Addr) (X : Cx) (M : List Addr) (σ : L2.St) (H : Hp) (e : Expr) (k : Kd) : Prop := ∀ H1, Same H H1 → ∀ Q : VK, (∀ y H2, Same H1 H2 → KAt X.K C (hid M H2) y k → Q (.ref y) H2) → RE X e σ H1 Q
theorem XK.go {Q : VK} {k : Kd} (h : XK C X M σ H e k) (q : ∀ y H2, Same H H2 → KAt X.K C (hid M H2) y k → Q (.ref y) H2) : RE X e σ H Q := h H (Same.refl H) Q q
theorem xk_v {pa : Addr} {k : Kd} (ho : XV X σ H o (.ref pa)) (hk : KAt X.K C (hid M H) pa k) : XK C X M σ H o k := fun H1 s Q q => ho H1 s Q fun H2 s2 => q pa H2 s2 (hk.up (hid_mono (s.trans s2)))
/-- isinstance(o, Kind) -/
theorem xd_isK {t : Value} {r : Bool} {v : V} (hm : X.mg "isinstance" = none) (hC : X.mg "Kind" = some (.ref C)) (ho : XV X σ H o v) (hup : ∀ H1, Same H H1 → TyX X.K H1 v t) (hk : PySem.W.kitOne X.K t (.ref C) = some r) (hg : Gl X "isinstance" := by rfl) (hgZ : Gl X "Kind" := by rfl)
    (he : starEach [o, .Name "Kind" p2] X.env = (false, eval o X.env) :: starEach [.Name "Kind" p2] X.env := by rfl) (he2 : starEach [.Name "Kind" p2] X.env = (false, eval (.Name "Kind" p2) X.env) :: starEach [] X.env := by rfl) (hpl : (backTo pos (starEach [.Name "Kind" p2] X.env)).any (·.1) = false := by rfl) :
    XD X M σ H (.Call (.Name "isinstance" p1) [o, .Name "Kind" p2] [] pos) (.bool r) := fun H1 s Q q =>
  re_B call_isi (ra_cons (ho H1 s _ fun H2 s2 => ra_1 (xv_glob (v := .ref C) hC rfl hgZ (by decide) H2 (Same.refl _) _ fun H3 s3 => ⟨v, .ref C, t, .ref C, r, rfl, .own C, hup H3 ((s.trans s2).trans s3), hk, q _ H3 (s2.trans s3) (.bl _)⟩) he2) he) hm (by decide +kernel) hg (by decide) (by decide) he hpl
end
/-! ### why_not -/
def pJ (js : List Int) (st : List Step) (i : Nat) : Bool := match st[i]? with
  | some s => !decide (s.2 ∈ js)
  | none => false
def pA (ap : Int) (st : List Step) (i : Nat) : Bool := match st[i]?, st[i + 1]? with
  | some s, some t => decide (t.1 - s.1 < ap)
  | _, _ => false
def whyD (k : Kd) (st : List Step) : PyData :=
  if (st.length : Int) > k.mo then .tuple [.str "most", .int st.length]
  else match first (pJ k.js st) st.length with
    | some i => .tuple [.str "jump", .int i]
    | none => match first (pA k.ap st) (st.length - 1) with
      | some i => .tuple [.str "apart", .int (1 + i)]
      | none => .none
def spWhy (K : PySem.W.Frag) (CZ CK : Addr) (f : Kd → List Step → PyData) : Sp := fun vs H Q _ => ∃ (M : List Addr) (a z : Addr) (k : Kd) (off : Int) (st : List Step), vs = [.ref a, .ref z] ∧ Live M H ∧ KAt K CK (hid M H) a k ∧ ZAt K CZ (hid M H) z off (rowsP off st) ∧ st.length ≤ 50 ∧ ∀ v H1, Same H H1 → Dq K (hid M H1) v (f k st) → Q v H1
section
variable {P : Program} {w : World} {K : PySem.W.Frag} {mg : Str → Option Value} {base : Heap} {CZ CK : Addr}
theorem isort_mem (js : List Int) (n : Int) : decide (n ∈ isort js) = decide (n ∈ js) := by
  by_cases h : n ∈ js
  · rw [decide_eq_true h, decide_eq_true ((mem_isort n js).mpr h)]
  · rw [decide_eq_false h, decide_eq_false fun z => h ((mem_isort n js).mp z)]
theorem moms_fm : ∀ cs : List (Int × Int), (cs.map stepD).filterMap (fun d => match d with | .tuple [x, _] => some x | _ => none) = (cs.map (·.1)).map PyData.int
  | [] => rfl
  | c :: cs => by rw [List.map_cons, List.filterMap_cons, List.map_cons, List.map_cons, ← moms_fm cs]; rfl
theorem moms_ch : ∀ (o : Int) (st : List Step), (chOf o st).map (·.1) = st.map (·.1)
  | _, [] => rfl
  | o, s :: st => by
    show s.1 :: (chOf (o + s.2) st).map (·.1) = _
    rw [moms_ch]
    rfl
theorem scWhy : FnScope ["self", "zone", "index", "jump", "moments", "moment", "offset"] ["self", "zone"] (defScope sWhy) := ⟨rfl, rfl, rfl, by decide +kernel, rfl, by decide +kernel, by decide +kernel⟩
theorem atN {ns : List Int} {i : Nat} {n : Int} (h : ns[i]? = some n) {j : Int} (hj : j = (i : Int)) : atI (ns.map PyData.int) j = some (.int n) := by
  rw [hj]
  exact atI_nat (by rw [List.getElem?_map, h]; rfl)
theorem ok_why {f fN fC fJ fL : Addr} {fd fdN fdC fdJ fdL : FuncData} (T : Nm mg) (hE : mg "enumerate" = none) (Z : ZT K mg CZ) (Y : KT K mg CK)
    (GN : FnOk P w K mg base CX0 2 fN fdN ["value"] (spNeedZ K CZ)) (FN : Df K mg "need_zone" sNeedZ ["value"] fN fdN)
    (GC : FnOk P w K mg base CX0 2 fC fdC ["self"] (spML K CZ fun _ rs => rs.map chD)) (MC : Mt K CZ "changes" "Zone.changes" sChanges ["self"] fC fdC)
    (GJ : FnOk P w K mg base CX0 2 fJ fdJ ["self"] (spML K CZ fun _ rs => rs.map fun r => .int (jmp r))) (MJ : Mt K CZ "jump_list" "Zone.jump_list" sJumps ["self"] fJ fdJ)
    (GL : FnOk P w K mg base CX0 1 fL fdL ["self"] (spMD K CZ fun _ rs => .int rs.length)) (ML : Mt K CZ "__len__" "Zone.__len__" sLen ["self"] fL fdL)
    (F : Fun K "why_not" "Kind.why_not" sWhy f fd) : FnOk P w K mg base CX0 3 f fd ["self", "zone"] (spWhy K CZ CK whyD) := by
  refine F.ok scWhy (fun vs H Q E h => ?_) (fun cdv A outer s H vs Q E hr h => ?_)
  · obtain ⟨M, a, z, k, off, st, rfl, _⟩ := h; rfl
  · obtain ⟨M, a, z, k, off, st, rfl, L, hk, hz, hlen, q⟩ := h
    have hrl : (rowsP off st).length ≤ 1000 := by rw [rowsP_len]; omega
    refine rb_exprR (re_call GN hr FN.g FN.F.kp FN.b (ra_1 (XV.go (xv_name 1 rfl) fun H1 s1 => ⟨M, z, off, _, rfl, hz.up (hid_mono s1), fun H2 s2 => ?_⟩)))
    have s02 := s1.trans s2
    have L2' := L.mono s02
    have hk2 := hk.up (hid_mono (M := M) s02)
    have hz2 := hz.up (hid_mono (M := M) s02)
    refine rb_if (xt_cmpI (M := M) op_gt (xd_lenX L2' ML.m.at_ ML.m.fn GL hr ML.b T.len (xz_v (xv_name 1 rfl) hz2) hrl) (xv_many ⟨_, Y⟩ hk2 (xv_name 0 rfl)).int) (fun e H3 s3 => ?_) (fun e H3 s3 => rb_nil ?_)
    · have e1 := of_decide_eq_true e
      rw [rowsP_len] at e1
      refine rb_ret (M := M) (xd_tup (L2'.mono s3) (xa_cons xd_str (xa_cons (xd_lenX (L2'.mono s3) ML.m.at_ ML.m.fn GL hr ML.b T.len (xz_v (xv_name 1 rfl) (hz2.up (hid_mono s3))) hrl) xa_nil))) fun v H4 s4 hv => q v H4 ((s02.trans s3).trans s4) ?_
      unfold whyD
      rw [if_pos e1]
      rw [rowsP_len] at hv
      exact hv
    · have e1 := of_decide_eq_false e
      rw [rowsP_len] at e1
      have s03 := s02.trans s3
      have L3 := L.mono s03
      have hz3 := hz.up (hid_mono (M := M) s03)
      refine rb_enum (M := M) hE (XL.dd ((xl_z L3 Z.cl MJ.m (by decide +kernel) (by decide +kernel) GJ hr MJ.b (xz_v (xv_name 1 rfl) hz3) hrl).to (jumps_rows off st)) L3) fun H4 s4 => ⟨fun i σ' H' => Same H4 H' ∧ first (pJ k.js st) i = none ∧ ∃ a2 a3, σ' = [some (.ref a), some (.ref z), a2, a3, none, none, none], ⟨Same.refl _, rfl, none, none, rfl⟩, fun i σ' H' w => hid_mono w.1, fun i it hi σ' H' t x w ht hv => ?_, fun σ' H' w => ?_⟩
      · obtain ⟨z1, hf, a2, a3, rfl⟩ := w
        obtain ⟨j, hj, rfl⟩ := map_get hi
        rw [List.getElem?_map] at hj
        cases es : st[i]? with
        | none => rw [es] at hj; cases hj
        | some sx =>
          rw [es] at hj
          cases hj
          have ev := dp_int hv
          subst ev
          have z2 : Same H4 (upd H' t (.tup [.int (i : Nat), .int sx.2])) := z1.trans (same_new ht)
          refine rg_tup (SqT.of upd_same) (rgs_cons (rg_name 2 (rgs_cons (rg_name 3 (rgs_nil ?_) scWhy.nd)) scWhy.nd))
          show RB _ _ _ _ (upd H' t (.tup [.int (i : Nat), .int sx.2]))
          generalize upd H' t (.tup [.int (i : Nat), .int sx.2]) = H5 at z2
          have s05 := (s03.trans s4).trans z2
          have hk5 := hk.up (hid_mono (M := M) s05)
          have ep : pJ k.js st i = !decide (sx.2 ∈ k.js) := by unfold pJ; rw [es]
          refine rb_if ((xt_notInS (M := M) (ns := isort k.js) (.inr rfl) (xv_name 3 rfl).int (xd_sizes ⟨_, Y⟩ hk5 (xv_name 0 rfl))).to (by rw [isort_mem, ← ep])) (fun e H6 s6 => ?_) (fun e H6 s6 => rb_nil (rb_nil ?_))
          · refine rb_ret (M := M) (xd_tup ((L.mono s05).mono s6) (xa_cons xd_str (xa_cons (xv_name 2 rfl).int xa_nil))) fun v H7 s7 hv => q v H7 ((s05.trans s6).trans s7) ?_
            unfold whyD
            rw [if_neg e1, first_hit hf e (List.getElem?_eq_some_iff.mp es).1]
            exact hv
          · exact ⟨z2.trans s6, first_snoc hf e, some (.int i), some (.int sx.2), rfl⟩
      · obtain ⟨z1, hf, a2, a3, rfl⟩ := w
        rw [List.length_map, List.length_map] at hf
        have s04 := (s03.trans s4).trans z1
        have L4 := L.mono s04
        have hz4 := hz.up (hid_mono (M := M) s04)
        refine rb_setC0 4 (M := M) (own := [("moment", 5), ("offset", 6)]) (fun d => match d with | .tuple [x, _] => some x | _ => none) L4 scWhy.nd (XL.dd ((xl_z L4 Z.cl MC.m (by decide +kernel) (by decide +kernel) GC hr MC.b (xz_v (xv_name 1 rfl) hz4) hrl).to (ch_rows off st)) L4)
          (blkOk_by (own := [("moment", 5), ("offset", 6)]) (N := ["self", "zone", "index", "jump", "moments", "moment", "offset"]) (sc := defScope sWhy) (by decide +kernel)) (by rw [List.length_map, ch_len]; omega) (fun p d v H1 hd hp s1 Lp hv => ?_) (fun p xs H5 s5 hp h5 hx => ?_)
        · obtain ⟨c, _, rfl⟩ := mem_step hd
          obtain ⟨t, rfl, ht⟩ := step_at hv
          intro s0 H0 C0 cl fp
          refine rg_tup (same_seqT hid_le ht) (rgs_cons (rg_name 5 (rgs_cons (rg_name 6 (rgs_nil ?_) scWhy.nd)) scWhy.nd))
          refine ⟨rfl, bt_nil ⟨Same.refl _, .inl ⟨rfl, _, rfl, fun s0 H0 C0 cl fp => ?_⟩⟩⟩
          exact XV.go (xv_name 5 rfl) fun H3 s3 => ⟨s3, .int c.1⟩
        rw [moms_fm (chOf off st), moms_ch] at hx
        have kp : Dq K (hid M H5) (.ref p) (.list ((st.map (·.1)).map PyData.int)) := .lst (by rw [hid_of (L4.fresh hp)]; exact h5) hx
        refine rb_range2k (M := M) (n := st.length - 1) T.rng xd_int (xd_len T.len (xd_name 4 rfl kp)) (by rw [List.length_map, List.length_map]; omega) ⟨⟨by decide, by decide⟩, by rw [List.length_map, List.length_map]; omega, by rw [List.length_map, List.length_map]; omega⟩ fun H6 s6 => ⟨fun i σ' H' => Same H6 H' ∧ first (pA k.ap st) i = none ∧ ∃ b2, σ' = [some (.ref a), some (.ref z), b2, a3, some (.ref p), none, none], ⟨Same.refl _, rfl, a2, rfl⟩, fun i σ' H' hi w => ?_, fun σ' H' w => ?_⟩
        · obtain ⟨y1, hf2, b2, rfl⟩ := w
          have s07 := ((s04.trans s5).trans s6).trans y1
          have hk7 := hk.up (hid_mono (M := M) s07)
          have kp7 := kp.up (hid_mono (M := M) (s6.trans y1))
          have l1 : i < st.length := by omega
          have l2 : i + 1 < st.length := by omega
          have g1 : (st.map (·.1))[i]? = some st[i].1 := by rw [List.getElem?_map, List.getElem?_eq_getElem l1]; rfl
          have g2 : (st.map (·.1))[i + 1]? = some st[i + 1].1 := by rw [List.getElem?_map, List.getElem?_eq_getElem l2]; rfl
          have ep : pA k.ap st i = decide (st[i + 1].1 - st[i].1 < k.ap) := by unfold pA; rw [List.getElem?_eq_getElem l1, List.getElem?_eq_getElem l2]
          refine rg_name 2 ?_ scWhy.nd
          refine rb_if ((xt_cmpI (M := M) op_lt (xd_sub (xd_ixL (fun _ _ => rfl) (xd_name 4 rfl kp7) (xv_name 2 rfl).int (atN g2 (by omega))) (xd_ixL (fun _ _ => rfl) (xd_name 4 rfl kp7) (xd_sub (xv_name 2 rfl).int xd_int) (atN g1 (by omega)))) (xv_dist ⟨_, Y⟩ hk7 (xv_name 0 rfl)).int).to ep.symm) (fun e H8 s8 => ?_) (fun e H8 s8 => rb_nil (rb_nil ?_))
          · refine rb_ret (M := M) (xd_tup ((L.mono s07).mono s8) (xa_cons xd_str (xa_cons (xv_name 2 rfl).int xa_nil))) fun v H9 s9 hv => q v H9 ((s07.trans s8).trans s9) ?_
            unfold whyD
            rw [if_neg e1, hf, first_hit hf2 e hi]
            exact hv
          · exact ⟨y1.trans s8, first_snoc hf2 e, _, rfl⟩
        · obtain ⟨y1, hf2, b2, rfl⟩ := w
          have s07 := ((s04.trans s5).trans s6).trans y1
          refine rb_ret (M := M) xd_non fun v H9 s9 hv => q v H9 (s07.trans s9) ?_
          unfold whyD
          rw [if_neg e1, hf, hf2]
          exact hv
end
end Zn

set_option Elab.async false
set_option linter.all false
set_option maxRecDepth 100000
set_option maxHeartbeats 8000000
namespace Zn
open PySem PySem.Spec PyProof.Rows L2 Dl
section
variable {X : Cx} {M : List Addr} {σ : L2.St} {H : Hp} {a b c e o : Expr} {CZ CK : Addr} {off : Int} {st : List Step} {pos apos p1 p2 : Pos} {f : Addr} {fd : FuncData} {kd kd' : Kd} {sq : PyData}
/-- o.why_not(e) -/
theorem xd_why {n : Nat} {g : Kd → List Step → PyData} {pl : Sem Bool} {m : Str} (L : Live M H) (hc : Cls X.K CK) (hM : Meth X.K CK m f) (h1 : (m == ("sizes" : Str)) = false) (h2 : (m == ("distance" : Str)) = false) (h3 : (m == ("many" : Str)) = false) (F : FnOk X.prog X.w X.K X.mg X.base CX0 n f fd ["self", "zone"] (spWhy X.K CZ CK g)) (hr : Room n X.A) (hb : Binds X.K fd ["self", "zone"] [])
    (ho : XK CK X M σ H o kd) (he : XZ CZ X M σ H e off (rowsP off st)) (hlen : st.length ≤ 50) (hst : starEach [e] X.env = (false, eval e X.env) :: starEach [] X.env := by rfl) (hpl : (backTo pos (starEach [] X.env)).any (·.1) = false := by rfl)
    (ht : eval (.Call (.Attribute o m apos) [e] [] pos) X.env = (do
      let ov ← eval o X.env
      standAt apos.atName
      let (f, first) ← holding [ov] (getMethod ov m pl)
      callWith pos f first (backTo pos (starEach [e] X.env)) (backToKw pos (keywordEach [] X.env))) := by rfl) : XD X M σ H (.Call (.Attribute o m apos) [e] [] pos) (g kd st) := fun H1 s Q q =>
  ⟨_, pe_meth re_ hc hM F hr hb .nil pass0 ra_ hst hpl ht, ho H1 s _ fun y H2 s2 hk => by
    have hk0 := hk
    obtain ⟨dx, r, e1, e2⟩ := hk
    refine ⟨y, dx, _, rfl, hid_le _ _ e1, kf_none _ _ _ h1 h2 h3, ra_1 (he H2 (s.trans s2) _ fun z H3 s3 hz => ?_) hst⟩
    rw [List.append_nil]
    exact ⟨M, y, z, kd, off, st, rfl, L.mono ((s.trans s2).trans s3), hk0.up (hid_mono s3), hz, hlen, fun v H4 s4 hv => q v H4 ((s2.trans s3).trans s4) hv⟩⟩
end
def hasD (k : Kd) (st : List Step) : PyData := .bool (isN (whyD k st))
def inK (js : List Int) : PyData → Bool
  | .int n => decide (n ∈ js)
  | _ => false
def spKCont (K : PySem.W.Frag) (C : Addr) : Sp := fun vs H Q _ => ∃ (M : List Addr) (a : Addr) (k : Kd) (v : V) (d : PyData), vs = [.ref a, v] ∧ Live M H ∧ KAt K C (hid M H) a k ∧ Dq K (hid M H) v d ∧ ∀ H1, Same H H1 → Q (.bl (inK k.js d)) H1
def sameK (k k' : Kd) : Bool := decide (isort k.js = isort k'.js) && (decide (k.ap = k'.ap) && decide (k.mo = k'.mo))
def spKEq (K : PySem.W.Frag) (C : Addr) : Sp := fun vs H Q _ => ∃ (M : List Addr) (a b : Addr) (k k' : Kd), vs = [.ref a, .ref b] ∧ Live M H ∧ KAt K C (hid M H) a k ∧ KAt K C (hid M H) b k' ∧ ∀ H1, Same H H1 → Q (.bl (sameK k k')) H1
section
variable {P : Program} {w : World} {K : PySem.W.Frag} {mg : Str → Option Value} {base : Heap} {CZ CK : Addr}
theorem scHas : FnScope ["self", "zone"] ["self", "zone"] (defScope sHas) := ⟨rfl, rfl, rfl, by decide +kernel, rfl, by decide +kernel, by decide +kernel⟩
theorem ok_has {f fW : Addr} {fd fdW : FuncData} (Y : KT K mg CK) (GW : FnOk P w K mg base CX0 3 fW fdW ["self", "zone"] (spWhy K CZ CK whyD)) (MW : Mt K CK "why_not" "Kind.why_not" sWhy ["self", "zone"] fW fdW) (F : Fun K "has" "Kind.has" sHas f fd) : FnOk P w K mg base CX0 4 f fd ["self", "zone"] (spWhy K CZ CK hasD) := by
  refine F.ok scHas (fun vs H Q E h => ?_) (fun cdv A outer s H vs Q E hr h => ?_)
  · obtain ⟨M, a, z, k, off, st, rfl, _⟩ := h; rfl
  · obtain ⟨M, a, z, k, off, st, rfl, L, hk, hz, hlen, q⟩ := h
    exact rb_ret (M := M) (xd_isNone (xd_why L Y.cl MW.m (by decide +kernel) (by decide +kernel) (by decide +kernel) GW hr MW.b (xk_v (xv_name 0 rfl) hk) (xz_v (xv_name 1 rfl) hz) hlen)) q
theorem scKCont : FnScope ["self", "x"] ["self", "x"] (defScope sKCont) := ⟨rfl, rfl, rfl, by decide +kernel, rfl, by decide +kernel, by decide +kernel⟩
theorem ok_kcont {f fW : Addr} {fd fdW : FuncData} (T : Nm mg) (Y : KT K mg CK) (FW : Df K mg "is_whole" sWhole ["value"] fW fdW) (F : Fun K "__contains__" "Kind.__contains__" sKCont f fd) : FnOk P w K mg base CX0 2 f fd ["self", "x"] (spKCont K CK) := by
  have GW : FnOk P w K mg base CX0 1 fW fdW ["value"] (spR K RWhole) := ok_whole T FW
  refine F.ok scKCont (fun vs H Q E h => ?_) (fun cdv A outer s H vs Q E hr h => ?_)
  · obtain ⟨M, a, k, v, d, rfl, _⟩ := h; rfl
  · obtain ⟨M, a, k, v, d, rfl, L, hk, hd, q⟩ := h
    by_cases hwh : whole d = true
    · obtain ⟨n, rfl⟩ : ∃ n, d = .int n := by
        cases d <;> first | exact ⟨_, rfl⟩ | exact absurd hwh Bool.false_ne_true
      refine rb_ret (M := M) (xd_andT (xd_call L GW hr FW.g FW.F.kp FW.b (xa_cons (xd_name 1 rfl hd) xa_nil) ⟨.int n, rfl, rfl⟩) (xd_one ((xd_inS (ns := isort k.js) (.inr rfl) (xd_name 1 rfl hd) (xd_sizes ⟨_, Y⟩ hk (xv_name 0 rfl))).to (by rw [isort_mem])))) fun v H1 s1 hv => ?_
      rw [dp_bl hv]
      exact q H1 s1
    · have e : whole d = false := by cases h : whole d <;> simp_all
      refine rb_ret (M := M) (xd_andF ((xd_call L GW hr FW.g FW.F.kp FW.b (xa_cons (xd_name 1 rfl hd) xa_nil) ⟨d, rfl, rfl⟩).to (by rw [e]))) fun v H1 s1 hv => ?_
      rw [dp_bl hv]
      have e2 : inK k.js d = false := by cases d <;> first | rfl | exact absurd rfl hwh
      rw [← e2]
      exact q H1 s1
/-- what the written part says of isinstance(.., Kind) -/
structure KI (K : PySem.W.Frag) (C : Addr) : Prop where
  ha : PySem.W.findIn K (.ref C) "__class__" = some (some (.builtin "object.__class__"))
  hn : PySem.W.specialIn K (.builtin "object.__class__") "__get__" = some (some (.builtin "getset_descriptor.__get__"))
  htk : PySem.W.takesIn K (.builtin "object.__class__") = some true
  hm : PySem.W.mroIn K C (.type "object") = some true
  yes : PySem.W.kitOne K (.ref C) (.ref C) = some true
theorem scKEq : FnScope ["self", "other"] ["self", "other"] (defScope sKEq) := ⟨rfl, rfl, rfl, by decide +kernel, rfl, by decide +kernel, by decide +kernel⟩
theorem ok_keq {f : Addr} {fd : FuncData} (T : Nm mg) (Y : KT K mg CK) (I : KI K CK) (F : Fun K "__eq__" "Kind.__eq__" sKEq f fd) : FnOk P w K mg base CX0 1 f fd ["self", "other"] (spKEq K CK) := by
  refine F.ok scKEq (fun vs H Q E h => ?_) (fun cdv A outer s H vs Q E hr h => ?_)
  · obtain ⟨M, a, b, k, k', rfl, _⟩ := h; rfl
  · obtain ⟨M, a, b, k, k', rfl, L, hk, hk', q⟩ := h
    have hty : ∀ H1, Same H H1 → TyX K H1 (.ref b) (.ref CK) := fun H1 s1 => by
      obtain ⟨dx, r, e1, _⟩ := hk'
      exact .base (.ins (s1 _ _ (hid_le _ _ e1)) Y.cl I.ha I.hn I.htk I.hm)
    refine rb_ifF ((xt_not (xt_val (M := M) (xd_isK T.isi Y.mgC (xv_name 1 rfl) hty I.yes))).to rfl) fun H1 s1 => ?_
    have h1 := hk.up (hid_mono (M := M) s1)
    have h2 := hk'.up (hid_mono (M := M) s1)
    have ee : PyData.eqv (.tuple ((isort k.js).map PyData.int)) (.tuple ((isort k'.js).map PyData.int)) = decide (isort k.js = isort k'.js) := by
      simp only [PyData.eqv]
      exact eqv_ints2 _ _
    refine rb_ret (M := M) (d := .bool (sameK k k')) ?_ fun v H2 s2 hv => by
      rw [dp_bl hv]
      exact q H2 (s1.trans s2)
    unfold sameK
    cases c1 : decide (isort k.js = isort k'.js) with
    | false => exact xd_andF ((xd_eqD hr.units (xd_sizes ⟨_, Y⟩ h1 (xv_name 0 rfl)) (xd_sizes ⟨_, Y⟩ h2 (xv_name 1 rfl)) (shaped_intsT _) (shaped_intsT _)).to (by rw [ee, c1]))
    | true =>
      refine xd_andT ((xd_eqD hr.units (xd_sizes ⟨_, Y⟩ h1 (xv_name 0 rfl)) (xd_sizes ⟨_, Y⟩ h2 (xv_name 1 rfl)) (shaped_intsT _) (shaped_intsT _)).to (by rw [ee, c1])) ?_
      rw [Bool.true_and]
      exact xd_and2 (xd_eqI (xv_dist ⟨_, Y⟩ h1 (xv_name 0 rfl)).int (xv_dist ⟨_, Y⟩ h2 (xv_name 1 rfl)).int) fun _ => xd_eqI (xv_many ⟨_, Y⟩ h1 (xv_name 0 rfl)).int (xv_many ⟨_, Y⟩ h2 (xv_name 1 rfl)).int
end
/-! ### Kind(..) -/
structure KMk (P : Program) (w : World) (K : PySem.W.Frag) (mg : Str → Option Value) (base : Heap) (C f : Addr) (fd : FuncData) : Prop where
  Z : KT K mg C
  mkk : Mk K C f
  G : FnOk P w K mg base CX0 3 f fd ["self", "jumps", "apart", "most"] (spKInit K C)
  b3 : Binds K fd ["self", "jumps", "apart", "most"] []
  b2 : ∃ t, Binds K fd ["self", "jumps", "apart", "most"] [.int 2 t]
structure KQ (P : Program) (w : World) (K : PySem.W.Frag) (mg : Str → Option Value) (base : Heap) (C f : Addr) (fd : FuncData) : Prop where
  E : ClsEq K C f
  G : FnOk P w K mg base CX0 1 f fd ["self", "other"] (spKEq K C)
  b : Binds K fd ["self", "other"] []
structure ZQ (P : Program) (w : World) (K : PySem.W.Frag) (mg : Str → Option Value) (base : Heap) (C f : Addr) (fd : FuncData) : Prop where
  E : ClsEq K C f
  G : FnOk P w K mg base CX0 1 f fd ["self", "other"] (spEqZ K C)
  b : Binds K fd ["self", "other"] []
section
variable {X : Cx} {M : List Addr} {σ : L2.St} {H : Hp} {a b c e o : Expr} {CZ CK C : Addr} {off off' : Int} {rs rs' : List Row} {st : List Step} {pos apos p1 p2 : Pos} {f : Addr} {fd : FuncData} {k k' : Kd} {sq : PyData}
theorem xk_make (L : Live M H) (W : KMk X.prog X.w X.K X.mg X.base CK f fd) (hr : Room 4 X.A) (hok : KOk k) (hsq : sq = .list (k.js.map PyData.int) ∨ sq = .tuple (k.js.map PyData.int)) (ha : XD X M σ H a sq) (hb : XD X M σ H b (.int k.ap)) (hc : XD X M σ H c (.int k.mo)) (hg : Gl X "Kind" := by rfl)
    (he : starEach [a, b, c] X.env = (false, eval a X.env) :: starEach [b, c] X.env := by rfl) (he2 : starEach [b, c] X.env = (false, eval b X.env) :: starEach [c] X.env := by rfl) (he3 : starEach [c] X.env = (false, eval c X.env) :: starEach [] X.env := by rfl) (hpl : (backTo pos (starEach [b, c] X.env)).any (·.1) = false := by rfl) :
    XK CK X M σ H (.Call (.Name "Kind" p1) [a, b, c] [] pos) k := fun H1 s Q q =>
  re_make W.mkk W.G hr W.Z.mgC W.b3 .nil (ra_cons (ha H1 s _ fun v H2 s2 hv => ra_cons (hb H2 (s.trans s2) _ fun u H3 s3 hu => ra_1 (hc H3 ((s.trans s2).trans s3) _ fun t H4 s4 ht y dx hy hdx hne => by
    rw [dp_int hu, dp_int ht]
    exact ⟨M, H4, y, dx, v, sq, k, rfl, rfl, hy, hdx, hne, L.mono (((s.trans s2).trans s3).trans s4), hv.up (hid_mono (s3.trans s4)), hsq, hok, fun H5 s5 hk => ⟨rfl, q y H5 (((s2.trans s3).trans s4).trans s5) hk⟩⟩) he3) he2) he) hg (by decide) he hpl
theorem xk_make2 (L : Live M H) (W : KMk X.prog X.w X.K X.mg X.base CK f fd) (hr : Room 4 X.A) (hok : KOk k) (hm : k.mo = 2) (hsq : sq = .list (k.js.map PyData.int) ∨ sq = .tuple (k.js.map PyData.int)) (ha : XD X M σ H a sq) (hb : XD X M σ H b (.int k.ap)) (hg : Gl X "Kind" := by rfl)
    (he : starEach [a, b] X.env = (false, eval a X.env) :: starEach [b] X.env := by rfl) (he2 : starEach [b] X.env = (false, eval b X.env) :: starEach [] X.env := by rfl) (hpl : (backTo pos (starEach [b] X.env)).any (·.1) = false := by rfl) :
    XK CK X M σ H (.Call (.Name "Kind" p1) [a, b] [] pos) k := fun H1 s Q q => by
  obtain ⟨t, b2⟩ := W.b2
  exact re_make (dvs := [.int 2]) W.mkk W.G hr W.Z.mgC b2 (.cons ⟨t, rfl⟩ .nil) (ra_cons (ha H1 s _ fun v H2 s2 hv => ra_1 (hb H2 (s.trans s2) _ fun u H3 s3 hu y dx hy hdx hne => by
    rw [dp_int hu]
    exact ⟨M, H3, y, dx, v, sq, k, by rw [hm]; rfl, rfl, hy, hdx, hne, L.mono ((s.trans s2).trans s3), hv.up (hid_mono s3), hsq, hok, fun H5 s5 hk => ⟨rfl, q y H5 ((s2.trans s3).trans s5) hk⟩⟩) he2) he) hg (by decide) he hpl
theorem xt_neK (L : Live M H) (W : KQ X.prog X.w X.K X.mg X.base CK f fd) (hr : Room 2 X.A) (ha : XK CK X M σ H a k) (hb : XK CK X M σ H b k') (hm : behindInMarks .NotEq b = false := by first | exact nomark _ | rfl) : XT X σ H (.Compare a [.NotEq] [b] pos) (!sameK k k') := fun H1 s Q q =>
  ⟨_, pt_cmpR (op_neO W.E W.G hr W.b) re_ re_ hm, ha H1 s _ fun y H2 s2 hz => hb H2 (s.trans s2) _ fun y' H3 s3 hz' => by
    have hz3 := hz.up (hid_mono s3)
    have h1 := hz3
    have h2 := hz'
    obtain ⟨dx, r, e1, _⟩ := h1
    obtain ⟨dy, r', e2, _⟩ := h2
    exact ⟨y, dx, _, y', dy, _, rfl, hid_le _ _ e1, rfl, hid_le _ _ e2, M, y, y', k, k', rfl, L.mono ((s.trans s2).trans s3), hz3, hz', fun H4 s4 => ⟨_, rfl, _, rfl, q H4 ((s2.trans s3).trans s4)⟩⟩⟩
theorem xt_eqK (L : Live M H) (W : KQ X.prog X.w X.K X.mg X.base CK f fd) (hr : Room 1 X.A) (ha : XK CK X M σ H a k) (hb : XK CK X M σ H b k') (hm : behindInMarks .Eq b = false := by first | exact nomark _ | rfl) : XT X σ H (.Compare a [.Eq] [b] pos) (sameK k k') := fun H1 s Q q =>
  ⟨_, pt_cmpR (op_eqO (tb := fun _ => True) W.E W.G hr W.b) re_ re_ hm, ha H1 s _ fun y H2 s2 hz => hb H2 (s.trans s2) _ fun y' H3 s3 hz' => by
    have hz3 := hz.up (hid_mono s3)
    have h1 := hz3
    have h2 := hz'
    obtain ⟨dx, r, e1, _⟩ := h1
    obtain ⟨dy, r', e2, _⟩ := h2
    exact ⟨y, dx, _, rfl, hid_le _ _ e1, .inl ⟨y', dy, _, rfl, hid_le _ _ e2⟩, M, y, y', k, k', rfl, L.mono ((s.trans s2).trans s3), hz3, hz', fun H4 s4 => ⟨_, rfl, _, rfl, q H4 ((s2.trans s3).trans s4)⟩⟩⟩
theorem xd_eqK (L : Live M H) (W : KQ X.prog X.w X.K X.mg X.base CK f fd) (hr : Room 1 X.A) (ha : XK CK X M σ H a k) (hb : XK CK X M σ H b k') (hm : behindInMarks .Eq b = false := by first | exact nomark _ | rfl) : XD X M σ H (.Compare a [.Eq] [b] pos) (.bool (sameK k k')) := fun H1 s Q q =>
  ⟨_, pe_cmpR (op_eqO (tb := fun _ => True) W.E W.G hr W.b) re_ re_ hm, ha H1 s _ fun y H2 s2 hz => hb H2 (s.trans s2) _ fun y' H3 s3 hz' => by
    have hz3 := hz.up (hid_mono s3)
    have h1 := hz3
    have h2 := hz'
    obtain ⟨dx, r, e1, _⟩ := h1
    obtain ⟨dy, r', e2, _⟩ := h2
    exact ⟨y, dx, _, rfl, hid_le _ _ e1, .inl ⟨y', dy, _, rfl, hid_le _ _ e2⟩, M, y, y', k, k', rfl, L.mono ((s.trans s2).trans s3), hz3, hz', fun H4 s4 => ⟨_, rfl, q _ H4 ((s2.trans s3).trans s4) (.bl _)⟩⟩⟩
theorem xt_neZ (L : Live M H) (W : ZQ X.prog X.w X.K X.mg X.base C f fd) (hr : Room 2 X.A) (ha : XZ C X M σ H a off rs) (hb : XZ C X M σ H b off' rs') (hm : behindInMarks .NotEq b = false := by first | exact nomark _ | rfl) : XT X σ H (.Compare a [.NotEq] [b] pos) (!decide (off = off' ∧ rs = rs')) := fun H1 s Q q =>
  ⟨_, pt_cmpR (op_neO W.E W.G hr W.b) re_ re_ hm, ha H1 s _ fun y H2 s2 hz => hb H2 (s.trans s2) _ fun y' H3 s3 hz' => by
    have hz3 := hz.up (hid_mono s3)
    have h1 := hz3
    have h2 := hz'
    obtain ⟨dx, r, e1, _⟩ := h1
    obtain ⟨dy, r', e2, _⟩ := h2
    exact ⟨y, dx, _, y', dy, _, rfl, hid_le _ _ e1, rfl, hid_le _ _ e2, M, y, y', off, rs, rfl, L.mono ((s.trans s2).trans s3), hz3, .inl ⟨off', rs', hz', fun H4 s4 => ⟨_, rfl, _, rfl, q H4 ((s2.trans s3).trans s4)⟩⟩⟩⟩
/-- d in a kind -/
theorem xd_inKd {d : PyData} (L : Live M H) (hs : PySem.W.findIn X.K (.ref CK) "__contains__" = some (some (.ref f))) (hf : PySem.W.isFn X.K (.ref f) = true) (F : FnOk X.prog X.w X.K X.mg X.base CX0 2 f fd ["self", "x"] (spKCont X.K CK)) (hr : Room 2 X.A) (hb : Binds X.K fd ["self", "x"] [])
    (ha : XD X M σ H a d) (hz : XK CK X M σ H b k) (hm : behindInMarks .In b = false := by first | exact nomark _ | rfl) : XD X M σ H (.Compare a [.In] [b] pos) (.bool (inK k.js d)) := fun H1 s Q q =>
  ⟨_, pe_cmpR (op_inO hs hf F hr hb) re_ re_ hm, ha H1 s _ fun v H2 s2 hv => hz H2 (s.trans s2) _ fun y H3 s3 hk3 => by
    have h1 := hk3
    obtain ⟨dx, r, e1, _⟩ := h1
    exact ⟨y, dx, _, rfl, hid_le _ _ e1, M, y, k, v, d, rfl, L.mono ((s.trans s2).trans s3), hk3, hv.up (hid_mono s3), fun H4 s4 => ⟨_, rfl, q _ H4 ((s2.trans s3).trans s4) (.bl _)⟩⟩⟩
/-- o.p, a property of a kind -/
theorem xd_kprop {pp : Addr} {m : Str} {g : Kd → PyData} (L : Live M H) (hc : Cls X.K CK) (hp : PropOf X.K CK m pp f) (F : FnOk X.prog X.w X.K X.mg X.base CX0 1 f fd ["self"] (spKD X.K CK g)) (hr : Room 2 X.A) (hb : Binds X.K fd ["self"] [])
    {pa : Addr} (ho : XV X σ H o (.ref pa)) (hk : KAt X.K CK (hid M H) pa k) (hab : attributeBase o m X.env (eval o X.env) = eval o X.env := by rfl) : XD X M σ H (.Attribute o m pos) (g k) := fun H1 s Q q => by
  have hk0 := hk
  obtain ⟨dx, r, e1, e2⟩ := hk
  exact re_prop (ho.up s) (s _ _ (hid_le _ _ e1)) hc hp F hr hb (fun H2 s2 => ⟨M, pa, k, rfl, L.mono (s.trans s2), hk0.up (hid_mono (s.trans s2)), fun v H3 s3 hv => q v H3 (s2.trans s3) hv⟩) hab
/-- zone_with(a, b) -/
theorem xz_with {items : List PyData} (L : Live M H) (F : FnOk X.prog X.w X.K X.mg X.base CX0 6 f fd ["offset", "steps"] (spZW X.K CZ)) (hr : Room 6 X.A) (FF : Df X.K X.mg "zone_with" sZW ["offset", "steps"] f fd) (ha : XD X M σ H a (.int off)) (hb : XD X M σ H b sq) (hsq : sq = .list items ∨ sq = .tuple items) (hit : Items items st) (hlen : st.length ≤ 1000) (hok : okS st)
    (hg : Gl X "zone_with" := by rfl) (he : starEach [a, b] X.env = (false, eval a X.env) :: starEach [b] X.env := by rfl) (he2 : starEach [b] X.env = (false, eval b X.env) :: starEach [] X.env := by rfl) (hpl : (backTo pos (starEach [b] X.env)).any (·.1) = false := by rfl) : XZ CZ X M σ H (.Call (.Name "zone_with" p1) [a, b] [] pos) off (rowsP off st) := fun H1 s Q q =>
  re_call F hr FF.g FF.F.kp FF.b (ra_cons (ha H1 s _ fun v H2 s2 hv => ra_1 (hb H2 (s.trans s2) _ fun u H3 s3 hu => ⟨M, u, off, sq, items, st, by rw [dp_int hv], L.mono ((s.trans s2).trans s3), hu, hsq, hit, hlen, hok, fun y H4 s4 hz => q y H4 ((s2.trans s3).trans s4) hz⟩) he2) he) hg (by decide) he hpl
end
end Zn

set_option Elab.async false
set_option linter.all false
set_option maxRecDepth 100000
set_option maxHeartbeats 8000000
namespace Zn
open PySem PySem.Spec PyProof.Rows L2 Dl
/-! k08: the law's own kinds -/
abbrev sLKind : Stmt := top 55
abbrev sLSteps : Stmt := top 56
section
variable {X : Cx} {M : List Addr} {σ : L2.St} {H : Hp} {a b e o hi : Expr} {pos p1 p2 : Pos} {xs : List V} {l : Addr} {Q : VK}
/-- o.pop(e) -/
theorem re_pop (ho : XV X σ H o (.ref l)) (h1 : H l = some (.lst xs)) (hz : xs.length ≤ 100000) (hi : ∀ H1, Same H H1 → RE X e σ H1 fun v H2 => ∃ r : Nat, v = .int (r : Int) ∧ H2 l = some (.lst xs) ∧ ∃ y, xs[r]? = some y ∧ Q y (upd H2 l (.lst (xs.eraseIdx r))))
    (hbase : attributeBase o "pop" X.env (eval o X.env) = eval o X.env := by rfl)
    (hfew : ((backTo p2 (starEach [e] X.env)).all (fun x => !x.1) && (backToKw p2 (keywordEach [] X.env)).all (fun x => x.1.isSome) && decide ([e].length + ([] : List Keyword).length + (if ([] : List Keyword).isEmpty then 0 else 1) < 30)) = true := by rfl)
    (hline : (p1.endLine == p2.line) = true := by rfl) (hs : starEach [e] X.env = (false, eval e X.env) :: starEach [] X.env := by rfl) (hplain : (backTo p2 (starEach [] X.env)).any (·.1) = false := by rfl) : RE X (.Call (.Attribute o "pop" p1) [e] [] p2) σ H Q :=
  ⟨_, pe_bm PySem.F.plainAttrs_list PySem.F.slot_list_pop PySem.F.type_list_pop mt_popAt re_ ra_ hbase hfew hline hs hplain,
    ho H (Same.refl H) _ fun H1 s1 => ⟨.inl ⟨rfl, xs, SqL.of (s1 _ _ h1)⟩, ra_1 (re_mono (hi H1 s1) fun v H2 ⟨r, ev, h2, y, hy, q⟩ => by
      have hr : r < xs.length := (List.getElem?_eq_some_iff.mp hy).1
      have b1 : (100000 : Int) < 2 ^ 63 := by decide
      refine ⟨l, xs, r, r, y, rfl, by rw [ev], h2, by omega, by omega, ?_, hy, q⟩
      unfold seqIndex?
      simp
      omega) hs⟩⟩
/-- a == b, whatever happens on the way -/
theorem rt_eqI {Q : Bool → Hp → Prop} (h : RE X a σ H fun v H1 => ∃ i : Int, v = .int i ∧ RE X b σ H1 fun w H2 => ∃ j : Int, w = .int j ∧ Q (decide (i = j)) H2) (hm : behindInMarks .Eq b = false := by first | exact nomark _ | rfl) : RT X (.Compare a [.Eq] [b] pos) σ H Q :=
  ⟨_, pt_cmpR op_eq re_ re_ hm, re_mono h fun v H1 ⟨i, ev, h1⟩ => re_mono h1 fun w H2 ⟨j, ew, q⟩ => by
    subst ev
    subst ew
    exact ⟨rfl, by rw [Dl.dec_int]; exact ⟨_, rfl, q⟩⟩⟩
/-- a[:hi] -/
theorem re_cutHi (h : RE X a σ H fun v H1 => ∃ p, v = .ref p ∧ RE X hi σ H1 fun w H2 => ∃ n : Int, w = .int n ∧ H2 p = some (.lst xs) ∧ ∀ q, H2 q = none → Q (.ref q) (upd H2 q (.lst (cutV xs none (some n))))) : RE X (.Subscript a (.Slice none (some hi) none p2) pos) σ H Q :=
  ⟨_, pe_slice sl_list re_ po_none (po_some re_), re_mono h fun v H1 ⟨p, ev, h1⟩ => re_mono h1 fun w H2 ⟨n, ew, hp, q⟩ => ⟨n, ew, p, xs, ev, SqL.of hp, q⟩⟩
end
theorem erase_perm : ∀ (ss : List Int) (r : Nat) (h : r < ss.length), (ss[r] :: ss.eraseIdx r).Perm ss
  | s :: ss, 0, _ => List.Perm.refl _
  | s :: ss, r + 1, h => by
    have hr : r < ss.length := by simpa using h
    have ih := erase_perm ss r hr
    rw [List.getElem_cons_succ, List.eraseIdx_cons_succ]
    exact (List.Perm.swap s ss[r] _).trans (ih.cons s)
instance (j : Int) : Decidable (okJ j) := by unfold okJ; infer_instance
theorem pop_perm {ss js : List Int} {r : Nat} (h : r < ss.length) : (ss.eraseIdx r ++ (js ++ [ss[r]])).Perm (ss ++ js) := by
  rw [← List.append_assoc]
  refine (List.perm_append_singleton _ _).trans ?_
  rw [← List.cons_append]
  exact (erase_perm ss r h).append_right js
theorem map_erase (f : Int → V) : ∀ (ss : List Int) (r : Nat), (ss.map f).eraseIdx r = (ss.eraseIdx r).map f
  | [], r => rfl
  | s :: ss, 0 => rfl
  | s :: ss, r + 1 => by
    rw [List.map_cons, List.eraseIdx_cons_succ, List.eraseIdx_cons_succ, List.map_cons, map_erase f ss r]
def kindD (k : Kd) : PyData := .tuple [.list (k.js.map PyData.int), .int k.ap, .int k.mo]
theorem mem6 {z a b c d e f : Int} (h : z ∈ [a, b, c, d, e, f]) : z = a ∨ z = b ∨ z = c ∨ z = d ∨ z = e ∨ z = f := by simpa using h
theorem mx_small {js : List Int} (h : ∀ j ∈ js, okJ j) (hn : js ≠ []) : 0 < mx (js.map ab) ∧ mx (js.map ab) ≤ 720 := by
  obtain ⟨a, _⟩ := mx_ok (ns := js.map ab) (fun z => hn (List.map_eq_nil_iff.mp z))
  obtain ⟨j, hj, e⟩ := List.mem_map.mp a
  have q := h j hj
  unfold okJ at q
  rw [← e]
  unfold ab
  split <;> omega
theorem live_bag {M : List Addr} {H H' : Hp} {b : Addr} {n : Nat} (L : Live M H) (s : SameB b H H') (hB : BagAt H' b n) : Live (b :: M) H' := fun a ha => by
  rcases List.mem_cons.mp ha with e | ha
  · subst e; exact hB.some
  · by_cases e : a = b
    · subst e; exact hB.some
    · intro q0
      cases q1 : H a with
      | none => exact L a ha q1
      | some o => rw [s a o e q1] at q0; cases q0
section
variable {P : Program} {w : World} {K : PySem.W.Frag} {mg : Str → Option Value} {base : Heap}
end
end Zn

set_option Elab.async false
set_option linter.all false
set_option maxRecDepth 100000
set_option maxHeartbeats 8000000
namespace Zn
open PySem PySem.Spec PyProof.Rows L2 Dl
/-! k08: steps, is_of, equal, reason -/
abbrev sLIsOf : Stmt := top 57
abbrev sLEqual : Stmt := top 0 /- not here -/
abbrev sLReason : Stmt := top 0 /- not here -/
/-- steps of a kind -/
structure OfK (k : Kd) (st : List Step) : Prop where
  js : ∀ s ∈ st, s.2 ∈ k.js
  gap : ∀ (i : Nat) (s t : Step), st[i]? = some s → st[i + 1]? = some t → k.ap ≤ t.1 - s.1
theorem mx_le {js : List Int} {j : Int} (h : j ∈ js) : ab j ≤ mx (js.map ab) := (mx_ok (ns := js.map ab) (fun z => by rw [List.map_eq_nil_iff] at z; rw [z] at h; simp at h)).2 _ (List.mem_map.mpr ⟨j, h, rfl⟩)
theorem ofK_ok {k : Kd} {st : List Step} (hk : KOk k) (h : OfK k st) : okS st := by
  refine ⟨fun s hs => hk.js.1 _ (h.js s hs), fun i s t h1 h2 => ?_⟩
  have a := mx_le (h.js s (List.mem_of_getElem? h1))
  have b := mx_le (h.js t (List.mem_of_getElem? h2))
  have c := h.gap i s t h1 h2
  have d := hk.ap
  unfold floorK at d
  unfold gapJ
  omega
theorem ofK_nil (k : Kd) : OfK k [] := ⟨fun s h => by simp at h, fun i s t h => by simp at h⟩
theorem ofK_snoc {k : Kd} {st : List Step} {t : Step} (h : OfK k st) (hj : t.2 ∈ k.js) (hl : ∀ l, st.getLast? = some l → k.ap ≤ t.1 - l.1) : OfK k (st ++ [t]) := by
  refine ⟨fun s hs => ?_, fun i s u h1 h2 => ?_⟩
  · rcases List.mem_append.mp hs with z | z
    · exact h.js s z
    · rw [List.mem_singleton.mp z]; exact hj
  · have hi : i + 1 < (st ++ [t]).length := (List.getElem?_eq_some_iff.mp h2).1
    rw [List.length_append, List.length_singleton] at hi
    by_cases e : i + 1 < st.length
    · rw [List.getElem?_append_left (by omega)] at h1
      rw [List.getElem?_append_left e] at h2
      exact h.gap i s u h1 h2
    · have ei : i + 1 = st.length := by omega
      rw [List.getElem?_append_left (by omega)] at h1
      rw [List.getElem?_append_right (by omega), ei, Nat.sub_self] at h2
      cases h2
      refine hl s ?_
      rw [List.getLast?_eq_getElem?, ← ei]
      exact h1
theorem first_none {p : Nat → Bool} : ∀ {n : Nat}, (∀ i, i < n → p i = false) → first p n = none
  | 0, _ => rfl
  | n + 1, h => first_snoc (first_none fun i hi => h i (by omega)) (h n (by omega))
theorem ofK_why {k : Kd} {st : List Step} (h : OfK k st) (hl : (st.length : Int) ≤ k.mo) : whyD k st = .none := by
  unfold whyD
  rw [if_neg (by omega)]
  have e1 : first (pJ k.js st) st.length = none := first_none fun i hi => by
    unfold pJ
    rw [List.getElem?_eq_getElem hi]
    simp [h.js _ (List.getElem_mem hi)]
  have e2 : first (pA k.ap st) (st.length - 1) = none := first_none fun i hi => by
    have l1 : i < st.length := by omega
    have l2 : i + 1 < st.length := by omega
    unfold pA
    rw [List.getElem?_eq_getElem l1, List.getElem?_eq_getElem l2]
    have := h.gap i _ _ (List.getElem?_eq_getElem l1) (List.getElem?_eq_getElem l2)
    exact decide_eq_false (by omega)
  rw [e1, e2]
theorem k0 {k : Kd} : atI [PyData.list (k.js.map PyData.int), .int k.ap, .int k.mo] 0 = some (.list (k.js.map PyData.int)) := rfl
theorem k1 {k : Kd} : atI [PyData.list (k.js.map PyData.int), .int k.ap, .int k.mo] 1 = some (.int k.ap) := rfl
theorem k2 {k : Kd} : atI [PyData.list (k.js.map PyData.int), .int k.ap, .int k.mo] 2 = some (.int k.mo) := rfl
section
variable {X : Cx} {M : List Addr} {σ : L2.St} {H : Hp} {a b e o : Expr} {pos p1 p2 p3 tpos : Pos} {xs : List V} {l : Addr} {D : Ends} {rest : List Stmt} {elt : Expr} {ifs : List Expr} {scope : Scope} {own : List (Str × Nat)} {ds ds2 : List PyData}
/-- o.append(e), whatever happens in e -/
theorem rb_appendE (ho : XV X σ H o (.ref l)) (h1 : H l = some (.lst xs)) (hz : xs.length < 100000) (he : ∀ H1, Same H H1 → RE X e σ H1 fun v H2 => H2 l = some (.lst xs) ∧ RB X rest D σ (upd H2 l (.lst (xs ++ [v]))))
    (hbase : attributeBase o "append" X.env (eval o X.env) = eval o X.env := by rfl)
    (hfew : ((backTo p2 (starEach [e] X.env)).all (fun x => !x.1) && (backToKw p2 (keywordEach [] X.env)).all (fun x => x.1.isSome) && decide ([e].length + ([] : List Keyword).length + (if ([] : List Keyword).isEmpty then 0 else 1) < 30)) = true := by rfl)
    (hline : (p1.endLine == p2.line) = true := by rfl) (hs : starEach [e] X.env = (false, eval e X.env) :: starEach [] X.env := by rfl) (hplain : (backTo p2 (starEach [] X.env)).any (·.1) = false := by rfl)
    (hsw : swapsWith (.Call (.Attribute o "append" p1) [e] [] p2) none pos.line X.env = pure false := by rfl) : RB X (.Expr (.Call (.Attribute o "append" p1) [e] [] p2) pos :: rest) D σ H :=
  rb_exprR ⟨_, pe_bm PySem.F.plainAttrs_list PySem.F.slot_list_append PySem.F.type_list_append mt_append re_ ra_ hbase hfew hline hs hplain,
    ho H (Same.refl H) _ fun H1 s1 => ⟨.inl ⟨rfl, xs, SqL.of (s1 _ _ h1)⟩, ra_1 (re_mono (he H1 s1) fun v H2 ⟨h2, q⟩ => ⟨l, xs, v, rfl, rfl, h2, Nat.lt_of_lt_of_le hz (by decide), q⟩) hs⟩⟩ hsw
theorem cut1 (xs : List PyData) : Dl.cutD xs (some 1) none = xs.drop 1 := by
  unfold Dl.cutD
  have e1 : HT.sIx xs.length 0 (some 1) = min 1 xs.length := HT.sIx_nat _ _ 1
  rw [HT.sIx_none, e1]
  cases xs with
  | nil => rfl
  | cons x xs =>
    have e2 : min 1 (x :: xs).length = 1 := by simp
    rw [e2]
    show List.take _ xs = xs
    exact List.take_of_length_le (by simp)
/-- a comprehension over zip that leaves all out -/
theorem xl_zipNone {elts : List Expr} {kk : Nat} (hm : X.mg "zip" = none) (L : Live M H) (hN : X.N.Nodup) (ha : XD X M σ H a (.list ds)) (hb : XD X M σ H b (.list ds2)) (ok : BlkOk X.N X.env.scope scope own)
    (hst : ∀ (i : Nat) d d2 T x y H1, ds[i]? = some d → ds2[i]? = some d2 → Same H H1 → Dq X.K (hid M H1) x d → Dq X.K (hid M H1) y d2 → H1 T = some (.tup [x, y]) → BG X scope (.Tuple elts kk tpos) (.ref T) (wipe σ (own.map (·.2))) H1 fun τ H2 => wipe τ (own.map (·.2)) = wipe σ (own.map (·.2)) ∧ BT X scope ifs τ H2 fun k H3 => Same H1 H3 ∧ k = false)
    (hc : X.calm = true := by rfl) (hs : ∀ x, foldedSetIterable (.Call (.Name "zip" p1) [a, b] [] p2) X.env x = pure x := by intro _; rfl) (hg : Gl X "zip" := by rfl)
    (he : starEach [a, b] X.env = (false, eval a X.env) :: starEach [b] X.env := by rfl) (he2 : starEach [b] X.env = (false, eval b X.env) :: starEach [] X.env := by rfl) (hpl : (backTo p2 (starEach [b] X.env)).any (·.1) = false := by rfl) :
    XL X M σ H (.ListComp elt [⟨.Tuple elts kk tpos, .Call (.Name "zip" p1) [a, b] [] p2, ifs, 0⟩] scope pos) [] := fun H1 s1 Q q =>
  ⟨_, pe_lc (own := own) hc hN (pi_zip hg hm ra_ he hpl) ok (fun _ _ _ _ _ => bg_) (fun _ _ _ _ _ => bt_) (fun _ _ _ _ _ => be_) hs, ra_cons (ha H1 s1 _ fun v H2 s2 hv => ra_1 (hb H2 (s1.trans s2) _ fun u H3 s3 hu => by
    obtain ⟨pa, xs, rfl, hpa, hx⟩ := dp_lst (hv.up (hid_mono s3))
    obtain ⟨pb, ys, rfl, hpb, hy⟩ := dp_lst hu
    have s03 := (s1.trans s2).trans s3
    refine ⟨pa, pb, xs, ys, rfl, SqL.of (hid_le _ _ hpa), SqL.of (hid_le _ _ hpb), fun p hp => ?_⟩
    refine ⟨fun i m Hx => m + i = min xs.length ys.length ∧ Same H3 Hx ∧ Hx p = some (.lst []), ⟨min xs.length ys.length, rfl, same_new hp, upd_same⟩, fun i m Hx w => ?_⟩
    obtain ⟨hmi, sx, hpx⟩ := w
    have ga : SqL X.K Hx pa xs := SqL.of (sx _ _ (hid_le _ _ hpa))
    have gb : SqL X.K Hx pb ys := SqL.of (sx _ _ (hid_le _ _ hpb))
    by_cases hlt : i < min xs.length ys.length
    · have l1 : i < xs.length := by omega
      have l2 : i < ys.length := by omega
      refine .inr ⟨⟨xs, ys, xs[i], ys[i], ga, gb, List.getElem?_eq_getElem l1, List.getElem?_eq_getElem l2⟩, fun Hy => Same H3 Hy ∧ Hy p = some (.lst []), fun Hy hy => ⟨m - 1, by omega, by omega, hy.1, hy.2⟩, fun v Hy hyl => ?_⟩
      obtain ⟨T, x, y, rfl, hT, rfl, h1, h2⟩ := hyl
      obtain ⟨d, hd1, hd2⟩ := dpa_get' hx (h1 xs ga)
      obtain ⟨d2, hd3, hd4⟩ := dpa_get' hy (h2 ys gb)
      have sy : Same Hx (upd Hx T (.tup [x, y])) := same_new hT
      refine bg_mono (hst i d d2 T x y _ hd1 hd3 ((s03.trans sx).trans sy) (hd2.up (hid_mono (sx.trans sy))) (hd4.up (hid_mono (sx.trans sy))) upd_same) fun τ Ha ⟨hw, hbt⟩ => ⟨hw, bt_mono hbt fun k Hb ⟨sb, hk⟩ => ?_⟩
      subst hk
      exact iteF ⟨(sx.trans sy).trans sb, sb _ _ (sy _ _ hpx)⟩
    · refine .inl ⟨⟨xs, ys, ga, gb, by omega⟩, q p [] Hx ((s2.trans s3).trans sx) ((s2.trans s3).free hp) hpx .nil⟩) he2) he⟩
end
/-- where a moment of the steps can lie -/
def MB (k : Kd) (m0 : Int) (i : Nat) (m : Int) : Prop := 0 ≤ k.ap → m0 - 2000 ≤ m ∧ m ≤ m0 + 2000 + (i : Int) * (k.ap + 3000)
theorem mb_mul (A : Int) (i : Nat) : ((i + 1 : Nat) : Int) * A = (i : Int) * A + A := by
  rw [Int.natCast_add, Int.add_mul]
  show _ + 1 * A = _
  rw [Int.one_mul]
theorem MB.succ {k : Kd} {m0 m : Int} {i : Nat} (h : MB k m0 i m) : MB k m0 (i + 1) m := fun h0 => by
  obtain ⟨a, b⟩ := h h0
  have := mb_mul (k.ap + 3000) i
  omega
theorem MB.next {k : Kd} {m0 m z : Int} {i : Nat} (h : MB k m0 i m) (hz : 0 ≤ z) (hz2 : z ≤ 3000) : MB k m0 (i + 1) (m + k.ap + z) := fun h0 => by
  obtain ⟨a, b⟩ := h h0
  have := mb_mul (k.ap + 3000) i
  omega
theorem MB.three {k : Kd} {m0 m : Int} {i : Nat} (h : MB k m0 i m) (hi : i ≤ 3) : MB k m0 3 m := fun h0 => by
  obtain ⟨a, b⟩ := h h0
  have := Int.mul_le_mul_of_nonneg_right (show (i : Int) ≤ ((3 : Nat) : Int) by omega) (show 0 ≤ k.ap + 3000 by omega)
  omega
def spLSteps (K : PySem.W.Frag) : Sp := fun vs H Q _ => ∃ (M : List Addr) (b : Addr) (n : Nat) (k : Kd) (vk : V) (m0 : Int), vs = [.ref b, vk, .int m0] ∧ Live M H ∧ BagAt H b n ∧ n ≤ 900000 ∧ Dq K (hid (b :: M) H) vk (kindD k) ∧ (1 ≤ k.js.length ∧ k.js.length ≤ 10) ∧ (0 ≤ k.mo ∧ k.mo ≤ 3) ∧
  ∀ (st : List Step) v H1, OfK k st → (st.length : Int) ≤ k.mo → (∀ s ∈ st, MB k m0 3 s.1) → SameB b H H1 → BagAt H1 b (n + 30) → Dq K (hid (b :: M) H1) v (.list (st.map stepD)) → Q v H1
section
variable {P : Program} {w : World} {K : PySem.W.Frag} {mg : Str → Option Value} {base : Heap} {CK : Addr}
theorem scLSteps : FnScope ["_law_bag_here", "_law_kind_here", "_law_moment", "_law_found", "_law_lap"] ["_law_bag_here", "_law_kind_here", "_law_moment"] (defScope sLSteps) := ⟨rfl, rfl, rfl, by decide +kernel, rfl, by decide +kernel, by decide +kernel⟩
theorem ok_lsteps {f fT : Addr} {fd fdT : FuncData} (T : Nm mg) (FT : Df K mg "_law_take" sTake ["_law_bag_here", "_law_many"] fT fdT) (F : Df K mg "_law_steps" sLSteps ["_law_bag_here", "_law_kind_here", "_law_moment"] f fd) : FnOk P w K mg base CX0 2 f fd ["_law_bag_here", "_law_kind_here", "_law_moment"] (spLSteps K) := by
  have GT : FnOk P w K mg base CX0 1 fT fdT ["_law_bag_here", "_law_many"] spTake := ok_take FT
  refine F.F.ok scLSteps (fun vs H Q E h => ?_) (fun cdv A outer s0 H vs Q E hr h => ?_)
  · obtain ⟨M, b, n, k, vk, m0, rfl, _⟩ := h; rfl
  · obtain ⟨M, b, n, k, vk, m0, rfl, L, hB, hn, hk, ⟨hj1, hj4⟩, ⟨hm0, hm1⟩, q⟩ := h
    have c200 : (200 : Nat) < 2 ^ 200 := by decide
    have hjl : ((k.js.map PyData.int).length : Int) = (k.js.length : Int) := by rw [List.length_map]
    refine rb_setL 3 (M := []) (xl_lst Live.nil xa_nil) (fun p xs H1 s1 hp h1 hx => ?_) scLSteps.nd
    cases hx
    have npb : p ≠ b := fun z => by subst z; exact hB.some hp
    have hB1 := bag_sameB hB s1
    refine rb_setR 2 ?_ scLSteps.nd
    refine re_subI (re_addI (re_int (xv_name 2 rfl) fun H2 s2 => ⟨m0, rfl, re_take GT FT hr (xv_name 0 rfl) xv_int (bag_sameB hB1 s2) fun r H3 r0 r1 sB3 hB3 => ⟨r, rfl, m0 + r, rfl, re_int xv_int fun H4 s4 => ⟨2000, rfl, ?_⟩⟩⟩))
    have sB14 : SameB b H1 H4 := ((SameB.of s2).trans sB3).trans (.of s4)
    have hB4 := hB3.up s4 (Nat.le_refl _)
    have sB04 : SameB b H H4 := (SameB.of s1).trans sB14
    have g04 : Same (hid (b :: M) H) (hid (b :: M) H4) := sB04.hid (List.mem_cons_self ..)
    have hk4 := hk.up g04
    have hp4 : H4 p = some (.lst []) := sB14 _ _ npb h1
    refine rb_range T.rng (re_call GT hr FT.g FT.F.kp FT.b (ra_cons ((xv_name 0 rfl).go fun H5 s5 => ra_1 (XV.go (xd_add (M := b :: M) (xd_ixT (fun _ _ => rfl) (xd_name 1 rfl (hk4.up (hid_mono s5))) xd_int k2) xd_int).vint fun H6 s6 => ?_))))
    refine ⟨b, k.mo + 1, n + 1, rfl, by omega, by omega, by omega, hB4.up (s5.trans s6) (Nat.le_refl _), fun r5 H7 r50 r51 sB7 hB7 => ?_⟩
    have sB47 : SameB b H4 H7 := (SameB.of (s5.trans s6)).trans sB7
    refine ⟨r5.toNat, by rw [Int.toNat_of_nonneg r50], by omega, fun i σ' H' => ∃ (st : List Step) (m : Int) (xs : List V) (a4 : Option V), σ' = [some (.ref b), some vk, some (.int m), some (.ref p), a4] ∧ SameB b H H' ∧ H' p = some (.lst xs) ∧ DqAll K (hid (p :: b :: M) H') xs (st.map stepD) ∧
        BagAt H' b (n + 4 + 3 * i) ∧ st.length = i ∧ OfK k st ∧ (∀ l, st.getLast? = some l → k.ap ≤ m - l.1) ∧ MB k m0 i m ∧ ∀ s ∈ st, MB k m0 i s.1, ?_, ?_, ?_⟩
    · exact ⟨[], _, [], none, rfl, sB04.trans sB47, sB47 _ _ npb hp4, .nil, hB7.up (Same.refl _) (by omega), rfl, ofK_nil k, fun l hl => (by simp at hl), fun _ => (by simp; omega), fun s hs => (by cases hs)⟩
    · intro i σ' H' hin hw
      obtain ⟨st, m, xs, a4, rfl, sB, hpx, hxs, hBi, hsl, hof, hlast, hmb, hmbs⟩ := hw
      have hi3 : i < 3 := by omega
      have hxl : xs.length < 100000 := by rw [dpa_len hxs, List.length_map]; omega
      refine rg_name 4 ?_ scLSteps.nd
      have hk' := hk.up (sB.hid (M := b :: M) (List.mem_cons_self ..))
      refine rb_appendE (xv_name 3 rfl) hpx hxl fun H8 s8 => ?_
      refine ⟨_, pe_tup ra_, ra_cons (XV.go (xv_name 2 rfl) fun H9 s9 => ra_1 ⟨_, pe_ix ix_list re_ re_ (fun _ _ => rfl), XD.go (M := b :: M) (xd_ixT (fun _ _ => rfl) (xd_name 1 rfl (hk'.up (hid_mono (s8.trans s9)))) xd_int k0) fun vj Ha sa hvj => ?_⟩)⟩
      obtain ⟨pj, ys, rfl, hpj, hys⟩ := dp_lst hvj
      have ey := ints_v hys
      subst ey
      have s8a := (s8.trans s9).trans sa
      have npj : pj ≠ b := fun z => by
        unfold hid at hpj
        rw [if_pos (by rw [z]; exact List.mem_cons_self ..)] at hpj
        cases hpj
      have hpj' := hid_le _ _ hpj
      refine re_take GT FT hr (xv_name 0 rfl) ((xd_len (M := b :: M) T.len (xd_ixT (fun _ _ => rfl) (xd_name 1 rfl (hk'.up (hid_mono s8a))) xd_int k0)).vint) (hBi.up s8a (Nat.le_refl _)) (fun r Hb r0 r1 sBb hBb => ?_) (by rw [hjl]; omega) (by rw [hjl]; omega)
      rw [hjl] at r1
      have hrl : r.toNat < k.js.length := by omega
      have sB8b : SameB b H' Hb := (SameB.of s8a).trans sBb
      refine ⟨pj, _, r, _, rfl, rfl, SqL.of (sBb _ _ npj hpj'), at_menu r0 hrl, ?_⟩
      refine ⟨by show 2 ≤ sizeLine; decide, fun t ht => ⟨?_, ?_⟩⟩
      · have npt : t ≠ p := fun z => by subst z; rw [sB8b _ _ npb hpx] at ht; cases ht
        rw [upd_ne (Ne.symm npt)]
        exact sB8b _ _ npb hpx
      · have npt : t ≠ p := fun z => by subst z; rw [sB8b _ _ npb hpx] at ht; cases ht
        have nbt : t ≠ b := fun z => by subst z; exact hBb.some ht
        have hBc : BagAt (upd (upd Hb t (.tup [V.int m, V.int k.js[r.toNat]])) p (.lst (xs ++ [V.ref t]))) b (n + 4 + 3 * i + 1) := by
          obtain ⟨g, mm, c, e1, e2, e3, e4, e5⟩ := hBb
          exact ⟨g, mm, c, by rw [upd_ne (Ne.symm npb), upd_ne (Ne.symm nbt)]; exact e1, e2, e3, e4, by omega⟩
        have sBc : SameB b H (upd (upd Hb t (.tup [V.int m, V.int k.js[r.toNat]])) p (.lst (xs ++ [V.ref t]))) := fun a o na e => by
          rw [upd_ne (ne_of_none e hp)]
          have z := sB8b a o na (sB a o na e)
          rw [upd_ne (ne_of_none z ht)]
          exact z
        have gx : Same (hid (p :: b :: M) H') (hid (p :: b :: M) (upd (upd Hb t (.tup [V.int m, V.int k.js[r.toNat]])) p (.lst (xs ++ [V.ref t])))) := by
          rw [hid_cons_upd]
          exact ((sB8b.hid (M := p :: b :: M) (List.mem_cons_of_mem _ (List.mem_cons_self ..))).trans (hid_mono (same_new ht)))
        have htM : t ∉ p :: b :: M := fun z => by
          rcases List.mem_cons.mp z with e | z
          · exact npt e
          · rcases List.mem_cons.mp z with e | z
            · exact nbt e
            · cases e2 : H t with
              | none => exact L t z e2
              | some o => rw [sB8b t o nbt (sB t o nbt e2)] at ht; cases ht
        have hxs2 : DqAll K (hid (p :: b :: M) (upd (upd Hb t (.tup [V.int m, V.int k.js[r.toNat]])) p (.lst (xs ++ [V.ref t])))) (xs ++ [V.ref t]) ((st ++ [(m, k.js[r.toNat])]).map stepD) := by
          rw [List.map_append]
          refine dpa_app (hxs.up gx) (.cons ?_ .nil)
          refine .tup (SqT.of (xs := [V.int m, V.int k.js[r.toNat]]) ?_) (.cons (.int _) (.cons (.int _) .nil))
          rw [hid_of htM, upd_ne npt]
          exact upd_same
        have hpc : upd (upd Hb t (.tup [V.int m, V.int k.js[r.toNat]])) p (.lst (xs ++ [V.ref t])) p = some (.lst (xs ++ [V.ref t])) := upd_same
        show RB _ _ _ _ (upd (upd Hb t (.tup [V.int m, V.int k.js[r.toNat]])) p (.lst (xs ++ [V.ref t])))
        generalize upd (upd Hb t (.tup [V.int m, V.int k.js[r.toNat]])) p (.lst (xs ++ [V.ref t])) = Hc at hBc sBc hxs2 hpc
        have hkc := hk.up (sBc.hid (M := b :: M) (List.mem_cons_self ..))
        refine rb_setR 2 ?_ scLSteps.nd
        refine re_addI (re_addI (re_int (xv_name 2 rfl) fun Hd sd => ⟨m, rfl, re_int (xd_ixT (M := b :: M) (fun _ _ => rfl) (xd_name 1 rfl (hkc.up (hid_mono sd))) xd_int k1).vint fun He se => ⟨k.ap, rfl, m + k.ap, rfl, ?_⟩⟩))
        refine re_menu (n := 3) (fun _ _ => rfl) (by decide) ?_
        refine ra_int xv_int fun Hf sf => ?_
        refine ra_int xv_int fun Hg sg => ?_
        have scg := ((sd.trans se).trans sf).trans sg
        refine ra_1 (re_take GT FT hr (xv_name 0 rfl) xv_int (hBc.up scg (Nat.le_refl _)) fun t1 Hh t10 t11 sBh hBh => ⟨[0, 0, t1], rfl, rfl, fun l hl => ?_⟩)
        refine re_take GT FT hr (xv_name 0 rfl) xv_int (bag_new hBh hl) fun t2 Hi t20 t21 sBi hBi2 => ⟨t2, rfl, t20, t21, sBi _ _ (fun z => by subst z; exact hBh.some hl) upd_same, fun z hz => ⟨z, rfl, rb_nil ?_⟩⟩
        have hz0 : 0 ≤ z := by
          have hz' : z = 0 ∨ z = 0 ∨ z = t1 := by simpa using hz
          rcases hz' with e | e | e <;> omega
        have hz3 : z ≤ 3000 := by
          have hz' : z = 0 ∨ z = 0 ∨ z = t1 := by simpa using hz
          rcases hz' with e | e | e <;> omega
        have sBci : SameB b Hc Hi := ((SameB.of scg).trans sBh).trans ((sameB_new hl).trans sBi)
        refine ⟨st ++ [(m, k.js[r.toNat])], m + k.ap + z, xs ++ [V.ref t], some (.int (i : Int)), rfl, sBc.trans sBci, sBci _ _ npb hpc, hxs2.up (sBci.hid (List.mem_cons_of_mem _ (List.mem_cons_self ..))), hBi2.up (Same.refl _) (by omega), by rw [List.length_append, hsl]; rfl, ofK_snoc hof (List.getElem_mem hrl) (fun l hl => hlast l hl), fun l hl => ?_, hmb.next hz0 hz3, fun s hs => ?_⟩
        rotate_left
        · rcases List.mem_append.mp hs with e | e
          · exact (hmbs s e).succ
          · rw [List.mem_singleton.mp e]; exact hmb.succ
        rw [List.getLast?_append] at hl
        simp at hl
        rw [← hl]
        show k.ap ≤ m + k.ap + z - m
        omega
    · intro σ' H' hw
      obtain ⟨st, m, xs, a4, rfl, sB, hpx, hxs, hBi, hsl, hof, hlast, hmb, hmbs⟩ := hw
      refine rb_retR (XV.go (xv_name 3 rfl) fun H8 s8 => ?_)
      have npM : p ∉ b :: M := fun z => by
        rcases List.mem_cons.mp z with e | z
        · exact npb e
        · exact L p z hp
      refine q st (.ref p) H8 hof (by omega) (fun s hs => (hmbs s hs).three (by omega)) (sB.trans (.of s8)) (hBi.up s8 (by omega)) (.lst (by rw [hid_of npM]; exact s8 _ _ hpx) ((hxs.up (hid_mono s8)).up hid_weak))
end
end Zn

set_option Elab.async false
set_option linter.all false
set_option maxRecDepth 100000
set_option maxHeartbeats 8000000
namespace Zn
open PySem PySem.Spec PyProof.Rows L2 Dl
def RIsOf (ds : List PyData) (d : PyData) : Prop := ∃ (k : Kd) (f : Int) (st : List Step), ds = [kindD k, planD f st] ∧ OfK k st ∧ (st.length : Int) ≤ k.mo ∧ st.length ≤ 50 ∧ d = .bool true
theorem step0 {s : Step} : atI [PyData.int s.1, .int s.2] 0 = some (.int s.1) := rfl
theorem step1 {s : Step} : atI [PyData.int s.1, .int s.2] 1 = some (.int s.2) := rfl
theorem stepN {st : List Step} {i : Nat} {s : Step} (h : st[i]? = some s) {j : Int} (hj : j = (i : Int)) : atI (st.map stepD) j = some (stepD s) := by
  rw [hj]
  exact atI_nat (by rw [List.getElem?_map, h]; rfl)
section
variable {P : Program} {w : World} {K : PySem.W.Frag} {mg : Str → Option Value} {base : Heap} {CK : Addr}
theorem fm_none : ∀ st : List Step, (st.map stepD).filterMap (fun _ => (none : Option PyData)) = []
  | [] => rfl
  | s :: st => by rw [List.map_cons, List.filterMap_cons]; exact fm_none st
theorem eqv_nil : PyData.eqv (.list []) (.list []) = true := by simp [PyData.eqv, PyData.eqvAll]
theorem scLIsOf : FnScope ["_law_kind_here", "_law_plan", "_law_step", "_law_one", "_law_other"] ["_law_kind_here", "_law_plan"] (defScope sLIsOf) := ⟨rfl, rfl, rfl, by decide +kernel, rfl, by decide +kernel, by decide +kernel⟩
theorem ok_lisof {f : Addr} {fd : FuncData} (T : Nm mg) (hz : mg "zip" = none) (F : Df K mg "_law_is_of" sLIsOf ["_law_kind_here", "_law_plan"] f fd) : FnOk P w K mg base CX0 1 f fd ["_law_kind_here", "_law_plan"] (spR K RIsOf) := by
  refine F.F.ok scLIsOf (fun vs H Q E h => ?_) (fun cdv A outer s0 H vs Q E hr h => ?_)
  · obtain ⟨M, ds, d, L, hd, ⟨k, f, st, rfl, _⟩, q⟩ := h
    exact dpa_len hd
  · obtain ⟨M, ds, d, L, hd, ⟨k, f, st, rfl, hof, hmo, hlen, rfl⟩, q⟩ := h
    cases hd with
    | cons h1 hd => cases hd with
      | cons h2 hd =>
        cases hd
        refine rb_ifF ((xt_or2 (xt_cmpI (M := M) op_gt (xd_len T.len (xd_ixT (fun _ _ => rfl) (xd_name 1 rfl h2) xd_int plan1)) (xd_ixT (fun _ _ => rfl) (xd_name 0 rfl h1) xd_int k2)) fun _ =>
          xt_neD (M := M) hr.units (XL.dd ((xl_comp (own := [("_law_step", 2)]) (fun _ => (none : Option PyData)) L scLIsOf.nd (xd_ixT (fun _ _ => rfl) (xd_name 1 rfl h2) xd_int plan1) (blkOk_by (own := [("_law_step", 2)]) (N := ["_law_kind_here", "_law_plan", "_law_step", "_law_one", "_law_other"]) (sc := defScope sLIsOf) (by decide +kernel)) (by rw [List.length_map]; omega) (fun p d v H1 hd hp s1 Lp hv => ?cmp)).to (fm_none st)) L)
            (xd_lst L xa_nil) shaped_nil shaped_nil).to (by
              rw [List.length_map, decide_eq_false (by omega), eqv_nil]
              rfl)) fun H1 s1 => ?_
        case cmp =>
          obtain ⟨sx, hsx, rfl⟩ := mem_step hd
          intro s0 H0 C0 cl fp
          refine rg_name 2 ?_ scLIsOf.nd
          have h1' : Dq K (hid (p :: M) H1) _ (kindD k) := h1.up (hid_step hp s1)
          have hv : Dq K (hid (p :: M) H1) v (stepD sx) := hv
          refine ⟨rfl, bt_one (k := false) (fun s0 H0 C0 cl fp => ?_) fun H2 s2 => ⟨s2, .inr ⟨rfl, rfl⟩⟩⟩
          refine (xt_notInS (M := p :: M) (ns := k.js) (.inl rfl) (xd_ixT (fun _ _ => rfl) (xd_name 2 rfl hv) xd_int step1) (xd_ixT (fun _ _ => rfl) (xd_name 0 rfl h1') xd_int k0)).to ?_
          rw [decide_eq_true (hof.js sx hsx)]
          rfl
        have L1 := L.mono s1
        have g1 := h1.up (hid_mono (M := M) s1)
        have g2 := h2.up (hid_mono (M := M) s1)
        refine rb_ret (M := M) ((xd_eqD hr.units (XL.dd (xl_zipNone (own := [("_law_one", 3), ("_law_other", 4)]) hz L1 scLIsOf.nd (xd_ixT (fun _ _ => rfl) (xd_name 1 rfl g2) xd_int plan1) (XL.dd ((xl_cut L1 (xd_ixT (fun _ _ => rfl) (xd_name 1 rfl g2) xd_int plan1) (xo_some (M := M) xd_int) xo_none).to (cut1 _)) L1)
          (blkOk_by (own := [("_law_one", 3), ("_law_other", 4)]) (N := ["_law_kind_here", "_law_plan", "_law_step", "_law_one", "_law_other"]) (sc := defScope sLIsOf) (by decide +kernel)) (fun i d d2 T x y H2 hd hd2 s2 hx hy hT => ?cmz)) L1) (xd_lst L1 xa_nil) shaped_nil shaped_nil).to (by rw [eqv_nil])) fun v H2 s2 hv => q v H2 (s1.trans s2) hv
        obtain ⟨sx, hsx, rfl⟩ := map_get hd
        rw [List.getElem?_drop, List.getElem?_map, Nat.add_comm] at hd2
        cases es : st[i + 1]? with
        | none => rw [es] at hd2; cases hd2
        | some sy =>
          rw [es] at hd2
          cases hd2
          have hg := hof.gap i sx sy hsx es
          intro s0 H0 C0 cl fp
          refine rg_tup (SqT.of hT) (rgs_cons (rg_name 3 (rgs_cons (rg_name 4 (rgs_nil ?_) scLIsOf.nd)) scLIsOf.nd))
          have g1' : Dq K (hid M H2) _ (kindD k) := g1.up (hid_mono (M := M) s2)
          have hx : Dq K (hid M H2) x (stepD sx) := hx
          have hy : Dq K (hid M H2) y (stepD sy) := hy
          refine ⟨rfl, bt_one (k := false) (fun s0 H0 C0 cl fp => ?_) fun H3 s3 => ⟨s3, rfl⟩⟩
          refine (xt_cmpI (M := M) op_lt (xd_sub (xd_ixT (fun _ _ => rfl) (xd_name 4 rfl hy) xd_int step0) (xd_ixT (fun _ _ => rfl) (xd_name 3 rfl hx) xd_int step0)) (xd_ixT (fun _ _ => rfl) (xd_name 0 rfl g1') xd_int k1)).to ?_
          exact decide_eq_false (by omega)
/-! equal -/
/-! reason -/
end
end Zn

set_option Elab.async false
set_option linter.all false
set_option maxRecDepth 100000
set_option maxHeartbeats 8000000
namespace Zn
open PySem PySem.Spec PyProof.Rows L2 Dl
/-! k05: the row is everyzone_k36_changes_left_by_logs (texts by retarget.py) -/
abbrev sOffAt : Stmt := inClass (top 21) 7
abbrev sRead : Stmt := inClass (top 21) 8
def offAt (m : Int) : Int → List Row → Int
  | o, [] => o
  | o, r :: rs => offAt m (if r.1 ≤ m then r.2.2 else o) rs
theorem offAt_snoc (m : Int) : ∀ (o : Int) (rs : List Row) (r : Row), offAt m o (rs ++ [r]) = if r.1 ≤ m then r.2.2 else offAt m o rs
  | o, [], r => rfl
  | o, s :: rs, r => offAt_snoc m _ rs r
def spMI (K : PySem.W.Frag) (C : Addr) (f : Int → List Row → Int → Int) : Sp := fun vs H Q _ => ∃ (M : List Addr) (a : Addr) (off : Int) (rs : List Row) (m : Int), vs = [.ref a, .int m] ∧ Live M H ∧ ZAt K C (hid M H) a off rs ∧ rs.length ≤ 1000 ∧ ∀ H1, Same H H1 → Q (.int (f off rs m)) H1
section
variable {P : Program} {w : World} {K : PySem.W.Frag} {mg : Str → Option Value} {base : Heap} {C : Addr}
theorem scOffAt : FnScope ["self", "moment", "offset", "change", "before", "after"] ["self", "moment"] (defScope sOffAt) := ⟨rfl, rfl, rfl, by decide +kernel, rfl, by decide +kernel, by decide +kernel⟩
theorem ok_offsetAt {f fN fW : Addr} {fd fdN fdW : FuncData} (T : Nm mg) (Z : ZT K mg C) (FW : Df K mg "is_whole" sWhole ["value"] fW fdW) (FN : Df K mg "need_integer" sNeed ["value"] fN fdN) (F : Fun K "offset_at" "Zone.offset_at" sOffAt f fd) : FnOk P w K mg base CX0 3 f fd ["self", "moment"] (spMI K C fun off rs m => offAt m off rs) := by
  have GN : FnOk P w K mg base CX0 2 fN fdN ["value"] (spR K RNeed) := ok_need T FW FN
  refine F.ok scOffAt (fun vs H Q E h => ?_) (fun cdv A outer s H vs Q E hr h => ?_)
  · obtain ⟨M, a, off, rs, m, rfl, _⟩ := h; rfl
  · obtain ⟨M, a, off, rs, m, rfl, L, hz, hlen, q⟩ := h
    refine rb_expr (M := M) (d := .none) (xd_call L GN hr FN.g FN.F.kp FN.b (xa_cons (xv_name 1 rfl).int xa_nil) ⟨m, rfl, rfl⟩) fun H1 s1 => ?_
    have hz1 := hz.up (hid_mono (M := M) s1)
    refine rb_setV 2 (xv_base ⟨_, Z⟩ hz1 (xv_name 0 rfl)) (fun H2 s2 => ?_) scOffAt.nd
    have hz2 := hz1.up (hid_mono (M := M) s2)
    refine rb_for (M := M) (xd_rows ⟨_, Z⟩ hz2 (xv_name 0 rfl)) fun H3 s3 => ⟨fun k σ' H' => Same H3 H' ∧ ∃ a3 a4 a5, σ' = [some (.ref a), some (.int m), some (.int (offAt m off (rs.take k))), a3, a4, a5], ⟨Same.refl _, none, none, none, rfl⟩, fun k σ' H' w => hid_mono w.1, fun k it hk σ' H' v w hv => ?_, fun σ' H' w => ?_⟩
    · obtain ⟨z1, a3, a4, a5, rfl⟩ := w
      obtain ⟨r, hr1, rfl⟩ := map_get hk
      obtain ⟨t, rfl, ht⟩ := row_at hv
      refine rg_tup (same_seqT hid_le ht) (rgs_cons (rg_name 3 (rgs_cons (rg_name 4 (rgs_cons (rg_name 5 (rgs_nil ?_) scOffAt.nd)) scOffAt.nd)) scOffAt.nd))
      refine rb_if (xt_cmpI (M := []) op_le (xv_name 3 rfl).int (xv_name 1 rfl).int) (fun e H4 s4 => ?_) (fun e H4 s4 => rb_nil (rb_nil ?_))
      · refine rb_setV 2 (xv_name 5 rfl) (fun H5 s5 => rb_nil (rb_nil ?_)) scOffAt.nd
        refine ⟨(z1.trans s4).trans s5, some (.int r.1), some (.int r.2.1), some (.int r.2.2), ?_⟩
        rw [take_snoc hr1, offAt_snoc, if_pos (of_decide_eq_true e)]
        rfl
      · refine ⟨z1.trans s4, some (.int r.1), some (.int r.2.1), some (.int r.2.2), ?_⟩
        rw [take_snoc hr1, offAt_snoc, if_neg (of_decide_eq_false e)]
        rfl
    · obtain ⟨z1, a3, a4, a5, rfl⟩ := w
      rw [List.length_map, List.take_length]
      exact rb_retR (XV.go (xv_name 2 rfl) fun H5 s5 => q H5 ((((s1.trans s2).trans s3).trans z1).trans s5))
theorem scRead : FnScope ["self", "moment"] ["self", "moment"] (defScope sRead) := ⟨rfl, rfl, rfl, by decide +kernel, rfl, by decide +kernel, by decide +kernel⟩
theorem ok_read {f fO : Addr} {fd fdO : FuncData} (Z : ZT K mg C) (GO : FnOk P w K mg base CX0 3 fO fdO ["self", "moment"] (spMI K C fun off rs m => offAt m off rs)) (MO : Mt K C "offset_at" "Zone.offset_at" sOffAt ["self", "moment"] fO fdO) (F : Fun K "read" "Zone.read" sRead f fd) : FnOk P w K mg base CX0 4 f fd ["self", "moment"] (spMI K C fun off rs m => m + offAt m off rs) := by
  refine F.ok scRead (fun vs H Q E h => ?_) (fun cdv A outer s H vs Q E hr h => ?_)
  · obtain ⟨M, a, off, rs, m, rfl, _⟩ := h; rfl
  · obtain ⟨M, a, off, rs, m, rfl, L, hz, hlen, q⟩ := h
    have hz0 := hz
    obtain ⟨dx, r, e1, e2⟩ := hz
    have off1 : ∀ {H1 : Hp} {Q' : VK}, Same H H1 → (∀ H2, Same H1 H2 → Q' (.int (offAt m off rs)) H2) → spMI K C (fun off rs m => offAt m off rs) [.ref a, .int m] H1 Q' E0 := fun {H1 Q'} s1 k => ⟨M, a, off, rs, m, rfl, L.mono s1, hz0.up (hid_mono s1), hlen, k⟩
    refine rb_retR (re_addI (re_int (xv_name 1 rfl) fun H1 s1 => ⟨m, rfl, ?_⟩))
    refine re_meth (xv_name 0 rfl) (s1 _ _ (hid_le _ _ e1)) Z.cl MO.m (zf_none off r (by decide +kernel) (by decide +kernel)) GO hr MO.b (fun H2 s2 => ra_1 (XV.go (xv_name 1 rfl) fun H3 s3 => off1 ((s1.trans s2).trans s3) fun H4 s4 => ⟨_, rfl, q H4 (((s1.trans s2).trans s3).trans s4)⟩))
end
end Zn

set_option Elab.async false
set_option linter.all false
set_option maxRecDepth 100000
set_option maxHeartbeats 8000000
namespace Dl
open PySem PySem.Spec PyProof.Rows L2
section
variable {X : Cx} {M : List Addr} {σ : L2.St} {H : Hp} {e : Expr} {es : List Expr} {ds ds2 : List PyData} {pos : Pos}
/-- *e, e a list, in a display -/
theorem xa_star (ha : XD X M σ H e (.list ds)) (hr : XA X M σ H es ds2) (hs : starEach (.Starred e pos :: es) X.env = (true, eval e X.env) :: starEach es X.env := by rfl) : XA X M σ H (.Starred e pos :: es) (ds ++ ds2) := fun H1 s Q q =>
  ⟨_, StX.pa_star re_ ra_ hs, ha H1 s _ fun v H2 s2 hv => by
    obtain ⟨a, xs, rfl, ha', hx⟩ := dp_lst hv
    exact ⟨a, xs, rfl, .inr (SqL.of (hid_le _ _ ha')), hr H2 (s.trans s2) _ fun vs H3 s3 hvs => q _ H3 (s2.trans s3) (dpa_app (hx.up (hid_mono s3)) hvs)⟩⟩
/-- the truth of a list -/
theorem xt_list (ha : XD X M σ H e (.list ds)) (he : ∀ whole, isTrue e X.env whole = (do let v ← whole; standAt e.pos; holding [v] (truthy v)) := by intro _; rfl) : XT X σ H e (!ds.isEmpty) := fun H1 s Q q =>
  ⟨_, pt_truth re_ he, ha H1 s _ fun v H2 s2 hv => by
    obtain ⟨a, xs, rfl, ha', hx⟩ := dp_lst hv
    refine ⟨_, .inl ⟨xs, SqL.of (hid_le _ _ ha'), rfl⟩, ?_⟩
    have el := dpa_len hx
    have e : xs.isEmpty = ds.isEmpty := by
      cases xs with
      | nil => cases ds with
        | nil => rfl
        | cons d ds => simp at el
      | cons x xs => cases ds with
        | nil => simp at el
        | cons d ds => rfl
    rw [e]
    exact q H2 s2⟩
/-- a new list told -/
def NL (R : Rl α) (M : List Addr) (H : Hp) (as : List α) (Q : VK) : Prop := ∀ p xs H1, Same H H1 → H p = none → H1 p = some (.lst xs) → RAll R (hid M H1) xs as → Q (.ref p) H1
end
end Dl
namespace Zn
open PySem PySem.Spec PyProof.Rows L2 Dl
open Pm (Pl Pt pt withC longN over upto allP nextM)
/-! plans -/
abbrev sPInit : Stmt := inClass (top 37) 0
abbrev sPFor : Stmt := top 38
abbrev sPOver : Stmt := top 39
abbrev sPWith : Stmt := top 40
abbrev sPUpto : Stmt := top 41
def pf (v1 v2 v3 v4 : V) : List (Str × V) := [("base", v1), ("slots", v2), ("hops", v3), ("earliest", v4)]
theorem nSB : (("slots" : Str) == ("base" : Str)) = false := by decide +kernel
theorem nHB : (("hops" : Str) == ("base" : Str)) = false := by decide +kernel
theorem nHS : (("hops" : Str) == ("slots" : Str)) = false := by decide +kernel
theorem nEB : (("earliest" : Str) == ("base" : Str)) = false := by decide +kernel
theorem nES : (("earliest" : Str) == ("slots" : Str)) = false := by decide +kernel
theorem nEH : (("earliest" : Str) == ("hops" : Str)) = false := by decide +kernel
theorem pf_b (v1 v2 v3 v4 : V) : (pf v1 v2 v3 v4).lookup ("base" : Str) = some v1 := by unfold pf; simp [List.lookup]
theorem pf_s (v1 v2 v3 v4 : V) : (pf v1 v2 v3 v4).lookup ("slots" : Str) = some v2 := by unfold pf; simp [List.lookup, nSB]
theorem pf_h (v1 v2 v3 v4 : V) : (pf v1 v2 v3 v4).lookup ("hops" : Str) = some v3 := by unfold pf; simp [List.lookup, nHB, nHS]
theorem pf_e (v1 v2 v3 v4 : V) : (pf v1 v2 v3 v4).lookup ("earliest" : Str) = some v4 := by unfold pf; simp [List.lookup, nEB, nES, nEH]
theorem pf_p1 (v1 v2 : V) : putF "slots" v2 [(("base" : Str), v1)] = [(("base" : Str), v1), (("slots" : Str), v2)] := by
  show (if ("base" : Str) = "slots" then _ else (("base" : Str), v1) :: [(("slots" : Str), v2)]) = _
  rw [if_neg (by decide +kernel)]
theorem pf_p2 (v1 v2 v3 : V) : putF "hops" v3 [(("base" : Str), v1), (("slots" : Str), v2)] = [(("base" : Str), v1), (("slots" : Str), v2), (("hops" : Str), v3)] := by
  show (if ("base" : Str) = "hops" then _ else (("base" : Str), v1) :: (if ("slots" : Str) = "hops" then _ else (("slots" : Str), v2) :: [(("hops" : Str), v3)])) = _
  rw [if_neg (by decide +kernel), if_neg (by decide +kernel)]
theorem pf_p3 (v1 v2 v3 v4 : V) : putF "earliest" v4 [(("base" : Str), v1), (("slots" : Str), v2), (("hops" : Str), v3)] = pf v1 v2 v3 v4 := by
  show (if ("base" : Str) = "earliest" then _ else (("base" : Str), v1) :: (if ("slots" : Str) = "earliest" then _ else (("slots" : Str), v2) :: (if ("hops" : Str) = "earliest" then _ else (("hops" : Str), v3) :: [(("earliest" : Str), v4)]))) = _
  rw [if_neg (by decide +kernel), if_neg (by decide +kernel), if_neg (by decide +kernel)]
  rfl
def baseD : Option Int → PyData
  | none => .none
  | some b => .int b
def ptD (p : Pt) : PyData := .tuple [.int p.1, baseD p.2]
/-- at a a plan of the class at C -/
def PlAt (K : PySem.W.Frag) (C : Addr) (H : Hp) (a : Addr) (p : Pl) : Prop := ∃ dx v1 v2 v3 v4, H a = some (.ins C dx (pf v1 v2 v3 v4)) ∧ Dq K H v1 (baseD p.base) ∧ Dq K H v2 (.list (p.sl.map PyData.int)) ∧ Dq K H v3 (.list (p.hp.map PyData.int)) ∧ Dq K H v4 (.list (p.ea.map PyData.int))
theorem PlAt.up {K : PySem.W.Frag} {C : Addr} {H H' : Hp} {a : Addr} {p : Pl} (h : PlAt K C H a p) (s : Same H H') : PlAt K C H' a p := by
  obtain ⟨dx, v1, v2, v3, v4, h0, h1, h2, h3, h4⟩ := h
  exact ⟨dx, v1, v2, v3, v4, s _ _ h0, h1.up s, h2.up s, h3.up s, h4.up s⟩
def RPl (K : PySem.W.Frag) (C : Addr) : Rl Pl := ⟨fun H v p => ∃ a, v = .ref a ∧ PlAt K C H a p, fun s ⟨a, e, h⟩ => ⟨a, e, h.up s⟩⟩
structure PT (K : PySem.W.Frag) (mg : Str → Option Value) (C : Addr) : Prop where
  cl : Cls K C
  nB : NoAttr K C "base"
  nS : NoAttr K C "slots"
  nH : NoAttr K C "hops"
  nE : NoAttr K C "earliest"
  mgC : mg "Plan" = some (.ref C)
section
variable {X : Cx} {M : List Addr} {σ : L2.St} {H H' : Hp} {o : Expr} {pos : Pos} {K : PySem.W.Frag} {C pa : Addr} {p : Pl}
theorem xd_pbase (hZ : ∃ mg, PT X.K mg C) (h : PlAt X.K C (hid M H) pa p) (ho : XV X σ H o (.ref pa)) (hb : attributeBase o "base" X.env (eval o X.env) = eval o X.env := by rfl) : XD X M σ H (.Attribute o "base" pos) (baseD p.base) := by
  obtain ⟨dx, v1, v2, v3, v4, h0, h1, _⟩ := h
  obtain ⟨_, Z⟩ := hZ
  exact (xv_fld ho (hid_le _ _ h0) Z.cl Z.nB (pf_b _ _ _ _) hb).dd h1
theorem xd_pslots (hZ : ∃ mg, PT X.K mg C) (h : PlAt X.K C (hid M H) pa p) (ho : XV X σ H o (.ref pa)) (hb : attributeBase o "slots" X.env (eval o X.env) = eval o X.env := by rfl) : XD X M σ H (.Attribute o "slots" pos) (.list (p.sl.map PyData.int)) := by
  obtain ⟨dx, v1, v2, v3, v4, h0, h1, h2, _⟩ := h
  obtain ⟨_, Z⟩ := hZ
  exact (xv_fld ho (hid_le _ _ h0) Z.cl Z.nS (pf_s _ _ _ _) hb).dd h2
theorem xd_phops (hZ : ∃ mg, PT X.K mg C) (h : PlAt X.K C (hid M H) pa p) (ho : XV X σ H o (.ref pa)) (hb : attributeBase o "hops" X.env (eval o X.env) = eval o X.env := by rfl) : XD X M σ H (.Attribute o "hops" pos) (.list (p.hp.map PyData.int)) := by
  obtain ⟨dx, v1, v2, v3, v4, h0, h1, h2, h3, _⟩ := h
  obtain ⟨_, Z⟩ := hZ
  exact (xv_fld ho (hid_le _ _ h0) Z.cl Z.nH (pf_h _ _ _ _) hb).dd h3
theorem xd_pearly (hZ : ∃ mg, PT X.K mg C) (h : PlAt X.K C (hid M H) pa p) (ho : XV X σ H o (.ref pa)) (hb : attributeBase o "earliest" X.env (eval o X.env) = eval o X.env := by rfl) : XD X M σ H (.Attribute o "earliest" pos) (.list (p.ea.map PyData.int)) := by
  obtain ⟨dx, v1, v2, v3, v4, h0, h1, h2, h3, h4⟩ := h
  obtain ⟨_, Z⟩ := hZ
  exact (xv_fld ho (hid_le _ _ h0) Z.cl Z.nE (pf_e _ _ _ _) hb).dd h4
end
def spPInit (C : Addr) : Sp := fun vs H Q _ => ∃ (H0 : Hp) (y dx : Addr) (v1 v2 v3 v4 : V), vs = [.ref y, v1, v2, v3, v4] ∧ H = upd (upd H0 dx (.own y)) y (.ins C dx []) ∧ H0 y = none ∧ H0 dx = none ∧ dx ≠ y ∧ ∀ H1, Same H0 H1 → H1 y = some (.ins C dx (pf v1 v2 v3 v4)) → Q .non H1
section
variable {P : Program} {w : World} {K : PySem.W.Frag} {mg : Str → Option Value} {base : Heap} {C : Addr}
abbrev pinN : List Str := ["self", "base", "slots", "hops", "earliest"]
theorem scPInit : FnScope pinN pinN (defScope sPInit) := ⟨rfl, rfl, rfl, by decide +kernel, rfl, by decide +kernel, by decide +kernel⟩
theorem ok_pinit {f : Addr} (Z : PT K mg C) {kV dc pm cd ct oc dV : Value} {od an : Option Addr} {osl : Array (Option Value)} (lk : K.lookup f = some ⟨oc, od, .func (PySem.W.fnOf "__init__" "Plan.__init__" (defArgs sPInit) (defBody sPInit) (defScope sPInit) dV kV dc pm an cd ct), osl⟩) (hcd : PySem.W.codeIn K cd "Plan.__init__" = true) :
    FnOk P w K mg base CX0 1 f (PySem.W.fnOf "__init__" "Plan.__init__" (defArgs sPInit) (defBody sPInit) (defScope sPInit) dV kV dc pm an cd ct) pinN (spPInit C) := by
  refine fn_of lk hcd scPInit (fun vs H Q E h => ?_) (fun A outer s H vs Q E hr h => ?_)
  · obtain ⟨H0, y, dx, v1, v2, v3, v4, rfl, _⟩ := h; rfl
  · obtain ⟨H0, y, dx, v1, v2, v3, v4, rfl, rfl, hy, hdx, hne, q⟩ := h
    suffices h : RB (cxOf CX0 P w K mg base pinN "Plan.__init__" (defScope sPInit) f cd A outer s (upd (upd H0 dx (.own y)) y (.ins C dx [])) E).nox (defBody sPInit) { nx := fun _ H' => Q .non H', rt := Q } (start pinN [V.ref y, v1, v2, v3, v4]) (upd (upd H0 dx (.own y)) y (.ins C dx [])) by
      obtain ⟨t, h1, h2⟩ := h
      exact ⟨t, h1.nox, h2⟩
    have hy1 : upd H0 dx (.own y) y = none := by rw [upd_ne (Ne.symm hne)]; exact hy
    have s0 : Same H0 (upd (upd H0 dx (.own y)) y (.ins C dx [])) := (same_new hdx).trans (same_new hy1)
    generalize hH : upd (upd H0 dx (.own y)) y (.ins C dx []) = H at s0
    have hyH : H y = some (.ins C dx []) := by rw [← hH]; exact upd_same
    refine rb_fld (pa := y) (dx := dx) (fs := []) (XV.go (xv_name 1 rfl) fun H1 s1 => ⟨s1 _ _ hyH, (by decide), xv_name 0 rfl, fun H2 s2 => ?_⟩) Z.cl Z.nB
    have s2' : Same H0 (upd H2 y (.ins C dx (putF "base" v1 []))) := same_upd ((s0.trans s1).trans s2) hy
    have h2y : upd H2 y (.ins C dx (putF "base" v1 [])) y = some (.ins C dx [(("base" : Str), v1)]) := upd_same
    generalize upd H2 y (.ins C dx (putF "base" v1 [])) = H3 at s2' h2y
    refine rb_fld (pa := y) (dx := dx) (fs := [(("base" : Str), v1)]) (XV.go (xv_name 2 rfl) fun H4 s4 => ⟨s4 _ _ h2y, (by show 1 < 1000; decide), xv_name 0 rfl, fun H5 s5 => ?_⟩) Z.cl Z.nS
    rw [pf_p1]
    have s5' : Same H0 (upd H5 y (.ins C dx [(("base" : Str), v1), (("slots" : Str), v2)])) := same_upd ((s2'.trans s4).trans s5) hy
    have h5y : upd H5 y (.ins C dx [(("base" : Str), v1), (("slots" : Str), v2)]) y = some (.ins C dx [(("base" : Str), v1), (("slots" : Str), v2)]) := upd_same
    generalize upd H5 y (.ins C dx [(("base" : Str), v1), (("slots" : Str), v2)]) = H6 at s5' h5y
    refine rb_fld (pa := y) (dx := dx) (fs := [(("base" : Str), v1), (("slots" : Str), v2)]) (XV.go (xv_name 3 rfl) fun H7 s7 => ⟨s7 _ _ h5y, (by show 2 < 1000; decide), xv_name 0 rfl, fun H8 s8 => ?_⟩) Z.cl Z.nH
    rw [pf_p2]
    have s8' : Same H0 (upd H8 y (.ins C dx [(("base" : Str), v1), (("slots" : Str), v2), (("hops" : Str), v3)])) := same_upd ((s5'.trans s7).trans s8) hy
    have h8y : upd H8 y (.ins C dx [(("base" : Str), v1), (("slots" : Str), v2), (("hops" : Str), v3)]) y = some (.ins C dx [(("base" : Str), v1), (("slots" : Str), v2), (("hops" : Str), v3)]) := upd_same
    generalize upd H8 y (.ins C dx [(("base" : Str), v1), (("slots" : Str), v2), (("hops" : Str), v3)]) = H9 at s8' h8y
    refine rb_fld (pa := y) (dx := dx) (fs := [(("base" : Str), v1), (("slots" : Str), v2), (("hops" : Str), v3)]) (XV.go (xv_name 4 rfl) fun Ha sa => ⟨sa _ _ h8y, (by show 3 < 1000; decide), xv_name 0 rfl, fun Hb sb => rb_nil ?_⟩) Z.cl Z.nE
    rw [pf_p3]
    exact q _ (same_upd ((s8'.trans sa).trans sb) hy) upd_same
end
structure PMk (P : Program) (w : World) (K : PySem.W.Frag) (mg : Str → Option Value) (base : Heap) (C f : Addr) (fd : FuncData) : Prop where
  Z : PT K mg C
  mkk : Mk K C f
  G : FnOk P w K mg base CX0 1 f fd pinN (spPInit C)
  b : Binds K fd pinN []
section
variable {X : Cx} {M : List Addr} {σ : L2.St} {H : Hp} {a b c e : Expr} {C : Addr} {pos p1 : Pos} {f : Addr} {fd : FuncData} {p : Pl}
theorem xp_make (L : Live M H) (W : PMk X.prog X.w X.K X.mg X.base C f fd) (hr : Room 2 X.A) (ha : XD X M σ H a (baseD p.base)) (hb : XD X M σ H b (.list (p.sl.map PyData.int))) (hc : XD X M σ H c (.list (p.hp.map PyData.int))) (hd : XD X M σ H e (.list (p.ea.map PyData.int))) (hg : Gl X "Plan" := by rfl)
    (he : starEach [a, b, c, e] X.env = (false, eval a X.env) :: starEach [b, c, e] X.env := by rfl) (he2 : starEach [b, c, e] X.env = (false, eval b X.env) :: starEach [c, e] X.env := by rfl) (he3 : starEach [c, e] X.env = (false, eval c X.env) :: starEach [e] X.env := by rfl) (he4 : starEach [e] X.env = (false, eval e X.env) :: starEach [] X.env := by rfl) (hpl : (backTo pos (starEach [b, c, e] X.env)).any (·.1) = false := by rfl) :
    XG X M σ H (.Call (.Name "Plan" p1) [a, b, c, e] [] pos) (RPl X.K C) p := fun H1 s Q q =>
  re_make W.mkk W.G hr W.Z.mgC W.b .nil (ra_cons (ha H1 s _ fun v1 H2 s2 h1 => ra_cons (hb H2 (s.trans s2) _ fun v2 H3 s3 h2 => ra_cons (hc H3 ((s.trans s2).trans s3) _ fun v3 H4 s4 h3 => ra_1 (hd H4 (((s.trans s2).trans s3).trans s4) _ fun v4 H5 s5 h4 y dx hy hdx hne =>
    ⟨H5, y, dx, v1, v2, v3, v4, rfl, rfl, hy, hdx, hne, fun H6 s6 h6 => ⟨rfl, q _ H6 ((((s2.trans s3).trans s4).trans s5).trans s6) ⟨y, rfl, dx, v1, v2, v3, v4, by rw [hid_of fun z => (L.mono ((((s.trans s2).trans s3).trans s4).trans s5)) y z hy]; exact h6, h1.up (hid_mono (((s3.trans s4).trans s5).trans s6)), h2.up (hid_mono ((s4.trans s5).trans s6)), h3.up (hid_mono (s5.trans s6)), h4.up (hid_mono s6)⟩⟩⟩) he4) he3) he2) he) hg (by decide) he hpl
theorem pt_at {pts : List Pt} {s : Nat} (h : s < pts.length) {n : Int} (hn : n = (s : Int)) : atI (pts.map ptD) n = some (ptD (pt pts s)) := by
  rw [hn]
  refine atI_nat ?_
  rw [List.getElem?_map]
  unfold pt
  rw [List.getElem?_eq_getElem h]
  rfl
theorem pt0 {p : Pt} : atI [PyData.int p.1, baseD p.2] 0 = some (.int p.1) := rfl
theorem pt1 {p : Pt} : atI [PyData.int p.1, baseD p.2] 1 = some (baseD p.2) := rfl
theorem last_int {ns : List Int} {l : Int} (h : ns.getLast? = some l) : atI (ns.map PyData.int) (-1) = some (.int l) := by
  obtain ⟨ys, rfl⟩ := List.getLast?_eq_some_iff.mp h
  rw [List.map_append]
  exact atI_last _ _
end
/-- lengths of a plan -/
structure PlSm (p : Pl) : Prop where
  l1 : p.ea.length = p.hp.length
  l2 : p.sl.length = p.hp.length
  l3 : p.hp.length ≤ 1000
def spPWith (K : PySem.W.Frag) (CK CP : Addr) : Sp := fun vs H Q _ => ∃ (M : List Addr) (ka : Addr) (vp vq : V) (k : Kd) (p : Pl) (pts : List Pt) (s : Nat), vs = [.ref ka, vp, vq, .int (s : Int)] ∧ Live M H ∧ KAt K CK (hid M H) ka k ∧ (RPl K CP).r (hid M H) vp p ∧ Dq K (hid M H) vq (.list (pts.map ptD)) ∧ s + 1 < pts.length ∧ PlSm p ∧ KOk k ∧
  NL (RPl K CP) M H (withC (isort k.js) k.ap pts s p) Q
/-- a property of the kind -/
structure KPr (P : Program) (w : World) (K : PySem.W.Frag) (mg : Str → Option Value) (base : Heap) (CK : Addr) (m : Str) (g : Kd → PyData) (pp f : Addr) (fd : FuncData) : Prop where
  h : PropOf K CK m pp f
  G : FnOk P w K mg base CX0 1 f fd ["self"] (spKD K CK g)
  b : Binds K fd ["self"] []
section
variable {P : Program} {w : World} {K : PySem.W.Frag} {mg : Str → Option Value} {base : Heap} {C CK CP CZ : Addr}
abbrev pwN : List Str := ["kind", "plan", "points", "slot", "moment", "slots", "earliest", "jump"]
theorem scPWith : FnScope pwN ["kind", "plan", "points", "slot"] (defScope sPWith) := ⟨rfl, rfl, rfl, by decide +kernel, rfl, by decide +kernel, by decide +kernel⟩
theorem map_isort (k : Kd) : ((isort k.js).map PyData.int).length = k.js.length := by rw [List.length_map, len_isort]
theorem ok_pwith {f fP fA pA fJ pJ : Addr} {fd fdP fdA fdJ : FuncData} (T : Nm mg) (Y : KT K mg CK) (W : PMk P w K mg base CP fP fdP) (KA : KPr P w K mg base CK "apart" (fun k => .int k.ap) pA fA fdA) (KJ : KPr P w K mg base CK "jumps" (fun k => .tuple ((isort k.js).map PyData.int)) pJ fJ fdJ)
    (F : Df K mg "plans_with_change" sPWith ["kind", "plan", "points", "slot"] f fd) : FnOk P w K mg base CX0 3 f fd ["kind", "plan", "points", "slot"] (spPWith K CK CP) := by
  refine F.F.ok scPWith (fun vs H Q E h => ?_) (fun cdv A outer s0 H vs Q E hr h => ?_)
  · obtain ⟨M, ka, vp, vq, k, p, pts, s, rfl, _⟩ := h; rfl
  · obtain ⟨M, ka, vp, vq, k, p, pts, s, rfl, L, hk, ⟨pa, rfl, hp⟩, hq, hs, sm, ko, q⟩ := h
    have hs0 : s < pts.length := by omega
    have hjl := ko.js.2.2.2
    have hl1 := sm.l1
    have hl2 := sm.l2
    have hl3 := sm.l3
    refine rb_set 4 (M := M) (xd_add (xd_ixT (fun _ _ => rfl) (xd_ixL (fun _ _ => rfl) (xd_name 2 rfl hq) (xv_name 3 rfl).int (pt_at hs0 rfl)) xd_int pt0) xd_int) (fun v H1 s1 hv => ?_) scPWith.nd
    have ev := dp_int hv
    subst ev
    -- behind the moment
    have fin : ∀ H2, Same H H2 → RB (cxOf CX0 P w K mg base pwN "plans_with_change" (defScope sPWith) f cdv A outer s0 H E).nox ((defBody sPWith).drop 2) { nx := fun _ H1 => Q .non H1, rt := Q } [some (.ref ka), some (.ref pa), some vq, some (.int (s : Int)), some (.int (nextM k.ap pts s p)), none, none, none] H2 := by
      intro H2 s2
      have hp2 := hp.up (hid_mono (M := M) s2)
      have hq2 := hq.up (hid_mono (M := M) s2)
      refine rb_if (xt_cmpI (M := M) op_gt (xv_name 4 rfl).int (xd_ixT (fun _ _ => rfl) (xd_ixL (fun _ _ => rfl) (xd_name 2 rfl hq2) (xd_add (xv_name 3 rfl).int xd_int) (pt_at hs rfl)) xd_int pt0)) (fun e H3 s3 => ?_) (fun e H3 s3 => rb_nil ?_)
      · have e1 := of_decide_eq_true e
        refine rb_retR (XGL.go (M := M) (xgl_nil (R := RPl K CP)) fun y xs H4 s4 hy h4 hx => q y xs H4 ((s2.trans s3).trans s4) ((s2.trans s3).free hy) h4 ?_)
        unfold withC
        rw [if_pos e1]
        exact hx
      · have e1 := of_decide_eq_false e
        have s03 := s2.trans s3
        have L3 := L.mono s03
        have hp3 := hp.up (hid_mono (M := M) s03)
        refine rb_asgR (XD.go (M := M) (xd_tup L3 (xa_cons (XL.dd (xl_lst L3 (xa_star (xd_pslots ⟨_, W.Z⟩ hp3 (xv_name 1 rfl)) (xa_cons (xv_name 3 rfl).int xa_nil)) (by simp; omega)) L3) (xa_cons (XL.dd (xl_lst L3 (xa_star (xd_pearly ⟨_, W.Z⟩ hp3 (xv_name 1 rfl)) (xa_cons (xv_name 4 rfl).int xa_nil)) (by simp; omega)) L3) xa_nil))) fun v4 H4 s4 hv4 => ?_)
        obtain ⟨t, xs, rfl, ht, hx⟩ := dp_tup hv4
        cases hx with
        | cons a1 hx => cases hx with
          | cons a2 hx =>
            cases hx
            refine rg_tup (same_seqT hid_le ht) (rgs_cons (rg_name 5 (rgs_cons (rg_name 6 (rgs_nil ?_) scPWith.nd)) scPWith.nd))
            have s04 := s03.trans s4
            have L4 := L.mono s04
            have hp4 := hp.up (hid_mono (M := M) s04)
            have hk4 := hk.up (hid_mono (M := M) s04)
            have b1 : ∀ {H : Hp} {v : V}, Dq K H v (.list (p.sl.map PyData.int ++ [PyData.int (s : Int)])) → Dq K H v (.list ((p.sl ++ [(s : Int)]).map PyData.int)) := fun {H v} h => by rw [List.map_append]; exact h
            have b2 : ∀ {H : Hp} {v : V}, Dq K H v (.list (p.ea.map PyData.int ++ [PyData.int (nextM k.ap pts s p)])) → Dq K H v (.list ((p.ea ++ [nextM k.ap pts s p]).map PyData.int)) := fun {H v} h => by rw [List.map_append]; exact h
            have a1 := b1 a1
            have a2 := b2 a2
            have ee : withC (isort k.js) k.ap pts s p = ((isort k.js).map PyData.int).map (fun d => match d with | .int j => ⟨p.base, p.sl ++ [(s : Int)], p.hp ++ [j], p.ea ++ [nextM k.ap pts s p]⟩ | _ => p) := by
              unfold withC
              rw [if_neg e1, List.map_map]
              rfl
            refine rb_retR (XGL.go (M := M) (xgl_compT (own := [("jump", 7)]) (R := RPl K CP) (fun d => match d with | .int j => (⟨p.base, p.sl ++ [(s : Int)], p.hp ++ [j], p.ea ++ [nextM k.ap pts s p]⟩ : Pl) | _ => p) L4 scPWith.nd (xd_kprop (g := fun k => .tuple ((isort k.js).map PyData.int)) (k := k) L4 Y.cl KJ.h KJ.G hr KJ.b (xv_name 0 rfl) hk4)
              (blkOk_by (own := [("jump", 7)]) (N := pwN) (sc := defScope sPWith) (by decide +kernel)) (by rw [map_isort]; omega) (fun y d v H5 hd hy s5 L5 hv5 => ?cmp)) fun y xs H5 s5 hy h5 hx => q y xs H5 (s04.trans s5) (s04.free hy) h5 (by rw [ee]; exact hx))
            obtain ⟨j, _, rfl⟩ := List.mem_map.mp hd
            have ej := dp_int hv5
            subst ej
            intro s0 H0 C0 cl fp
            refine rg_name 7 ?_ scPWith.nd
            refine ⟨rfl, Same.refl _, fun s0 H0 C0 cl fp => ?_⟩
            have g5 : Same (hid M H4) (hid (y :: M) H5) := hid_step hy s5
            have hp5 := hp4.up g5
            exact XG.go (xp_make (p := ⟨p.base, p.sl ++ [(s : Int)], p.hp ++ [j], p.ea ++ [nextM k.ap pts s p]⟩) L5 W hr (xd_pbase (p := p) ⟨_, W.Z⟩ hp5 (xv_name 1 rfl)) (xd_name 5 rfl (a1.up g5))
              ((XL.dd (xl_lst L5 (xa_star (xd_phops (p := p) ⟨_, W.Z⟩ hp5 (xv_name 1 rfl)) (xa_cons (xv_name 7 rfl).int xa_nil)) (by simp; omega)) L5).to (by rw [List.map_append]; rfl)) (xd_name 6 rfl (a2.up g5))) fun v H6 s6 h6 => ⟨s6, h6⟩
    have hp1 := hp.up (hid_mono (M := M) s1)
    refine rb_if (xt_list (M := M) (xd_pearly ⟨_, W.Z⟩ hp1 (xv_name 1 rfl))) (fun e H2 s2 => ?_) (fun e H2 s2 => rb_nil ?_)
    · have ne : p.ea ≠ [] := fun z => by rw [z] at e; cases e
      obtain ⟨l, hl⟩ : ∃ l, p.ea.getLast? = some l := ⟨_, List.getLast?_eq_some_getLast ne⟩
      have s02 := s1.trans s2
      have hp2 := hp.up (hid_mono (M := M) s02)
      refine rb_set 4 (M := M) (xd_max T.max (xa_cons (xv_name 4 rfl).int (xa_cons (xd_add (xd_ixL (fun _ _ => rfl) (xd_pearly ⟨_, W.Z⟩ hp2 (xv_name 1 rfl)) (xd_neg xd_int) (last_int hl)) (xd_kprop (g := fun k => .int k.ap) (k := k) (L.mono s02) Y.cl KA.h KA.G hr KA.b (xv_name 0 rfl) (hk.up (hid_mono (M := M) s02)))) xa_nil))) (fun v H3 s3 hv => rb_nil ?_) scPWith.nd
      have ev := dp_int hv
      subst ev
      have en : (if l + k.ap > (pt pts s).1 + 1 then l + k.ap else (pt pts s).1 + 1) = nextM k.ap pts s p := by
        unfold nextM
        rw [hl]
        show _ = max _ _
        omega
      rw [en]
      exact fin H3 (s02.trans s3)
    · have en : (pt pts s).1 + 1 = nextM k.ap pts s p := by
        unfold nextM
        have : p.ea = [] := by
          cases h : p.ea with
          | nil => rfl
          | cons x l => rw [h] at e; cases e
        rw [this]
        rfl
      have z := fin H2 (s1.trans s2)
      rw [← en] at z
      exact z
end
end Zn

set_option Elab.async false
set_option linter.all false
set_option maxRecDepth 100000
set_option maxHeartbeats 8000000
namespace Dl
open PySem PySem.Spec PyProof.Rows L2
section
variable {α : Type} {R : Rl α} {X : Cx} {M : List Addr} {σ : L2.St} {H : Hp} {a b k e : Expr} {ts : List α} {d : PyData} {pos p1 : Pos}
theorem re_oneV {v : V} {Q : VK} (h : XV X σ H e v) (q : ∀ p H2, Same H H2 → H p = none → H2 p = some (.lst [v]) → Q (.ref p) H2) (hs : starEach [e] X.env = (false, eval e X.env) :: starEach [] X.env := by rfl) : RE X (.List [e] pos) σ H Q :=
  ⟨_, pe_lst ra_, ra_1 (h.go fun H2 s2 => ⟨by show 1 ≤ sizeLine; decide, fun p hp => q p _ (s2.trans (same_new hp)) (s2.free hp) upd_same⟩) hs⟩
theorem xgl_ifT (hc : XT X σ H k true) (ha : XGL X M σ H a R ts) : XGL X M σ H (.IfExp k a b pos) R ts := fun H1 s Q q =>
  ⟨_, pe_ifExp rt_ re_ re_, hc H1 s _ fun H2 s2 => iteT (ha H2 (s.trans s2) Q fun p xs H3 s3 hp h3 hx => q p xs H3 (s2.trans s3) (s2.free hp) h3 hx)⟩
theorem xgl_ifF (hc : XT X σ H k false) (hb : XGL X M σ H b R ts) : XGL X M σ H (.IfExp k a b pos) R ts := fun H1 s Q q =>
  ⟨_, pe_ifExp rt_ re_ re_, hc H1 s _ fun H2 s2 => iteF (hb H2 (s.trans s2) Q fun p xs H3 s3 hp h3 hx => q p xs H3 (s2.trans s3) (s2.free hp) h3 hx)⟩
end
end Dl
namespace Zn
open PySem PySem.Spec PyProof.Rows L2 Dl
open Pm (Pl Pt pt withC longN over upto allP nextM)
section
variable {X : Cx} {M : List Addr} {σ : L2.St} {H : Hp} {a : Expr} {d : PyData} {pos p1 : Pos}
/-- e is not None -/
theorem xt_notNone {j} (ha : XD X M σ H a d) (hm : behindInMarks .IsNot (.Constant .none j p1) = false := by rfl) : XT X σ H (.Compare a [.IsNot] [.Constant .none j p1] pos) (!isN d) :=
  xt_cmp op_notN ha (xd_non (M := M)) (fun H1 v w s hv hw Q q => ⟨dp_non hw, by rw [dec_non hv]; exact q H1 (Same.refl _)⟩) hm
end
theorem isN_base (o : Option Int) : isN (baseD o) = o.isNone := by cases o <;> rfl
section
variable {js : List Int} {ap mo : Int} {pts : List Pt}
theorem withC_sm {s : Nat} {p q : Pl} (sm : PlSm p) (h : q ∈ withC js ap pts s p) (hl : p.hp.length < 1000) : PlSm q := by
  unfold withC at h
  split at h
  · cases h
  · obtain ⟨j, _, rfl⟩ := List.mem_map.mp h
    refine ⟨?_, ?_, ?_⟩
    · show (p.ea ++ [_]).length = (p.hp ++ [j]).length
      rw [List.length_append, List.length_append, sm.l1]; rfl
    · show (p.sl ++ [_]).length = (p.hp ++ [j]).length
      rw [List.length_append, List.length_append, sm.l2]; rfl
    · show (p.hp ++ [j]).length ≤ 1000
      rw [List.length_append]; show _ + 1 ≤ _; omega
theorem long_sm {s : Nat} {p : Pl} (sm : PlSm p) : ∀ (c : Nat) (q : Pl), p.hp.length + c ≤ 1000 → q ∈ longN js ap pts s p c → PlSm q
  | 0, q, _, h => by rw [List.mem_singleton.mp h]; exact sm
  | c + 1, q, hl, h => by
    obtain ⟨x, hx, hq⟩ := List.mem_flatMap.mp h
    exact withC_sm (long_sm sm c x (by omega) hx) hq (by rw [(Pm.long_len s p c).2 x hx]; omega)
theorem over_sm {s m : Nat} {p q : Pl} (hm : mo = m) (h3 : m ≤ 3) (sm : PlSm p) (hp : p.hp.length ≤ m) (h : q ∈ over js ap mo pts s p) : PlSm q := by
  obtain ⟨c, hc, h⟩ := List.mem_flatMap.mp h
  rw [List.mem_range] at hc
  exact long_sm sm c q (by omega) h
theorem upto_sm {off : Option Int} {p q : Pl} (sm : PlSm p) (h : q ∈ upto off p) : PlSm q := by
  obtain ⟨e1, e2, e3⟩ := Pm.upto_hp h
  exact ⟨by rw [e1, e3]; exact sm.l1, by rw [e1, e2]; exact sm.l2, by rw [e1]; exact sm.l3⟩
theorem all_sm {m : Nat} (hm : mo = m) (h3 : m ≤ 3) : ∀ (s : Nat) (q : Pl), q ∈ allP js ap mo pts s → PlSm q
  | 0, q, h => by rw [List.mem_singleton.mp h]; exact ⟨rfl, rfl, Nat.zero_le _⟩
  | s + 1, q, h => by
    obtain ⟨x, hx, h⟩ := List.mem_flatMap.mp h
    obtain ⟨y, hy, hx⟩ := List.mem_flatMap.mp hx
    exact upto_sm (over_sm hm h3 (all_sm hm h3 s y hy) ((Pm.all_wt hm s 0).2 y hy) hx) h
end
section
variable {X : Cx} {M : List Addr} {σ : L2.St} {H : Hp} {e1 e2 e3 e4 : Expr} {pos p1 : Pos} {f ka : Addr} {fd : FuncData} {k : Kd} {CK CP : Addr} {p : Pl} {pts : List Pt} {s : Nat}
/-- plans_with_change(..) -/
theorem xgl_pwith (L : Live M H) (G : FnOk X.prog X.w X.K X.mg X.base CX0 3 f fd ["kind", "plan", "points", "slot"] (spPWith X.K CK CP)) (hr : Room 3 X.A) (FF : Df X.K X.mg "plans_with_change" sPWith ["kind", "plan", "points", "slot"] f fd)
    (ho : XV X σ H e1 (.ref ka)) (hk : KAt X.K CK (hid M H) ka k) (hp : XG X M σ H e2 (RPl X.K CP) p) (hq : XD X M σ H e3 (.list (pts.map ptD))) (hs : XV X σ H e4 (.int (s : Int))) (h1 : s + 1 < pts.length) (sm : PlSm p) (ko : KOk k) (hg : Gl X "plans_with_change" := by rfl)
    (he : starEach [e1, e2, e3, e4] X.env = (false, eval e1 X.env) :: starEach [e2, e3, e4] X.env := by rfl) (he2 : starEach [e2, e3, e4] X.env = (false, eval e2 X.env) :: starEach [e3, e4] X.env := by rfl) (he3 : starEach [e3, e4] X.env = (false, eval e3 X.env) :: starEach [e4] X.env := by rfl) (he4 : starEach [e4] X.env = (false, eval e4 X.env) :: starEach [] X.env := by rfl)
    (hpl : (backTo pos (starEach [e2, e3, e4] X.env)).any (·.1) = false := by rfl) : XGL X M σ H (.Call (.Name "plans_with_change" p1) [e1, e2, e3, e4] [] pos) (RPl X.K CP) (withC (isort k.js) k.ap pts s p) := fun Ha sa Q q =>
  re_call G hr FF.g FF.F.kp FF.b (ra_cons (ho Ha sa _ fun Hb sb => ra_cons (hp Hb (sa.trans sb) _ fun vp Hc sc hvp => ra_cons (hq Hc ((sa.trans sb).trans sc) _ fun vq Hd sd hvq => ra_1 (hs Hd (((sa.trans sb).trans sc).trans sd) _ fun He se =>
    ⟨M, ka, vp, vq, k, p, pts, s, rfl, L.mono ((((sa.trans sb).trans sc).trans sd).trans se), hk.up (hid_mono ((((sa.trans sb).trans sc).trans sd).trans se)), (RPl X.K CP).up (hid_mono (sd.trans se)) hvp, hvq.up (hid_mono se), h1, sm, ko,
      fun y xs H1 s1 hy hx hr => q y xs H1 ((((sb.trans sc).trans sd).trans se).trans s1) ((((sb.trans sc).trans sd).trans se).free hy) hx hr⟩) he4) he3) he2) he) hg (by decide) he hpl
end
def spPOver (K : PySem.W.Frag) (CK CP : Addr) : Sp := fun vs H Q _ => ∃ (M : List Addr) (ka : Addr) (vp vq : V) (k : Kd) (p : Pl) (pts : List Pt) (s : Nat), vs = [.ref ka, vp, vq, .int (s : Int)] ∧ Live M H ∧ KAt K CK (hid M H) ka k ∧ (RPl K CP).r (hid M H) vp p ∧ Dq K (hid M H) vq (.list (pts.map ptD)) ∧ s + 1 < pts.length ∧ PlSm p ∧ (p.hp.length : Int) ≤ k.mo ∧ KOk k ∧
  NL (RPl K CP) M H (over (isort k.js) k.ap k.mo pts s p) Q
section
variable {P : Program} {w : World} {K : PySem.W.Frag} {mg : Str → Option Value} {base : Heap} {C CK CP CZ : Addr}
abbrev poN : List Str := ["kind", "plan", "points", "slot", "found", "longest", "count", "short", "more"]
theorem scPOver : FnScope poN ["kind", "plan", "points", "slot"] (defScope sPOver) := ⟨rfl, rfl, rfl, by decide +kernel, rfl, by decide +kernel, by decide +kernel⟩
theorem pow4 {n c : Nat} (h : n ≤ 4) (hc : c ≤ 3) : n ^ c ≤ 64 := Nat.le_trans (Nat.pow_le_pow_left h c) (Nat.le_trans (Nat.pow_le_pow_right (by decide) hc) (by decide))
theorem ok_pover {f fW fM pM fP : Addr} {fd fdW fdM fdP : FuncData} (T : Nm mg) (Y : KT K mg CK) (W : PMk P w K mg base CP fP fdP) (KM : KPr P w K mg base CK "most" (fun k => .int k.mo) pM fM fdM)
    (GW : FnOk P w K mg base CX0 3 fW fdW ["kind", "plan", "points", "slot"] (spPWith K CK CP)) (FW : Df K mg "plans_with_change" sPWith ["kind", "plan", "points", "slot"] fW fdW) (F : Df K mg "plans_over" sPOver ["kind", "plan", "points", "slot"] f fd) : FnOk P w K mg base CX0 4 f fd ["kind", "plan", "points", "slot"] (spPOver K CK CP) := by
  refine F.F.ok scPOver (fun vs H Q E h => ?_) (fun cdv A outer s0 H vs Q E hr h => ?_)
  · obtain ⟨M, ka, vp, vq, k, p, pts, s, rfl, _⟩ := h; rfl
  · obtain ⟨M, ka, vp, vq, k, p, pts, s, rfl, L, hk, ⟨pa, rfl, hp⟩, hq, hs, sm, hpm, ko, q⟩ := h
    have hjl := ko.js.2.2.2
    have hm3 := ko.m1
    have hll : ∀ c, c ≤ 3 → (longN (isort k.js) k.ap pts s p c).length ≤ 64 := fun c hc => Nat.le_trans (Pm.long_len s p c).1 (pow4 (by rw [len_isort]; exact hjl) hc)
    refine rb_setR 4 (re_oneV (xv_name 1 rfl) fun y H1 s1 hy h1 => ?_) scPOver.nd
    have Ly : Live (y :: M) H1 := live_new L s1 (by rw [h1]; simp)
    have hyM : y ∉ M := L.fresh hy
    have g1 : Same (hid M H) (hid (y :: M) H1) := hid_step hy s1
    have hp1 := hp.up g1
    have hk1 := hk.up g1
    have hq1 := hq.up g1
    refine rb_setR 5 (re_oneV (xv_name 1 rfl) fun y2 H2 s2 hy2 h2 => ?_) scPOver.nd
    have L2' := Ly.mono s2
    have hyM2 : y2 ∉ y :: M := Ly.fresh hy2
    refine rb_range T.rng (XD.go (M := y :: M) (xd_sub (xd_kprop (g := fun k => .int k.mo) (k := k) L2' Y.cl KM.h KM.G (hr.mono (by decide)) KM.b (xv_name 0 rfl) (hk1.up (hid_mono s2))) (xd_len T.len (xd_phops ⟨_, W.Z⟩ (hp1.up (hid_mono s2)) (xv_name 1 rfl)))) fun v H3 s3 hv => ?_)
    have ev := dp_int hv
    rw [List.length_map] at ev
    have s13 := s2.trans s3
    have one : RAll (RPl K CP) (hid (y :: M) H3) [V.ref pa] [p] := .cons ⟨pa, rfl, hp1.up (hid_mono s13)⟩ .nil
    have h33 : H3 y2 = some (.lst [V.ref pa]) := s3 _ _ h2
    refine ⟨(k.mo - (p.hp.length : Int)).toNat, by rw [ev, Int.toNat_of_nonneg (by omega)], by omega, fun i σ' H' => Same H H' ∧ Same (hid (y :: M) H1) (hid (y :: M) H') ∧ Live (y :: M) H' ∧ (∃ acc, H' y = some (.lst acc) ∧ RAll (RPl K CP) (hid (y :: M) H') acc ((List.range (i + 1)).flatMap (longN (isort k.js) k.ap pts s p))) ∧
        ∃ pl a6 a7 a8, σ' = [some (.ref ka), some (.ref pa), some vq, some (.int (s : Int)), some (.ref y), some (.ref pl), a6, a7, a8] ∧ (RPl K CP).lst.r (hid (y :: M) H') (.ref pl) (longN (isort k.js) k.ap pts s p i),
      ⟨s1.trans s13, hid_mono s13, L2'.mono s3, ⟨_, s13 _ _ h1, one⟩, y2, none, none, none, rfl, y2, _, rfl, by rw [hid_of hyM2]; exact h33, one⟩, fun i σ' H' hi w => ?_, fun σ' H' w => ?_⟩
    · obtain ⟨sH, sM, Lp, ⟨acc, hacc, hda⟩, pl, a6, a7, a8, rfl, hpl⟩ := w
      have hi3 : p.hp.length + i + 1 ≤ 3 := by omega
      have hkp := hk1.up sM
      have hqp := hq1.up sM
      have ef : ∀ l : List Pl, (l.flatMap fun t => (withC (isort k.js) k.ap pts s t).map fun b => b) = l.flatMap (withC (isort k.js) k.ap pts s) := fun l => by simp
      refine rg_name 6 ?_ scPOver.nd
      refine rb_setG2 5 (M := y :: M) (own := [("short", 7), ("more", 8)]) (vs1 := [8]) (Ra := RPl K CP) (Rm := RPl K CP) (Ro := RPl K CP) (withC (isort k.js) k.ap pts s) (fun _ b => b) Lp scPOver.nd (xg_v (xv_name 5 rfl) hpl) (blkOk_by (own := [("short", 7), ("more", 8)]) (N := poN) (sc := defScope sPOver) (by decide +kernel)) (by decide)
        (by rw [ef]; exact Nat.le_trans (hll (i + 1) (by omega)) (by decide)) (fun y3 t v3 H4 ht hy3 s4 L4 hv4 => ?cmp) (fun y3 xs3 H4 s4 hy3 h3 hx3 => ?_)
      case cmp =>
        have g4 : Same (hid (y :: M) H') (hid (y3 :: y :: M) H4) := hid_step hy3 s4
        have hk4 := hkp.up g4
        have hq4 := hqp.up g4
        have tm := long_sm (js := isort k.js) (ap := k.ap) (pts := pts) (s := s) sm i t (by omega) ht
        intro s0 H0 C0 cl fp
        refine rg_name 7 ⟨rfl, Same.refl _, fun s0 H0 C0 cl fp => ?_, fun ed w H5 he s5 L5 hw => ?_⟩ scPOver.nd
        · exact (xgl_pwith (k := k) (pts := pts) (s := s) (p := t) L4 GW hr FW (xv_name 0 rfl) hk4 (xg_v (xv_name 7 rfl) hv4) (xd_name 2 rfl hq4) (xv_name 3 rfl) (by omega) tm ko).dd L4
        · intro s0 H0 C0 cl fp
          refine rg_name 8 ⟨rfl, Same.refl _, fun s0 H0 C0 cl fp => ?_⟩ scPOver.nd
          exact XV.go (xv_name 8 rfl) fun H6 s6 => ⟨s6, (RPl K CP).up (hid_mono s6) hw⟩
      rw [ef] at hx3
      have L4 := Lp.mono s4
      have h4y := s4 _ _ hacc
      have hal := ral_len hda
      have hsum : acc.length ≤ 1000 := by
        rw [hal]
        refine Nat.le_trans (Pm.flat_len (longN (isort k.js) k.ap pts s p) 64 (List.range (i + 1)) fun c hc => hll c (by have := List.mem_range.mp hc; omega)) ?_
        rw [List.length_range]; omega
      have hls : (longN (isort k.js) k.ap pts s p (i + 1)).length ≤ 64 := hll (i + 1) (by omega)
      have hpl4 : (RPl K CP).lst.r (hid (y :: M) H4) (.ref y3) (longN (isort k.js) k.ap pts s p (i + 1)) := ⟨y3, xs3, rfl, by rw [hid_of (Lp.fresh hy3)]; exact h3, hx3⟩
      refine rb_extendG (M := y :: M) (xv_name 4 rfl) h4y (xg_v (xv_name 5 rfl) hpl4) (by omega) (fun vs H5 s5 hvs => rb_nil ?_)
      have s45 := s4.trans s5
      have eh : hid (y :: M) (upd H5 y (.lst (acc ++ vs))) = hid (y :: M) H5 := hid_upd_mem (List.mem_cons_self ..)
      refine ⟨same_upd (sH.trans s45) hy, by rw [eh]; exact sM.trans (hid_mono s45), (Lp.mono s45).upd, ⟨acc ++ vs, upd_same, ?_⟩, y3, _, _, _, rfl, by rw [eh]; exact (RPl K CP).lst.up (hid_mono s5) hpl4⟩
      rw [eh, List.range_succ, List.flatMap_append]
      refine ral_app (hda.up (hid_mono s45)) ?_
      simpa using hvs
    · obtain ⟨sH, sM, Lp, ⟨acc, hacc, hda⟩, pl, a6, a7, a8, rfl, hpl⟩ := w
      exact rb_retR (XV.go (xv_name 4 rfl) fun H5 s5 => q y acc H5 (sH.trans s5) hy (s5 _ _ hacc) (ral_out (hda.up (hid_mono s5))))
end
section
variable {X : Cx} {M : List Addr} {σ : L2.St} {H : Hp} {e1 e2 e3 e4 : Expr} {pos p1 : Pos} {f ka : Addr} {fd : FuncData} {k : Kd} {CK CP : Addr} {p : Pl} {pts : List Pt} {s : Nat}
/-- plans_over(..) -/
theorem xgl_pover (L : Live M H) (G : FnOk X.prog X.w X.K X.mg X.base CX0 4 f fd ["kind", "plan", "points", "slot"] (spPOver X.K CK CP)) (hr : Room 4 X.A) (FF : Df X.K X.mg "plans_over" sPOver ["kind", "plan", "points", "slot"] f fd)
    (ho : XV X σ H e1 (.ref ka)) (hk : KAt X.K CK (hid M H) ka k) (hp : XG X M σ H e2 (RPl X.K CP) p) (hq : XD X M σ H e3 (.list (pts.map ptD))) (hs : XV X σ H e4 (.int (s : Int))) (h1 : s + 1 < pts.length) (sm : PlSm p) (hm : (p.hp.length : Int) ≤ k.mo) (ko : KOk k) (hg : Gl X "plans_over" := by rfl)
    (he : starEach [e1, e2, e3, e4] X.env = (false, eval e1 X.env) :: starEach [e2, e3, e4] X.env := by rfl) (he2 : starEach [e2, e3, e4] X.env = (false, eval e2 X.env) :: starEach [e3, e4] X.env := by rfl) (he3 : starEach [e3, e4] X.env = (false, eval e3 X.env) :: starEach [e4] X.env := by rfl) (he4 : starEach [e4] X.env = (false, eval e4 X.env) :: starEach [] X.env := by rfl)
    (hpl : (backTo pos (starEach [e2, e3, e4] X.env)).any (·.1) = false := by rfl) : XGL X M σ H (.Call (.Name "plans_over" p1) [e1, e2, e3, e4] [] pos) (RPl X.K CP) (over (isort k.js) k.ap k.mo pts s p) := fun Ha sa Q q =>
  re_call G hr FF.g FF.F.kp FF.b (ra_cons (ho Ha sa _ fun Hb sb => ra_cons (hp Hb (sa.trans sb) _ fun vp Hc sc hvp => ra_cons (hq Hc ((sa.trans sb).trans sc) _ fun vq Hd sd hvq => ra_1 (hs Hd (((sa.trans sb).trans sc).trans sd) _ fun He se =>
    ⟨M, ka, vp, vq, k, p, pts, s, rfl, L.mono ((((sa.trans sb).trans sc).trans sd).trans se), hk.up (hid_mono ((((sa.trans sb).trans sc).trans sd).trans se)), (RPl X.K CP).up (hid_mono (sd.trans se)) hvp, hvq.up (hid_mono se), h1, sm, hm, ko,
      fun y xs H1 s1 hy hx hr => q y xs H1 ((((sb.trans sc).trans sd).trans se).trans s1) ((((sb.trans sc).trans sd).trans se).free hy) hx hr⟩) he4) he3) he2) he) hg (by decide) he hpl
end
def spPUpto (K : PySem.W.Frag) (CP : Addr) : Sp := fun vs H Q _ => ∃ (M : List Addr) (vp vo : V) (p : Pl) (off : Option Int), vs = [vp, vo] ∧ Live M H ∧ (RPl K CP).r (hid M H) vp p ∧ Dq K (hid M H) vo (baseD off) ∧ NL (RPl K CP) M H (upto off p) Q
section
variable {P : Program} {w : World} {K : PySem.W.Frag} {mg : Str → Option Value} {base : Heap} {C CK CP CZ : Addr}
theorem scPUpto : FnScope ["plan", "offset", "hop"] ["plan", "offset"] (defScope sPUpto) := ⟨rfl, rfl, rfl, by decide +kernel, rfl, by decide +kernel, by decide +kernel⟩
theorem ok_pupto {f fP : Addr} {fd fdP : FuncData} (hS : mg "sum" = none) (W : PMk P w K mg base CP fP fdP) (F : Df K mg "plans_upto" sPUpto ["plan", "offset"] f fd) : FnOk P w K mg base CX0 3 f fd ["plan", "offset"] (spPUpto K CP) := by
  refine F.F.ok scPUpto (fun vs H Q E h => ?_) (fun cdv A outer s0 H vs Q E hr h => ?_)
  · obtain ⟨M, vp, vo, p, off, rfl, _⟩ := h; rfl
  · obtain ⟨M, vp, vo, p, off, rfl, L, ⟨pa, rfl, hp⟩, ho, q⟩ := h
    refine rb_set 2 (M := M) (xd_sum hS (xd_phops ⟨_, W.Z⟩ hp (xv_name 0 rfl))) (fun v H1 s1 hv => ?_) scPUpto.nd
    have ev := dp_int hv
    subst ev
    have L1 := L.mono s1
    have hp1 := hp.up (hid_mono (M := M) s1)
    have ho1 := ho.up (hid_mono (M := M) s1)
    refine rb_if (k := off.isSome && p.base.isNone) (xt_and2 ((xt_notNone (M := M) (xd_name 1 rfl ho1)).to (by rw [isN_base]; cases off <;> rfl)) fun _ => (xt_isNone (M := M) (xd_pbase ⟨_, W.Z⟩ hp1 (xv_name 0 rfl))).to (isN_base _)) (fun e H2 s2 => ?_) (fun e H2 s2 => rb_nil ?_)
    · cases off with
      | none => cases e
      | some o =>
        have eb : p.base = none := by
          cases h : p.base with
          | none => rfl
          | some b => rw [h] at e; cases e
        have L2' := L1.mono s2
        have hp2 := hp1.up (hid_mono (M := M) s2)
        refine rb_retR (XGL.go (M := M) (xgl_one (R := RPl K CP) L2' (xp_make (p := ⟨some (o - p.hp.sum), p.sl, p.hp, p.ea⟩) L2' W hr (xd_sub (xd_name 1 rfl (ho1.up (hid_mono s2))) (xv_name 2 rfl).int) (xd_pslots (p := p) ⟨_, W.Z⟩ hp2 (xv_name 0 rfl)) (xd_phops (p := p) ⟨_, W.Z⟩ hp2 (xv_name 0 rfl)) (xd_pearly (p := p) ⟨_, W.Z⟩ hp2 (xv_name 0 rfl)))) fun y xs H3 s3 hy h3 hx => q y xs H3 ((s1.trans s2).trans s3) ((s1.trans s2).free hy) h3 ?_)
        unfold upto
        rw [eb]
        exact hx
    · have L2' := L1.mono s2
      have hp2 := hp1.up (hid_mono (M := M) s2)
      have ho2 := ho1.up (hid_mono (M := M) s2)
      refine rb_retR ?_
      cases off with
      | none =>
        refine XGL.go (M := M) (xgl_ifT (R := RPl K CP) (xw_orT ((xt_isNone (M := M) (xd_name 1 rfl ho2)).to rfl)).t (xgl_one (R := RPl K CP) L2' (xg_v (xv_name 0 rfl) ⟨pa, rfl, hp2⟩))) fun y xs H3 s3 hy h3 hx => q y xs H3 ((s1.trans s2).trans s3) ((s1.trans s2).free hy) h3 hx
      | some o =>
        cases hb : p.base with
        | none => rw [hb] at e; cases e
        | some b =>
          by_cases c : b + p.hp.sum = o
          · refine XGL.go (M := M) (xgl_ifT (R := RPl K CP) (xw_orF ((xt_isNone (M := M) (xd_name 1 rfl ho2)).to rfl) (xw_or1 ((xt_eqI (M := M) (xd_add ((xd_pbase (p := p) ⟨_, W.Z⟩ hp2 (xv_name 0 rfl)).to (show baseD p.base = .int b by rw [hb]; rfl)) (xv_name 2 rfl).int) (xd_name 1 rfl ho2)).to (decide_eq_true c)))).t (xgl_one (R := RPl K CP) L2' (xg_v (xv_name 0 rfl) ⟨pa, rfl, hp2⟩))) fun y xs H3 s3 hy h3 hx => q y xs H3 ((s1.trans s2).trans s3) ((s1.trans s2).free hy) h3 ?_
            unfold upto
            rw [hb]
            dsimp only
            rw [if_pos c]
            exact hx
          · refine XGL.go (M := M) (xgl_ifF (R := RPl K CP) (xw_orF ((xt_isNone (M := M) (xd_name 1 rfl ho2)).to rfl) (xw_or1 ((xt_eqI (M := M) (xd_add ((xd_pbase (p := p) ⟨_, W.Z⟩ hp2 (xv_name 0 rfl)).to (show baseD p.base = .int b by rw [hb]; rfl)) (xv_name 2 rfl).int) (xd_name 1 rfl ho2)).to (decide_eq_false c)))).t xgl_nil) fun y xs H3 s3 hy h3 hx => q y xs H3 ((s1.trans s2).trans s3) ((s1.trans s2).free hy) h3 ?_
            unfold upto
            rw [hb]
            dsimp only
            rw [if_neg c]
            exact hx
end
end Zn

set_option Elab.async false
set_option linter.all false
set_option maxRecDepth 100000
set_option maxHeartbeats 8000000
namespace Zn
open PySem PySem.Spec PyProof.Rows L2 Dl
/-! ### readings of a plan: the mathematics -/
/-- the sum of the jumps up to a moment -/
def sumJ (m : Int) : List Step → Int
  | [] => 0
  | s :: st => (if s.1 ≤ m then s.2 else 0) + sumJ m st
def Asc (st : List Step) : Prop := st.Pairwise fun s t => s.1 < t.1
theorem ab_nn (n : Int) : 0 ≤ ab n ∧ n ≤ ab n ∧ -n ≤ ab n := by unfold ab; split <;> omega
theorem okS_tail {s : Step} {st : List Step} (h : okS (s :: st)) : okS st :=
  ⟨fun t ht => h.1 t (List.mem_cons_of_mem _ ht), fun k t u h1 h2 => h.2 (k + 1) t u (by simpa using h1) (by simpa using h2)⟩
theorem okS_gap {s t : Step} {st : List Step} (h : okS (s :: t :: st)) : ab s.2 + ab t.2 < t.1 - s.1 := h.2 0 s t rfl rfl
theorem asc_first : ∀ {s : Step} {st : List Step}, okS (s :: st) → ∀ t ∈ st, s.1 < t.1
  | s, [], _, t, ht => by simp at ht
  | s, u :: st, h, t, ht => by
    have g := okS_gap h
    have a1 := ab_nn s.2
    have a2 := ab_nn u.2
    rcases List.mem_cons.mp ht with e | ht
    · rw [e]; omega
    · have z := asc_first (okS_tail h) t ht
      omega
theorem sum_small : ∀ {m : Int} {st : List Step}, (∀ t ∈ st, m < t.1) → sumJ m st = 0
  | m, [], _ => rfl
  | m, s :: st, h => by
    unfold sumJ
    have h1 := h s (List.mem_cons_self ..)
    rw [if_neg (by omega), sum_small fun t ht => h t (List.mem_cons_of_mem _ ht)]
    rfl
/-- from a change on readings do not fall below the one at the change -/
theorem sum_low : ∀ {m : Int} {s : Step} {st : List Step}, okS (s :: st) → s.1 ≤ m → s.1 ≤ m + sumJ m st
  | m, s, [], _, h => by unfold sumJ; omega
  | m, s, t :: st, ok, h => by
    have g := okS_gap ok
    have a1 := ab_nn s.2
    have a2 := ab_nn t.2
    by_cases z : t.1 ≤ m
    · have q := sum_low (okS_tail ok) z
      unfold sumJ
      rw [if_pos z]
      omega
    · rw [sum_small (m := m)]
      · omega
      · intro u hu
        rcases List.mem_cons.mp hu with e | hu
        · rw [e]; omega
        · have := asc_first (okS_tail ok) u hu; omega
/-- the moments of a reading, in ascending order -/
def solP (r : Int) : Int → List Step → List Int
  | o, [] => [r - o]
  | o, s :: st => (if r < s.1 + o then [r - o] else []) ++ (if r < s.1 + o + s.2 then [] else solP r (o + s.2) st)
theorem sol_mem (r : Int) : ∀ (o : Int) {st : List Step}, okS st → ∀ m, m ∈ solP r o st ↔ m + (o + sumJ m st) = r
  | o, [], _, m => by
    unfold solP sumJ
    rw [List.mem_singleton]
    omega
  | o, s :: st, ok, m => by
    have ih := sol_mem r (o + s.2) (okS_tail ok) m
    have up : m < s.1 → sumJ m st = 0 := fun h => sum_small fun t ht => by
      have := asc_first ok t ht
      omega
    unfold solP
    rw [List.mem_append]
    have e : sumJ m (s :: st) = (if s.1 ≤ m then s.2 else 0) + sumJ m st := rfl
    rw [e]
    constructor
    · rintro (h | h)
      · split at h
        · rw [List.mem_singleton] at h
          rw [up (by omega), if_neg (by omega)]
          omega
        · simp at h
      · split at h
        · simp at h
        · have q := ih.mp h
          by_cases z : s.1 ≤ m
          · rw [if_pos z]; omega
          · have := up (by omega)
            omega
    · intro h
      by_cases z : s.1 ≤ m
      · rw [if_pos z] at h
        have low := sum_low ok z
        right
        rw [if_neg (by omega)]
        exact ih.mpr (by omega)
      · rw [if_neg z, up (by omega)] at h
        left
        rw [if_pos (by omega), List.mem_singleton]
        omega
theorem sol_asc (r : Int) : ∀ (o : Int) {st : List Step}, okS st → (solP r o st).Pairwise (· < ·)
  | o, [], _ => by unfold solP; exact List.pairwise_singleton _ _
  | o, s :: st, ok => by
    unfold solP
    rw [List.pairwise_append]
    refine ⟨by split <;> simp, ?_, ?_⟩
    · split
      · exact List.Pairwise.nil
      · exact sol_asc r (o + s.2) (okS_tail ok)
    · intro a ha b hb
      split at ha
      · rw [List.mem_singleton] at ha
        split at hb
        · simp at hb
        · have q := (sol_mem r (o + s.2) (okS_tail ok) b).mp hb
          by_cases z : s.1 ≤ b
          · omega
          · have e : sumJ b st = 0 := sum_small fun t ht => by
              have := asc_first ok t ht
              omega
            omega
      · simp at ha
/-- the first gap or fold with a reading: the offsets before and behind it -/
def tornP (r : Int) : Int → List Step → Option (Int × Int)
  | _, [] => none
  | o, s :: st => if s.1 + (if o + s.2 < o then o + s.2 else o) ≤ r ∧ r < s.1 + (if o + s.2 > o then o + s.2 else o) then some (o, o + s.2) else tornP r (o + s.2) st
theorem torn_low (r : Int) : ∀ (s : Step) (o : Int) {st : List Step}, okS (s :: st) → r < s.1 + o + ab s.2 → tornP r o st = none
  | s, o, [], _, _ => rfl
  | s, o, t :: st, ok, h => by
    have g := okS_gap ok
    have a2 := ab_nn t.2
    unfold tornP
    rw [if_neg (by split <;> omega)]
    exact torn_low r t (o + t.2) (okS_tail ok) (by omega)
theorem sol_torn (r : Int) : ∀ (o : Int) {st : List Step}, okS st → (tornP r o st = none → ∃ m, solP r o st = [m]) ∧ (tornP r o st ≠ none → (solP r o st).length ≠ 1)
  | o, [], _ => ⟨fun _ => ⟨_, rfl⟩, fun h => absurd rfl h⟩
  | o, s :: st, ok => by
    have ih := sol_torn r (o + s.2) (okS_tail ok)
    have a1 := ab_nn s.2
    have j0 := (ok.1 s (List.mem_cons_self ..)).1
    unfold tornP solP
    by_cases c : s.1 + (if o + s.2 < o then o + s.2 else o) ≤ r ∧ r < s.1 + (if o + s.2 > o then o + s.2 else o)
    · rw [if_pos c]
      refine ⟨fun h => (by cases h), fun _ => ?_⟩
      obtain ⟨c1, c2⟩ := c
      by_cases z : s.2 < 0
      · rw [if_pos (by omega)] at c1
        rw [if_neg (by omega)] at c2
        have tl := torn_low r s (o + s.2) ok (by omega)
        obtain ⟨m, hm⟩ := ih.1 tl
        rw [if_pos (by omega), if_neg (by omega), hm]
        simp
      · rw [if_neg (by omega)] at c1
        rw [if_pos (by omega)] at c2
        rw [if_neg (by omega), if_pos (by omega)]
        simp
    · rw [if_neg c]
      by_cases z : r < s.1 + (if o + s.2 < o then o + s.2 else o)
      · have tl := torn_low r s (o + s.2) ok (by split at z <;> omega)
        rw [tl]
        refine ⟨fun _ => ⟨r - o, ?_⟩, fun h => absurd rfl h⟩
        rw [if_pos (by split at z <;> omega), if_pos (by split at z <;> omega)]
        rfl
      · have hh : s.1 + (if o + s.2 > o then o + s.2 else o) ≤ r := by
          by_cases y : r < s.1 + (if o + s.2 > o then o + s.2 else o)
          · exact absurd ⟨by omega, y⟩ c
          · omega
        rw [if_neg (by split at hh <;> omega), if_neg (by split at hh <;> omega), List.nil_append]
        exact ih
/-- the offsets of a plan -/
def offsP : Int → List Step → List Int
  | o, [] => [o]
  | o, s :: st => o :: offsP (o + s.2) st
theorem offs_mem (m : Int) : ∀ (o : Int) {st : List Step}, okS st → o + sumJ m st ∈ offsP o st
  | o, [], _ => by unfold offsP sumJ; simp
  | o, s :: st, ok => by
    unfold offsP
    by_cases z : s.1 ≤ m
    · refine List.mem_cons_of_mem _ ?_
      have q := offs_mem m (o + s.2) (okS_tail ok)
      have e : o + sumJ m (s :: st) = o + s.2 + sumJ m st := by
        show o + ((if s.1 ≤ m then s.2 else 0) + sumJ m st) = _
        rw [if_pos z]; omega
      rw [e]; exact q
    · have e : sumJ m (s :: st) = 0 := by
        unfold sumJ
        rw [if_neg z, sum_small fun t ht => by have := asc_first ok t ht; omega]
        rfl
      rw [e]
      simp
/-- a moment is one of those that the offsets give just if it has the reading -/
theorem sol_offs {r o : Int} {st : List Step} (ok : okS st) (m : Int) : m ∈ solP r o st ↔ ∃ x ∈ offsP o st, (if o + sumJ (r - x) st = x then some (r - x) else none) = some m := by
  rw [sol_mem r o ok]
  constructor
  · intro h
    have e : r - (o + sumJ m st) = m := by omega
    refine ⟨o + sumJ m st, offs_mem m o ok, ?_⟩
    rw [e, if_pos rfl]
  · rintro ⟨x, _, h⟩
    split at h
    · rename_i q
      cases h
      omega
    · cases h

/-! ### the same by rows -/
theorem offAt_all (m : Int) : ∀ (o : Int) {rs : List Row}, (∀ r ∈ rs, m < r.1) → offAt m o rs = o
  | o, [], _ => rfl
  | o, r :: rs, h => by
    unfold offAt
    have := h r (List.mem_cons_self ..)
    rw [if_neg (by omega)]
    exact offAt_all m o fun r hr => h r (List.mem_cons_of_mem _ hr)
theorem rows_mom : ∀ (f : Int) (st : List Step) (r : Row), r ∈ rowsP f st → ∃ s ∈ st, r.1 = s.1
  | _, [], r, h => by simp [rowsP, rowsOf, chOf] at h
  | f, s :: st, r, h => by
    rw [rowsP_cons] at h
    rcases List.mem_cons.mp h with e | h
    · exact ⟨s, List.mem_cons_self .., by rw [e]⟩
    · obtain ⟨t, ht, e⟩ := rows_mom (f + s.2) st r h
      exact ⟨t, List.mem_cons_of_mem _ ht, e⟩
theorem offAt_plan (m : Int) : ∀ (f : Int) {st : List Step}, okS st → offAt m f (rowsP f st) = f + sumJ m st
  | f, [], _ => by show f = f + 0; omega
  | f, s :: st, ok => by
    rw [rowsP_cons]
    show offAt m (if s.1 ≤ m then f + s.2 else f) (rowsP (f + s.2) st) = f + ((if s.1 ≤ m then s.2 else 0) + sumJ m st)
    by_cases z : s.1 ≤ m
    · rw [if_pos z, if_pos z, offAt_plan m (f + s.2) (okS_tail ok)]
      omega
    · rw [if_neg z, if_neg z, offAt_all m f fun r hr => ?_, sum_small fun t ht => ?_]
      · omega
      · have := asc_first ok t ht; omega
      · obtain ⟨t, ht, e⟩ := rows_mom (f + s.2) st r hr
        have := asc_first ok t ht
        omega
theorem offs_rows : ∀ (f : Int) (st : List Step), offsP f st = f :: (rowsP f st).map (·.2.2)
  | f, [] => rfl
  | f, s :: st => by
    rw [rowsP_cons, List.map_cons, ← offs_rows (f + s.2) st]
    rfl
theorem offs_ch (f : Int) (st : List Step) : offsP f st = f :: (chOf f st).map (·.2) := by
  rw [offs_rows]
  congr 1
  have h : ∀ (o : Int) (cs : List (Int × Int)), (rowsOf o cs).map (·.2.2) = cs.map (·.2) := fun o cs => by
    induction cs generalizing o with
    | nil => rfl
    | cons c cs ih => show c.2 :: (rowsOf c.2 cs).map (·.2.2) = _; rw [ih]; rfl
  exact h f _
theorem offs_len (f : Int) (st : List Step) : (offsP f st).length = st.length + 1 := by rw [offs_ch, List.length_cons, List.length_map, ch_len]
def inTorn (x : Int) (r : Row) : Bool := decide (r.1 + (if r.2.2 < r.2.1 then r.2.2 else r.2.1) ≤ x) && decide (x < r.1 + (if r.2.2 > r.2.1 then r.2.2 else r.2.1))
theorem torn_find (x : Int) : ∀ (f : Int) (st : List Step), tornP x f st = ((rowsP f st).find? (inTorn x)).map (·.2)
  | _, [] => rfl
  | f, s :: st => by
    rw [rowsP_cons, List.find?_cons]
    unfold tornP
    by_cases c : s.1 + (if f + s.2 < f then f + s.2 else f) ≤ x ∧ x < s.1 + (if f + s.2 > f then f + s.2 else f)
    · rw [if_pos c]
      have e : inTorn x (s.1, f, f + s.2) = true := by
        unfold inTorn
        rw [Bool.and_eq_true, decide_eq_true_eq, decide_eq_true_eq]
        exact c
      rw [e]
      rfl
    · rw [if_neg c]
      have e : inTorn x (s.1, f, f + s.2) = false := by
        cases q : inTorn x (s.1, f, f + s.2) with
        | false => rfl
        | true =>
          unfold inTorn at q
          rw [Bool.and_eq_true, decide_eq_true_eq, decide_eq_true_eq] at q
          exact absurd q c
      rw [e]
      exact torn_find x (f + s.2) st
/-- what placing comes to -/
def placeD (x : Int) (rule : Str) (rs : List Row) (ms : List Int) : PyData :=
  match rs.find? (inTorn x) with
  | some r => if rule = "ahead" then .int (x - r.2.1) else if rule = "behind" then .int (x - r.2.2) else .none
  | none => .int (ms.headD 0)
theorem find_take {α : Type} {p : α → Bool} {l : List α} {k : Nat} {r : α} (hk : l[k]? = some r) (h : (l.take k).find? p = none) (hp : p r = true) : l.find? p = some r := by
  have e : l = l.take k ++ r :: l.drop (k + 1) := by
    have hl := (List.getElem?_eq_some_iff.mp hk)
    obtain ⟨hl, e⟩ := hl
    rw [← e, List.getElem_cons_drop, List.take_append_drop]
  rw [e, List.find?_append, h, List.find?_cons, hp]
  rfl
theorem find_snoc {α : Type} {p : α → Bool} {l : List α} {k : Nat} {r : α} (hk : l[k]? = some r) (h : (l.take k).find? p = none) (hp : p r = false) : (l.take (k + 1)).find? p = none := by
  rw [take_snoc hk, List.find?_append, h, List.find?_cons, hp]
  rfl
end Zn

set_option Elab.async false
set_option linter.all false
set_option maxRecDepth 100000
set_option maxHeartbeats 8000000
namespace Dl
open PySem PySem.Spec PyProof.Rows L2
/-- a tuple or a list -/
def sqD (k : Bool) (ds : List PyData) : PyData := if k then .tuple ds else .list ds
section
variable {X : Cx} {M : List Addr} {σ : L2.St} {H H' : Hp} {e a b c o i elt tg iter value : Expr} {es ifs tgs : List Expr} {scope : Scope} {own : List (Str × Nat)} {d d1 d2 : PyData} {ds ds2 : List PyData} {v : V} {pos p1 p2 p3 pos' tpos : Pos} {D : Ends} {rest : List Stmt} {k : Bool} {Q : VK} {x : Str}
theorem dq_seq {K : PySem.W.Frag} (h : Dq K H v (sqD k ds)) : ∃ p xs, v = .ref p ∧ DqAll K H xs ds ∧ (if k then SqT K H p xs else H p = some (.lst xs)) := by
  cases k with
  | true => obtain ⟨p, xs, h1, h2, h3⟩ := dp_tup h; exact ⟨p, xs, h1, h3, h2⟩
  | false => obtain ⟨p, xs, h1, h2, h3⟩ := dp_lst h; exact ⟨p, xs, h1, h3, h2⟩
theorem xd_lenQ (hm : X.mg "len" = none) (ha : XD X M σ H e (sqD k ds)) (hg : Gl X "len" := by rfl) (he : starEach [e] X.env = (false, eval e X.env) :: starEach [] X.env := by rfl) (hpl : (backTo pos (starEach [] X.env)).any (·.1) = false := by rfl) :
    XD X M σ H (.Call (.Name "len" p1) [e] [] pos) (.int ds.length) := by
  cases k with
  | true => exact xd_lenT hm ha hg he hpl
  | false => exact xd_len hm ha hg he hpl
theorem xd_ixQ {n : Int} (hs : PlainIx b) (ha : XD X M σ H a (sqD k ds)) (hb : XD X M σ H b (.int n)) (h : atI ds n = some d) : XD X M σ H (.Subscript a b pos) d := by
  cases k with
  | true => exact xd_ixT hs ha hb h
  | false => exact xd_ixL hs ha hb h
theorem rb_forQ {body : List Stmt} (hit : XD X M σ H e (sqD k ds))
    (h : ∀ H1, Same H H1 → ∃ Pv : Nat → L2.St → Hp → Prop, Pv 0 σ H1 ∧ (∀ k σ' H', Pv k σ' H' → Same (hid M H1) (hid M H')) ∧
      (∀ k d, ds[k]? = some d → ∀ σ' H' v, Pv k σ' H' → Dq X.K (hid M H') v d → RG X tg v σ' H' fun σ2 H2 => RB X body { D with nx := Pv (k + 1), ct := Pv (k + 1), bk := RB X rest D } σ2 H2) ∧ ∀ σ' H', Pv ds.length σ' H' → RB X rest D σ' H')
    (hp : PassesOwn (model X.prog X.w) X.A X.env X.xe := by exact PassesOwn.never) (hc : X.calm = true := by rfl) (hs : ∀ x, foldedSetIterable e X.env x = pure x := by intro _; rfl) : RB X (.For tg e body [] pos :: rest) D σ H := by
  cases k with
  | true => exact rb_forT hit h hp hc hs
  | false => exact rb_for hit h hp hc hs
/-- (a, b, ..) = such a sequence -/
theorem rg_Q {kk : Nat} {R : L2.St → Hp → Prop} (hv : Dq X.K (hid M H) v (sqD k ds)) (h : ∀ vs, DqAll X.K (hid M H) vs ds → RGs X tgs vs σ H R) (hc : X.calm = true := by rfl)
    (hn : (assignEach tgs X.env).length = ds.length := by rfl) (hst : (assignEach tgs X.env).findIdx? (·.1) = none := by rfl) : RG X (.Tuple tgs kk pos) v σ H R := by
  obtain ⟨p, xs, rfl, hx, hp⟩ := dq_seq hv
  have hl : (assignEach tgs X.env).length = xs.length := by rw [hn, dpa_len hx]
  cases k with
  | true => exact rg_tup (same_seqT hid_le hp) (h xs hx) hc hl hst
  | false => exact ⟨_, pg_unl (n := xs.length) hc rgs_ hl hst, p, xs, rfl, SqL.of (hid_le _ _ hp), rfl, h xs hx⟩
theorem xl_compQ (f : PyData → Option PyData) (L : Live M H) (hN : X.N.Nodup) (hit : XD X M σ H iter (sqD k ds)) (ok : BlkOk X.N X.env.scope scope own) (hz : ds.length ≤ 100000)
    (hst : ∀ p d v H1, d ∈ ds → H p = none → Same H H1 → Live (p :: M) H1 → Dq X.K (hid (p :: M) H1) v d → BG X scope tg v (wipe σ (own.map (·.2))) H1 fun σ2 H2 => wipe σ2 (own.map (·.2)) = wipe σ (own.map (·.2)) ∧ BT X scope ifs σ2 H2 fun k H3 =>
      Same H1 H3 ∧ ((k = true ∧ ∃ d', f d = some d' ∧ BE X scope elt σ2 H3 fun y H4 => Same H3 H4 ∧ Dq X.K (hid (p :: M) H4) y d') ∨ (k = false ∧ f d = none)))
    (hc : X.calm = true := by rfl) (hs : ∀ x, foldedSetIterable iter X.env x = pure x := by intro _; rfl) : XL X M σ H (.ListComp elt [⟨tg, iter, ifs, 0⟩] scope pos) (ds.filterMap f) := by
  cases k with
  | true => exact xl_compT f L hN hit ok hz hst hc hs
  | false => exact xl_comp f L hN hit ok hz hst hc hs
theorem rb_enumQ {elts : List Expr} {kk : Nat} {body : List Stmt} (hm : X.mg "enumerate" = none) (hit : XD X M σ H e (sqD k ds))
    (h : ∀ H1, Same H H1 → ∃ Pv : Nat → L2.St → Hp → Prop, Pv 0 σ H1 ∧ (∀ k σ' H', Pv k σ' H' → Same (hid M H1) (hid M H')) ∧
      (∀ k d, ds[k]? = some d → ∀ σ' H' T x, Pv k σ' H' → H' T = none → Dq X.K (hid M H') x d → RG X (.Tuple elts kk tpos) (.ref T) σ' (upd H' T (.tup [.int (k : Nat), x])) fun σ2 H2 => RB X body { D with nx := Pv (k + 1), ct := Pv (k + 1), bk := RB X rest D } σ2 H2) ∧ ∀ σ' H', Pv ds.length σ' H' → RB X rest D σ' H')
    (hg : Gl X "enumerate" := by rfl) (he : starEach [e] X.env = [(false, eval e X.env)] := by rfl) (hp : PassesOwn (model X.prog X.w) X.A X.env X.xe := by exact PassesOwn.never) (hc : X.calm = true := by rfl) (hs : ∀ x, foldedSetIterable (.Call (.Name "enumerate" p1) [e] [] p2) X.env x = pure x := by intro _; rfl) :
    RB X (.For (.Tuple elts kk tpos) (.Call (.Name "enumerate" p1) [e] [] p2) body [] pos :: rest) D σ H := by
  cases k with
  | false => exact rb_enum hm hit h hg he hp hc hs
  | true =>
    exact ⟨_, pss_cons (ps_for hp hc (pi_enumT hg hm ra_ he) rg_ rb_ hs) rb_, ra_1 (hit H (Same.refl H) _ fun v H1 s1 hv => by
      obtain ⟨a, xs, rfl, ha, hx⟩ := dp_tup hv
      obtain ⟨Pv, h0, hk, hst, hd⟩ := h H1 s1
      have hlen := dpa_len hx
      refine ⟨a, xs, rfl, same_seqT hid_le ha, fun i m σ' H' => m + i = xs.length ∧ Pv i σ' H', ⟨xs.length, rfl, h0⟩, fun i m σ' H' w => ?_⟩
      obtain ⟨hmi, hp⟩ := w
      have here : SqT X.K H' a xs := same_seqT hid_le (same_seqT (hk i σ' H' hp) ha)
      cases ex : xs[i]? with
      | none =>
        have hge : xs.length ≤ i := List.getElem?_eq_none_iff.mp ex
        have ei : i = ds.length := by omega
        subst ei
        exact .inl ⟨⟨xs, here, hge⟩, hd σ' H' hp⟩
      | some x0 =>
        have hlt := (List.getElem?_eq_some_iff.mp ex).1
        refine .inr ⟨⟨xs, x0, here, ex⟩, Pv (i + 1), fun σ2 H2 h2 => ⟨m - 1, by omega, by omega, h2⟩, fun v H2 hy => ?_⟩
        obtain ⟨T, x, rfl, hT, rfl, hx0⟩ := hy
        obtain ⟨d, hd1, hd2⟩ := dpa_get' hx (hx0 xs here)
        exact hst i d hd1 σ' H' T x hp hT (hd2.up (hk i σ' H' hp))) he⟩
end
section
variable {X : Cx} {M : List Addr} {σ : L2.St} {H : Hp} {e a b : Expr} {pos p1 p2 : Pos} {k1 k2 : Bool}
theorem xd_all {bs : List Bool} (hm : X.mg "all" = none) (ha : XD X M σ H e (.list (bs.map PyData.bool))) (hc : X.calm = true := by rfl) (hg : Gl X "all" := by rfl)
    (he : starEach [e] X.env = (false, eval e X.env) :: starEach [] X.env := by rfl) (hpl : (backTo p2 (starEach [] X.env)).any (·.1) = false := by rfl) : XD X M σ H (.Call (.Name "all" p1) [e] [] p2) (.bool (bs.all id)) := fun H1 s1 Q q =>
  re_B (cr_all hc) (ra_1 (ha H1 s1 _ fun v H2 s2 hv => by
    obtain ⟨a, xs, rfl, ha, hx⟩ := dp_lst hv
    have ex := bools_v hx
    subst ex
    exact ⟨a, bs, rfl, SqL.of (hid_le _ _ ha), q _ H2 s2 (.bl _)⟩) he) hm (by decide +kernel) hg (by decide) (by decide) he hpl
theorem xd_or2 (ha : XD X M σ H a (.bool k1)) (hb : XD X M σ H b (.bool k2)) : XD X M σ H (.BoolOp .Or [a, b] pos) (.bool (k1 || k2)) := by
  cases k1 with
  | true => exact xd_orT ha
  | false => exact xd_orF ha (xd_one hb)
end
end Dl

set_option Elab.async false
set_option linter.all false
set_option maxRecDepth 100000
set_option maxHeartbeats 8000000
namespace Zn
open PySem PySem.Spec PyProof.Rows L2 Dl
open Pm (Pl Pt pt withC longN over upto allP nextM)
abbrev sNeedK : Stmt := top 35
abbrev sNeedL : Stmt := top 50
abbrev sPtsOf : Stmt := top 49
theorem cut_mid {α : Type} (g : α → PyData) (xs : List α) (a b : Nat) (h : a ≤ b) (hb : b ≤ xs.length) : Dl.cutD (xs.map g) (some (a : Int)) (some (b : Int)) = ((xs.drop a).take (b - a)).map g := by
  unfold Dl.cutD
  rw [HT.sIx_nat, HT.sIx_nat, List.length_map, Nat.min_eq_left (Nat.le_trans h hb), Nat.min_eq_left hb, List.map_take, List.map_drop]
section
variable {X : Cx} {M : List Addr} {σ : L2.St} {H : Hp} {e1 e2 : Expr} {pos p1 : Pos} {f ka : Addr} {fd : FuncData} {k : Kd} {CK CP : Addr} {p : Pl} {pts : List Pt} {s : Nat} {off : Option Int}
/-- plans_upto(..) -/
theorem xgl_pupto (L : Live M H) (G : FnOk X.prog X.w X.K X.mg X.base CX0 3 f fd ["plan", "offset"] (spPUpto X.K CP)) (hr : Room 3 X.A) (FF : Df X.K X.mg "plans_upto" sPUpto ["plan", "offset"] f fd)
    (hp : XG X M σ H e1 (RPl X.K CP) p) (ho : XD X M σ H e2 (baseD off)) (hg : Gl X "plans_upto" := by rfl)
    (he : starEach [e1, e2] X.env = (false, eval e1 X.env) :: starEach [e2] X.env := by rfl) (he2 : starEach [e2] X.env = (false, eval e2 X.env) :: starEach [] X.env := by rfl) (hpl : (backTo pos (starEach [e2] X.env)).any (·.1) = false := by rfl) :
    XGL X M σ H (.Call (.Name "plans_upto" p1) [e1, e2] [] pos) (RPl X.K CP) (upto off p) := fun Ha sa Q q =>
  re_call G hr FF.g FF.F.kp FF.b (ra_cons (hp Ha sa _ fun vp Hb sb hvp => ra_1 (ho Hb (sa.trans sb) _ fun vo Hc sc hvo =>
    ⟨M, vp, vo, p, off, rfl, L.mono ((sa.trans sb).trans sc), (RPl X.K CP).up (hid_mono sc) hvp, hvo, fun y xs H1 s1 hy hx hr => q y xs H1 ((sb.trans sc).trans s1) ((sb.trans sc).free hy) hx hr⟩) he2) he) hg (by decide) he hpl
end
def spPFor (K : PySem.W.Frag) (CK CP : Addr) : Sp := fun vs H Q _ => ∃ (M : List Addr) (ka : Addr) (vq : V) (k : Kd) (pts : List Pt), vs = [.ref ka, vq] ∧ Live M H ∧ KAt K CK (hid M H) ka k ∧ Dq K (hid M H) vq (.list (pts.map ptD)) ∧ 1 ≤ pts.length ∧ pts.length ≤ 1000 ∧ (1 + (pts.length - 1) * k.js.length) ^ k.mo.toNat ≤ 100000 ∧ KOk k ∧
  NL (RPl K CP) M H (allP (isort k.js) k.ap k.mo pts (pts.length - 1)) Q
section
variable {P : Program} {w : World} {K : PySem.W.Frag} {mg : Str → Option Value} {base : Heap} {C CK CP CZ : Addr}
abbrev pfN : List Str := ["kind", "points", "found", "slot", "longer", "plan", "more"]
theorem scPFor : FnScope pfN ["kind", "points"] (defScope sPFor) := ⟨rfl, rfl, rfl, by decide +kernel, rfl, by decide +kernel, by decide +kernel⟩
theorem ok_pfor {f fO fU fP : Addr} {fd fdO fdU fdP : FuncData} (T : Nm mg) (W : PMk P w K mg base CP fP fdP) (GO : FnOk P w K mg base CX0 4 fO fdO ["kind", "plan", "points", "slot"] (spPOver K CK CP)) (FO : Df K mg "plans_over" sPOver ["kind", "plan", "points", "slot"] fO fdO)
    (GU : FnOk P w K mg base CX0 3 fU fdU ["plan", "offset"] (spPUpto K CP)) (FU : Df K mg "plans_upto" sPUpto ["plan", "offset"] fU fdU) (F : Df K mg "plans_for" sPFor ["kind", "points"] f fd) : FnOk P w K mg base CX0 5 f fd ["kind", "points"] (spPFor K CK CP) := by
  refine F.F.ok scPFor (fun vs H Q E h => ?_) (fun cdv A outer s0 H vs Q E hr h => ?_)
  · obtain ⟨M, ka, vq, k, pts, rfl, _⟩ := h; rfl
  · obtain ⟨M, ka, vq, k, pts, rfl, L, hk, hq, hp1, hp2, hbig, ko, q⟩ := h
    have hmm : k.mo = (k.mo.toNat : Int) := (Int.toNat_of_nonneg ko.m0).symm
    have hm3 : k.mo.toNat ≤ 3 := by have := ko.m1; omega
    have bnd : ∀ s, s ≤ pts.length - 1 → (1 + s * (isort k.js).length) ^ k.mo.toNat ≤ 100000 := fun s hs => Nat.le_trans (Nat.pow_le_pow_left (Nat.add_le_add_left (Nat.mul_le_mul hs (by rw [len_isort]; exact Nat.le_refl _)) 1) _) hbig
    refine rb_setGL 2 (M := M) (xgl_one (R := RPl K CP) L (xp_make (p := ⟨(pt pts 0).2, [], [], []⟩) L W (hr.mono (by decide)) (xd_ixT (fun _ _ => rfl) (xd_ixL (fun _ _ => rfl) (xd_name 1 rfl hq) xd_int (pt_at (s := 0) (by omega) rfl)) xd_int pt1) (xd_lst L xa_nil) (xd_lst L xa_nil) (xd_lst L xa_nil))) (fun y xs H1 s1 hy h1 hx => ?_) scPFor.nd
    refine rb_range T.rng (XD.go (M := M) (xd_sub (xd_len T.len (xd_name 1 rfl (hq.up (hid_mono s1)))) xd_int) fun v H2 s2 hv => ?_)
    have ev := dp_int hv
    rw [List.length_map] at ev
    refine ⟨pts.length - 1, by rw [ev, Int.natCast_sub hp1]; rfl, by omega, fun i σ' H' => Same H H' ∧ ∃ pl xs a3 a4, σ' = [some (.ref ka), some vq, some (.ref pl), a3, a4, none, none] ∧ H pl = none ∧ H' pl = some (.lst xs) ∧ RAll (RPl K CP) (hid M H') xs (allP (isort k.js) k.ap k.mo pts i),
      ⟨s1.trans s2, y, xs, none, none, rfl, hy, s2 _ _ h1, hx.up (hid_mono s2)⟩, fun i σ' H' hi w => ?_, fun σ' H' w => ?_⟩
    · obtain ⟨sH, pl, xs, a3, a4, rfl, hpl0, hpl, hda⟩ := w
      have L' := L.mono sH
      have hk' := hk.up (hid_mono (M := M) sH)
      have hq' := hq.up (hid_mono (M := M) sH)
      have ef : ∀ (l : List Pl) (g : Pl → List Pl), (l.flatMap fun t => (g t).map fun b => b) = l.flatMap g := fun l g => by simp
      have hfound : (RPl K CP).lst.r (hid M H') (.ref pl) (allP (isort k.js) k.ap k.mo pts i) := ⟨pl, xs, rfl, by rw [hid_of fun z => L pl z hpl0]; exact hpl, hda⟩
      refine rg_name 3 ?_ scPFor.nd
      refine rb_setG2 4 (M := M) (own := [("plan", 5), ("more", 6)]) (vs1 := [6]) (Ra := RPl K CP) (Rm := RPl K CP) (Ro := RPl K CP) (over (isort k.js) k.ap k.mo pts i) (fun _ b => b) L' scPFor.nd (xg_v (xv_name 2 rfl) hfound) (blkOk_by (own := [("plan", 5), ("more", 6)]) (N := pfN) (sc := defScope sPFor) (by decide +kernel)) (by decide)
        (by rw [ef]; exact Nat.le_trans (Pm.longer_len hmm i) (bnd (i + 1) (by omega))) (fun y3 t v3 H4 ht hy3 s4 L4 hv4 => ?cmp) (fun y3 xs3 H4 s4 hy3 h3 hx3 => ?_)
      case cmp =>
        have g4 : Same (hid M H') (hid (y3 :: M) H4) := hid_step hy3 s4
        have hk4 := hk'.up g4
        have hq4 := hq'.up g4
        intro s0 H0 C0 cl fp
        refine rg_name 5 ⟨rfl, Same.refl _, fun s0 H0 C0 cl fp => ?_, fun ed w H5 he s5 L5 hw => ?_⟩ scPFor.nd
        · exact (xgl_pover (k := k) (pts := pts) (s := i) (p := t) L4 GO hr FO (xv_name 0 rfl) hk4 (xg_v (xv_name 5 rfl) hv4) (xd_name 1 rfl hq4) (xv_name 3 rfl) (by omega) (all_sm hmm hm3 i t ht) (by have := (Pm.all_wt hmm i 0).2 t ht; omega) ko).dd L4
        · intro s0 H0 C0 cl fp
          refine rg_name 6 ⟨rfl, Same.refl _, fun s0 H0 C0 cl fp => ?_⟩ scPFor.nd
          exact XV.go (xv_name 6 rfl) fun H6 s6 => ⟨s6, (RPl K CP).up (hid_mono s6) hw⟩
      rw [ef] at hx3
      have s0H := sH.trans s4
      have L4 := L.mono s0H
      have hq4 := hq.up (hid_mono (M := M) s0H)
      have hlong : (RPl K CP).lst.r (hid M H4) (.ref y3) ((allP (isort k.js) k.ap k.mo pts i).flatMap (over (isort k.js) k.ap k.mo pts i)) := ⟨y3, xs3, rfl, by rw [hid_of (L'.fresh hy3)]; exact h3, hx3⟩
      refine rb_setG2 2 (M := M) (own := [("more", 6), ("plan", 5)]) (vs1 := [5]) (Ra := RPl K CP) (Rm := RPl K CP) (Ro := RPl K CP) (upto (pt pts (i + 1)).2) (fun _ b => b) L4 scPFor.nd (xg_v (xv_name 4 rfl) hlong) (blkOk_by (own := [("more", 6), ("plan", 5)]) (N := pfN) (sc := defScope sPFor) (by decide +kernel)) (by decide)
        (by rw [ef]; exact Nat.le_trans (Pm.all_len hmm (i + 1)) (bnd (i + 1) (by omega))) (fun y5 t v5 H5 ht hy5 s5 L5 hv5 => ?cmp2) (fun y5 xs5 H5 s5 hy5 h5 hx5 => rb_nil ?_)
      case cmp2 =>
        have hq5 := hq4.up (hid_step (M := M) hy5 s5)
        intro s0 H0 C0 cl fp
        refine rg_name 6 ⟨rfl, Same.refl _, fun s0 H0 C0 cl fp => ?_, fun ed w H6 he s6 L6 hw => ?_⟩ scPFor.nd
        · exact (xgl_pupto (p := t) (off := (pt pts (i + 1)).2) L5 GU (hr.mono (by decide)) FU (xg_v (xv_name 6 rfl) hv5) (xd_ixT (fun _ _ => rfl) (xd_ixL (fun _ _ => rfl) (xd_name 1 rfl hq5) (xd_add (xv_name 3 rfl).int xd_int) (pt_at (s := i + 1) (by omega) rfl)) xd_int pt1)).dd L5
        · intro s0 H0 C0 cl fp
          refine rg_name 5 ⟨rfl, Same.refl _, fun s0 H0 C0 cl fp => ?_⟩ scPFor.nd
          exact XV.go (xv_name 5 rfl) fun H7 s7 => ⟨s7, (RPl K CP).up (hid_mono s7) hw⟩
      rw [ef] at hx5
      exact ⟨s0H.trans s5, y5, xs5, _, _, rfl, s0H.free hy5, h5, hx5⟩
    · obtain ⟨sH, pl, xs, a3, a4, rfl, hpl0, hpl, hda⟩ := w
      exact rb_retR (XV.go (xv_name 2 rfl) fun H5 s5 => q pl xs H5 (sH.trans s5) hpl0 (s5 _ _ hpl) (hda.up (hid_mono s5)))
end
section
variable {X : Cx} {M : List Addr} {σ : L2.St} {H : Hp} {e1 e2 : Expr} {pos p1 : Pos} {f ka : Addr} {fd : FuncData} {k : Kd} {CK CP : Addr} {pts : List Pt}
/-- plans_for(..) -/
theorem xgl_pfor (L : Live M H) (G : FnOk X.prog X.w X.K X.mg X.base CX0 5 f fd ["kind", "points"] (spPFor X.K CK CP)) (hr : Room 5 X.A) (FF : Df X.K X.mg "plans_for" sPFor ["kind", "points"] f fd)
    (ho : XV X σ H e1 (.ref ka)) (hk : KAt X.K CK (hid M H) ka k) (hq : XD X M σ H e2 (.list (pts.map ptD))) (h1 : 1 ≤ pts.length) (h2 : pts.length ≤ 1000) (hb : (1 + (pts.length - 1) * k.js.length) ^ k.mo.toNat ≤ 100000) (ko : KOk k) (hg : Gl X "plans_for" := by rfl)
    (he : starEach [e1, e2] X.env = (false, eval e1 X.env) :: starEach [e2] X.env := by rfl) (he2 : starEach [e2] X.env = (false, eval e2 X.env) :: starEach [] X.env := by rfl) (hpl : (backTo pos (starEach [e2] X.env)).any (·.1) = false := by rfl) :
    XGL X M σ H (.Call (.Name "plans_for" p1) [e1, e2] [] pos) (RPl X.K CP) (allP (isort k.js) k.ap k.mo pts (pts.length - 1)) := fun Ha sa Q q =>
  re_call G hr FF.g FF.F.kp FF.b (ra_cons (ho Ha sa _ fun Hb sb => ra_1 (hq Hb (sa.trans sb) _ fun vq Hc sc hvq =>
    ⟨M, ka, vq, k, pts, rfl, L.mono ((sa.trans sb).trans sc), hk.up (hid_mono ((sa.trans sb).trans sc)), hvq, h1, h2, hb, ko, fun y xs H1 s1 hy hx hr => q y xs H1 ((sb.trans sc).trans s1) ((sb.trans sc).free hy) hx hr⟩) he2) he) hg (by decide) he hpl
end
/-! need_kind, need_log, points_of, zone_in -/
def spNeedK (K : PySem.W.Frag) (C : Addr) : Sp := fun vs H Q _ => ∃ (M : List Addr) (a : Addr) (k : Kd), vs = [.ref a] ∧ KAt K C (hid M H) a k ∧ ∀ H1, Same H H1 → Q .non H1
/-- ascending moments -/
def Ascd (es : List Step) : Prop := es.Pairwise fun a b => a.1 < b.1
def ptsOf (es : List Step) : List Pt := es.map fun e => (e.1, some (e.2 - e.1))
structure LogOk (items : List PyData) (es : List Step) : Prop where
  it : Items items es
  l1 : 1 ≤ es.length
  l2 : es.length ≤ 12
  asc : Ascd es
def RNeedL (ds : List PyData) (d : PyData) : Prop := ∃ (k : Bool) (items : List PyData) (es : List Step), ds = [sqD k items] ∧ LogOk items es ∧ d = .none
def RPts (ds es' : List PyData) : Prop := ∃ (k : Bool) (es : List Step), ds = [sqD k (es.map stepD)] ∧ es.length ≤ 1000 ∧ es' = (ptsOf es).map ptD
def spZoneIn (K : PySem.W.Frag) (CP CZ : Addr) : Sp := fun vs H Q _ => ∃ (M : List Addr) (vp : V) (p : Pl) (f : Int), vs = [vp] ∧ Live M H ∧ (RPl K CP).r (hid M H) vp p ∧ p.base = some f ∧ PlSm p ∧ okS (Pm.steps p) ∧ ∀ y H1, Same H H1 → ZAt K CZ (hid M H1) y f (rowsP f (Pm.steps p)) → Q (.ref y) H1
theorem sq_or {k : Bool} {ds : List PyData} : sqD k ds = .list ds ∨ sqD k ds = .tuple ds := by cases k <;> simp [sqD]
theorem zip_steps : ∀ (xs ys : List Int), List.zipWith (fun d e => PyData.tuple [d, e]) (xs.map PyData.int) (ys.map PyData.int) = (xs.zip ys).map stepD
  | [], _ => rfl
  | _ :: _, [] => rfl
  | x :: xs, y :: ys => by
    rw [List.map_cons, List.map_cons, List.zipWith_cons_cons, List.zip_cons_cons, List.map_cons, zip_steps xs ys]
    rfl
theorem fm_pts : ∀ es : List Step, (es.map stepD).filterMap (fun d => match d with | .tuple [.int m, .int r] => some (PyData.tuple [.int m, .int (r - m)]) | _ => none) = (ptsOf es).map ptD
  | [] => rfl
  | e :: es => by
    rw [List.map_cons, List.filterMap_cons]
    show _ :: _ = ptD (e.1, some (e.2 - e.1)) :: (ptsOf es).map ptD
    rw [← fm_pts es]
    rfl
section
variable {P : Program} {w : World} {K : PySem.W.Frag} {mg : Str → Option Value} {base : Heap} {C CK CP CZ : Addr}
theorem scNeedK : FnScope ["value"] ["value"] (defScope sNeedK) := ⟨rfl, rfl, rfl, by decide +kernel, rfl, by decide +kernel, by decide +kernel⟩
theorem ok_needK {f : Addr} {fd : FuncData} (T : Nm mg) (Y : KT K mg CK) (I : KI K CK) (F : Df K mg "need_kind" sNeedK ["value"] f fd) : FnOk P w K mg base CX0 1 f fd ["value"] (spNeedK K CK) := by
  refine F.F.ok scNeedK (fun vs H Q E h => ?_) (fun cdv A outer s H vs Q E hr h => ?_)
  · obtain ⟨M, a, k, rfl, _⟩ := h; rfl
  · obtain ⟨M, a, k, rfl, hk, q⟩ := h
    have hty : ∀ H1, Same H H1 → TyX K H1 (.ref a) (.ref CK) := fun H1 s1 => by
      obtain ⟨dx, r, e1, _⟩ := hk
      exact .base (.ins (s1 _ _ (hid_le _ _ e1)) Y.cl I.ha I.hn I.htk I.hm)
    exact rb_ifF ((xt_not (xt_val (M := M) (xd_isK T.isi Y.mgC (xv_name 0 rfl) hty I.yes))).to rfl) fun H1 s1 => rb_nil (q H1 s1)
theorem scNeedL : FnScope ["value", "index", "item"] ["value"] (defScope sNeedL) := ⟨rfl, rfl, rfl, by decide +kernel, rfl, by decide +kernel, by decide +kernel⟩
theorem ok_needL {f fP : Addr} {fd fdP : FuncData} (T : Nm mg) (hE : mg "enumerate" = none) (hM : ∃ t, mg "MOST_ENTRIES" = some (.int 12 t)) (GP : FnOk P w K mg base CX0 2 fP fdP ["value"] (spR K RPair)) (FP : Df K mg "is_whole_pair" sPair ["value"] fP fdP) (F : Df K mg "need_log" sNeedL ["value"] f fd) : FnOk P w K mg base CX0 3 f fd ["value"] (spR K RNeedL) := by
  obtain ⟨tm, hM⟩ := hM
  refine F.F.ok scNeedL (fun vs H Q E h => ?_) (fun cdv A outer s H vs Q E hr h => ?_)
  · obtain ⟨M, ds, d, L, hd, ⟨k, items, es, rfl, _⟩, q⟩ := h
    exact dpa_len hd
  · obtain ⟨M, ds, d, L, hd, ⟨k, items, es, rfl, lo, rfl⟩, q⟩ := h
    cases hd with
    | cons h1 hd =>
      cases hd
      rename_i v0
      have hil := lo.it.1
      have hl1 := lo.l1
      have hl2 := lo.l2
      refine rb_ifF ((xt_or2 (xt_not (xt_val (M := M) (xd_isS T.isi T.lst T.tup sq_or (xd_name 0 rfl h1)))) fun _ => xt_not (xt_chainI (M := M) op_le op_le xd_int (xd_lenQ T.len (xd_name 0 rfl h1)) (xv_glob (v := .int 12) hM ⟨tm, rfl⟩).int)).to (by
        rw [hil, decide_eq_true (show (1 : Int) ≤ (es.length : Int) by omega), decide_eq_true (show (es.length : Int) ≤ 12 by omega)]
        rfl)) fun H1 s1 => ?_
      have h11 := h1.up (hid_mono (M := M) s1)
      refine rb_enumQ (M := M) hE (xd_name 0 rfl h11) fun H2 s2 => ⟨fun i σ' H' => Same H2 H' ∧ ∃ a1 a2, σ' = [some v0, a1, a2], ⟨Same.refl _, none, none, rfl⟩, fun i σ' H' w => hid_mono w.1, fun i it hi σ' H' t x w ht hx => ?_, fun σ' H' w => ?_⟩
      · obtain ⟨z1, a1, a2, rfl⟩ := w
        obtain ⟨c, hc, hpr⟩ := lo.it.2 i it hi
        have z2 : Same H2 (upd H' t (.tup [.int (i : Nat), x])) := z1.trans (same_new ht)
        have hx2 : Dq K (hid M (upd H' t (.tup [.int (i : Nat), x]))) x it := hx.up (hid_mono (same_new ht))
        refine rg_tup (SqT.of upd_same) (rgs_cons (rg_name 1 (rgs_cons (rg_name 2 (rgs_nil ?_) scNeedL.nd)) scNeedL.nd))
        show RB _ _ _ _ (upd H' t (.tup [.int (i : Nat), x]))
        generalize upd H' t (.tup [.int (i : Nat), x]) = H5 at z2 hx2
        have s05 := (s1.trans s2).trans z2
        have h15 := h1.up (hid_mono (M := M) s05)
        refine rb_ifF ((xt_or2 (k2 := false) (xt_not (xt_val (M := M) (xd_call (L.mono s05) GP hr FP.g FP.F.kp FP.b (xa_cons (xd_name 2 rfl hx2) xa_nil) ⟨it, c, rfl, hpr, rfl⟩))) fun _ => (xt_and2 (k2 := false) (xt_cmpI (M := M) op_gt (xv_name 1 rfl).int xd_int) fun e => ?_).to (by simp)).to rfl) fun H6 s6 => rb_nil ⟨z2.trans s6, _, _, rfl⟩
        have e0 : 0 < i := by have := of_decide_eq_true e; omega
        have hi1 : i - 1 < es.length := by have := (List.getElem?_eq_some_iff.mp hc).1; omega
        have hi2 : items[i - 1]? = some (items[i - 1]'(by omega)) := List.getElem?_eq_getElem (by omega)
        obtain ⟨c0, hc0, hpr0⟩ := lo.it.2 (i - 1) _ hi2
        have hlt : c0.1 < c.1 := by
          obtain ⟨l1, e1⟩ := List.getElem?_eq_some_iff.mp hc0
          obtain ⟨l2, e2⟩ := List.getElem?_eq_some_iff.mp hc
          have := List.pairwise_iff_getElem.mp lo.asc (i - 1) i l1 l2 (by omega)
          rw [e1, e2] at this
          exact this
        exact (xt_cmpI (M := M) op_le (pr_ix hpr (xd_name 2 rfl hx2) rfl) (pr_ix hpr0 (xd_ixQ (fun _ _ => rfl) (xd_name 0 rfl h15) (xd_sub (xv_name 1 rfl).int xd_int) (by
          have e3 : ((i : Nat) : Int) - 1 = ((i - 1 : Nat) : Int) := by omega
          rw [e3]
          exact atI_nat hi2)) rfl)).to (decide_eq_false (by omega))
      · obtain ⟨z1, a1, a2, rfl⟩ := w
        exact rb_nil (q _ _ ((s1.trans s2).trans z1) .non)
theorem scPtsOf : FnScope ["log", "moment", "reading"] ["log"] (defScope sPtsOf) := ⟨rfl, rfl, rfl, by decide +kernel, rfl, by decide +kernel, by decide +kernel⟩
theorem ok_ptsOf {f : Addr} {fd : FuncData} (F : Df K mg "points_of" sPtsOf ["log"] f fd) : FnOk P w K mg base CX0 1 f fd ["log"] (spL K RPts) := by
  refine F.F.ok scPtsOf (fun vs H Q E h => ?_) (fun cdv A outer s H vs Q E hr h => ?_)
  · obtain ⟨M, ds, es', L, hd, ⟨k, es, rfl, _⟩, q⟩ := h
    exact dpa_len hd
  · obtain ⟨M, ds, es', L, hd, ⟨k, es, rfl, hl, rfl⟩, q⟩ := h
    cases hd with
    | cons h1 hd =>
      cases hd
      refine rb_retR (XL.go (M := M) ((xl_compQ (own := [("moment", 1), ("reading", 2)]) (fun d => match d with | .tuple [.int m, .int r] => some (PyData.tuple [.int m, .int (r - m)]) | _ => none) L scPtsOf.nd (xd_name 0 rfl h1)
        (blkOk_by (own := [("moment", 1), ("reading", 2)]) (N := ["log", "moment", "reading"]) (sc := defScope sPtsOf) (by decide +kernel)) (by rw [List.length_map]; omega) (fun p d v H1 hd hp s1 Lp hv => ?_)).to (fm_pts es)) q)
      obtain ⟨c, _, rfl⟩ := mem_step hd
      obtain ⟨t, rfl, ht⟩ := step_at hv
      intro s0 H0 C0 cl fp
      refine rg_tup (same_seqT hid_le ht) (rgs_cons (rg_name 1 (rgs_cons (rg_name 2 (rgs_nil ?_) scPtsOf.nd)) scPtsOf.nd))
      refine ⟨rfl, bt_nil ⟨Same.refl _, .inl ⟨rfl, _, rfl, fun s0 H0 C0 cl fp => ?_⟩⟩⟩
      exact XD.go (xd_tup Lp (xa_cons (xd_name 1 rfl (.int c.1)) (xa_cons (xd_sub (xd_name 2 rfl (.int c.2)) (xd_name 1 rfl (.int c.1))) xa_nil))) fun v H2 s2 hv2 => ⟨s2, hv2⟩
end
end Zn

set_option Elab.async false
set_option linter.all false
set_option maxRecDepth 100000
set_option maxHeartbeats 8000000
namespace Zn
open PySem PySem.Spec PyProof.Rows L2 Dl
open Pm (Pl Pt pt withC longN over upto allP nextM)
def fitB (f : Int) (st : List Step) (es : List Step) : Bool := es.all fun e => decide (e.1 + (f + sumJ e.1 st) = e.2)
theorem fm_items {g : PyData → Option PyData} {h : Step → PyData} (hg : ∀ it c, IsPr it c → g it = some (h c)) : ∀ {items : List PyData} {es : List Step}, Items items es → items.filterMap g = es.map h
  | [], [], _ => rfl
  | [], _ :: _, H => by cases H.1
  | _ :: _, [], H => by cases H.1
  | it :: items, e :: es, H => by
    obtain ⟨c, hc, hp⟩ := H.2 0 it rfl
    cases hc
    rw [List.filterMap_cons, hg it e hp, List.map_cons]
    show _ :: _ = _
    rw [fm_items hg (items := items) (es := es) ⟨by simpa using H.1, fun i x hx => by
      obtain ⟨c, h1, h2⟩ := H.2 (i + 1) x (by simpa using hx)
      exact ⟨c, by simpa using h1, h2⟩⟩]
theorem items_mem {items : List PyData} {es : List Step} (h : Items items es) {d : PyData} (hd : d ∈ items) : ∃ c ∈ es, IsPr d c := by
  obtain ⟨i, hi⟩ := List.mem_iff_getElem?.mp hd
  obtain ⟨c, h1, h2⟩ := h.2 i d hi
  exact ⟨c, List.mem_of_getElem? h1, h2⟩
theorem sum_eq (m : Int) : ∀ st : List Step, Pm.sumLe st m = sumJ m st
  | [] => rfl
  | s :: st => by
    rw [Pm.sumLe_cons, sum_eq m st]
    rfl
theorem asc_pts {es : List Step} (h : Ascd es) : Pm.Asc (ptsOf es) (es.length - 1) := by
  intro i j hij hj
  have hjl : j < es.length := by omega
  have hil : i < es.length := by omega
  unfold pt ptsOf
  rw [List.getElem?_map, List.getElem?_map, List.getElem?_eq_getElem hil, List.getElem?_eq_getElem hjl]
  exact List.pairwise_iff_getElem.mp h i j hil hjl hij
theorem pts_len (es : List Step) : (ptsOf es).length = es.length := List.length_map ..
theorem pts_at {es : List Step} {i : Nat} {e : Step} (h : es[i]? = some e) : pt (ptsOf es) i = (e.1, some (e.2 - e.1)) := by
  unfold pt ptsOf
  rw [List.getElem?_map, h]
  rfl
theorem of_ofK {k : Kd} {p : Pl} {pts : List Pt} {s : Nat} (h : Pm.PlOk (isort k.js) k.ap k.mo pts s p) : OfK k (Pm.steps p) := by
  refine ⟨fun x hx => (mem_isort _ _).mp (h.js _ (List.of_mem_zip hx).2), fun i a b ha hb => ?_⟩
  unfold Pm.steps at ha hb
  rw [List.getElem?_zip_eq_some] at ha hb
  obtain ⟨l1, e1⟩ := List.getElem?_eq_some_iff.mp ha.1
  obtain ⟨l2, e2⟩ := List.getElem?_eq_some_iff.mp hb.1
  have := List.pairwise_iff_getElem.mp h.gap i (i + 1) l1 l2 (by omega)
  rw [e1, e2] at this
  exact this
theorem floor_pos {k : Kd} (ko : KOk k) : 0 < k.ap := by
  have h := ko.ap
  have := (mx_small ko.js.1 (okJs_ne ko.js)).1
  unfold floorK at h
  omega
/-- what a plan of a log is good for -/
structure PGood (k : Kd) (es : List Step) (p : Pl) (f : Int) : Prop where
  base : p.base = some f
  of : OfK k (Pm.steps p)
  len : ((Pm.steps p).length : Int) ≤ k.mo
  sm : PlSm p
  ok : okS (Pm.steps p)
  at_ : ∀ e ∈ es, f + sumJ e.1 (Pm.steps p) = e.2 - e.1
theorem plan_good {k : Kd} {es : List Step} {p : Pl} (ko : KOk k) (ha : Ascd es) (h1 : 1 ≤ es.length) (hp : p ∈ allP (isort k.js) k.ap k.mo (ptsOf es) (es.length - 1)) : ∃ f, PGood k es p f := by
  have hmm : k.mo = (k.mo.toNat : Int) := (Int.toNat_of_nonneg ko.m0).symm
  obtain ⟨g1, g2, g3⟩ := Pm.all_ok (Int.le_of_lt (floor_pos ko)) ko.m0 _ (asc_pts ha) p hp
  have e0 : es[0]? = some (es[0]'(by omega)) := List.getElem?_eq_getElem (by omega)
  obtain ⟨f, hb, _⟩ := g2 0 (Nat.zero_le _) _ (by rw [pts_at e0])
  have of := of_ofK g1
  refine ⟨f, hb, of, ?_, all_sm hmm (by have := ko.m1; omega) _ p hp, ofK_ok ko of, fun e he => ?_⟩
  · unfold Pm.steps
    rw [List.length_zip, g1.l1]
    have := g1.len
    omega
  · obtain ⟨i, hi⟩ := List.mem_iff_getElem?.mp he
    have hil := (List.getElem?_eq_some_iff.mp hi).1
    obtain ⟨b, hb2, hs⟩ := g2 i (by omega) (e.2 - e.1) (by rw [pts_at hi])
    rw [hb] at hb2
    cases hb2
    rw [pts_at hi, sum_eq] at hs
    exact hs
def sub (es : List Step) (a d : Nat) : List Step := (es.drop a).take (d + 1)
theorem sub_len {es : List Step} {a d : Nat} (h : a + d < es.length) : (sub es a d).length = d + 1 := by unfold sub; rw [List.length_take, List.length_drop]; omega
theorem sub_asc {es : List Step} (h : Ascd es) (a d : Nat) : Ascd (sub es a d) := List.Pairwise.sublist ((List.take_sublist _ _).trans (List.drop_sublist _ _)) h
theorem pts_sub (es : List Step) (a d : Nat) : ptsOf (sub es a d) = ((ptsOf es).drop a).take (d + 1) := by unfold ptsOf sub; rw [List.map_take, List.map_drop]
def inn (bad : Nat → Nat → Bool) (N d : Nat) : Option Nat := first (fun a => bad a d) (N - d)
def clashF (bad : Nat → Nat → Bool) (N : Nat) : Option (Nat × Nat) := match first (fun d => (inn bad N d).isSome) N with
  | none => none
  | some d => (inn bad N d).map fun a => (a, d)
def clashD : Option (Nat × Nat) → PyData
  | none => .none
  | some (a, d) => .tuple [.int (a : Int), .int ((a : Int) + (d : Int))]
def badP (k : Kd) (es : List Step) (a d : Nat) : Bool := (allP (isort k.js) k.ap k.mo (ptsOf (sub es a d)) d).isEmpty
def spFits (K : PySem.W.Frag) (CZ : Addr) : Sp := fun vs H Q _ => ∃ (M : List Addr) (z : Addr) (vl : V) (f : Int) (st : List Step) (k : Bool) (items : List PyData) (es : List Step), vs = [.ref z, vl] ∧ Live M H ∧ ZAt K CZ (hid M H) z f (rowsP f st) ∧ okS st ∧ st.length ≤ 50 ∧ Dq K (hid M H) vl (sqD k items) ∧ LogOk items es ∧
  ∀ H1, Same H H1 → Q (.bl (fitB f st es)) H1
def spFitting (K : PySem.W.Frag) (CK CP CZ : Addr) : Sp := fun vs H Q _ => ∃ (M : List Addr) (ka : Addr) (vl : V) (k : Kd) (kb : Bool) (es : List Step), vs = [.ref ka, vl] ∧ Live M H ∧ KAt K CK (hid M H) ka k ∧ KOk k ∧ Dq K (hid M H) vl (sqD kb (es.map stepD)) ∧ LogOk (es.map stepD) es ∧
  (allP (isort k.js) k.ap k.mo (ptsOf es) (es.length - 1) = [] → ∀ H1, Same H H1 → Q .non H1) ∧
  (∀ p ps f, allP (isort k.js) k.ap k.mo (ptsOf es) (es.length - 1) = p :: ps → PGood k es p f → ∀ y H1, Same H H1 → ZAt K CZ (hid M H1) y f (rowsP f (Pm.steps p)) → Q (.ref y) H1)
def spClash (K : PySem.W.Frag) (CK : Addr) : Sp := fun vs H Q _ => ∃ (M : List Addr) (ka : Addr) (vl : V) (k : Kd) (kb : Bool) (es : List Step), vs = [.ref ka, vl] ∧ Live M H ∧ KAt K CK (hid M H) ka k ∧ KOk k ∧ Dq K (hid M H) vl (sqD kb (es.map stepD)) ∧ LogOk (es.map stepD) es ∧
  ∀ v H1, Same H H1 → Dq K (hid M H1) v (clashD (clashF (badP k es) es.length)) → Q v H1
section
variable {X : Cx} {σ : L2.St} {H : Hp} {a b c : Expr} {pos : Pos} {Q : VK} {k : Bool}
/-- a if c else b, whatever is told -/
theorem re_ifx (hc : XT X σ H c k) (hT : k = true → ∀ H1, Same H H1 → RE X a σ H1 Q) (hF : k = false → ∀ H1, Same H H1 → RE X b σ H1 Q) : RE X (.IfExp c a b pos) σ H Q :=
  ⟨_, pe_ifExp rt_ re_ re_, hc H (Same.refl H) _ fun H1 s1 => by
    cases k with
    | true => exact iteT (hT rfl H1 s1)
    | false => exact iteF (hF rfl H1 s1)⟩
end
section
variable {X : Cx} {M : List Addr} {σ : L2.St} {H : Hp} {o e : Expr} {pos ap : Pos} {f z : Addr} {fd : FuncData} {CZ : Addr} {off m : Int} {rs : List Row}
/-- zone.read(e) -/
theorem xd_zread {pl : Sem Bool} (L : Live M H) (hc : Cls X.K CZ) (hM : Meth X.K CZ "read" f) (G : FnOk X.prog X.w X.K X.mg X.base CX0 4 f fd ["self", "moment"] (spMI X.K CZ fun off rs m => m + offAt m off rs)) (hr : Room 4 X.A) (hb : Binds X.K fd ["self", "moment"] [])
    (ho : XV X σ H o (.ref z)) (hz : ZAt X.K CZ (hid M H) z off rs) (hl : rs.length ≤ 1000) (he : XD X M σ H e (.int m)) (hst : starEach [e] X.env = (false, eval e X.env) :: starEach [] X.env := by rfl) (hpl : (backTo pos (starEach [] X.env)).any (·.1) = false := by rfl)
    (ht : eval (.Call (.Attribute o "read" ap) [e] [] pos) X.env = (do
      let ov ← eval o X.env
      standAt ap.atName
      let (f, first) ← holding [ov] (getMethod ov "read" pl)
      callWith pos f first (backTo pos (starEach [e] X.env)) (backToKw pos (keywordEach [] X.env))) := by rfl) : XD X M σ H (.Call (.Attribute o "read" ap) [e] [] pos) (.int (m + offAt m off rs)) := fun H1 s Q q => by
  have hz0 := hz
  obtain ⟨dx, r, e1, e2⟩ := hz
  exact re_meth (ho.up s) (s _ _ (hid_le _ _ e1)) hc hM (zf_none off r (by decide +kernel) (by decide +kernel)) G hr hb (fun H2 s2 => ra_1 (he H2 (s.trans s2) _ fun v H3 s3 hv => ⟨M, z, off, rs, m, by rw [dp_int hv], L.mono ((s.trans s2).trans s3), hz0.up (hid_mono ((s.trans s2).trans s3)), hl, fun H4 s4 => q _ H4 ((s2.trans s3).trans s4) (.int _)⟩) hst) hst hpl ht
end
section
variable {P : Program} {w : World} {K : PySem.W.Frag} {mg : Str → Option Value} {base : Heap} {C CK CP CZ : Addr}
theorem bound12 {n s m : Nat} (hn : n ≤ 4) (hs : s ≤ 11) (hm : m ≤ 3) : (1 + s * n) ^ m ≤ 100000 := by
  have h1 : s * n ≤ 11 * 4 := Nat.mul_le_mul hs hn
  exact Nat.le_trans (Nat.pow_le_pow_left (show 1 + s * n ≤ 45 by omega) m) (Nat.le_trans (Nat.pow_le_pow_right (by decide) hm) (by decide))
theorem mo3 {k : Kd} (ko : KOk k) : k.mo.toNat ≤ 3 := by have := ko.m1; have := ko.m0; omega
end
end Zn

set_option Elab.async false
set_option linter.all false
set_option maxRecDepth 100000
set_option maxHeartbeats 8000000
namespace Zn
open PySem PySem.Spec PyProof.Rows L2 Dl
open Pm (Pl Pt pt withC longN over upto allP nextM)
/-! the law's own placings of changes: mathematics -/
def dd : List Int → List Int
  | [] => []
  | x :: xs => if x ∈ xs then dd xs else x :: dd xs
theorem dd_mem : ∀ (xs : List Int) (k : Int), k ∈ dd xs ↔ k ∈ xs
  | [], k => Iff.rfl
  | x :: xs, k => by
    unfold dd
    split
    · rename_i h
      rw [dd_mem xs k, List.mem_cons]
      constructor
      · exact .inr
      · rintro (e | e)
        · rw [e]; exact h
        · exact e
    · rw [List.mem_cons, List.mem_cons, dd_mem xs k]
theorem dd_nodup : ∀ xs : List Int, (dd xs).Nodup
  | [] => List.nodup_nil
  | x :: xs => by
    unfold dd
    split
    · exact dd_nodup xs
    · rename_i h
      exact List.nodup_cons.mpr ⟨fun z => h ((dd_mem xs x).mp z), dd_nodup xs⟩
theorem dd_len : ∀ xs : List Int, (dd xs).length ≤ xs.length
  | [] => Nat.le_refl _
  | x :: xs => by
    unfold dd
    have := dd_len xs
    split
    · rw [List.length_cons]; omega
    · rw [List.length_cons, List.length_cons]; omega
/-- sorted(set(..)) -/
def srt (xs : List Int) : List Int := isort (dd xs)
theorem srt_mem {xs : List Int} {k : Int} : k ∈ srt xs ↔ k ∈ xs := (mem_isort _ _).trans (dd_mem _ _)
theorem srt_asc (xs : List Int) : (srt xs).Pairwise (· < ·) := asc_isort (dd_nodup xs)
theorem srt_len (xs : List Int) : (srt xs).length ≤ xs.length := by unfold srt; rw [len_isort]; exact dd_len xs
def rowStep (js : List Int) (n : Nat) (r : List Int) : List (List Int) := if r.length = n then js.map fun j => r ++ [j] else []
def rowsL (js : List Int) : Nat → List (List Int)
  | 0 => [[]]
  | n + 1 => rowsL js n ++ (rowsL js n).flatMap (rowStep js n)
theorem rowsL_mem {js : List Int} : ∀ {n : Nat} {r : List Int}, r ∈ rowsL js n ↔ r.length ≤ n ∧ ∀ j ∈ r, j ∈ js
  | 0, r => by
    show r ∈ [[]] ↔ _
    rw [List.mem_singleton]
    constructor
    · rintro rfl; exact ⟨Nat.le_refl _, fun j h => by cases h⟩
    · rintro ⟨h, _⟩; exact List.eq_nil_of_length_eq_zero (by omega)
  | n + 1, r => by
    show r ∈ rowsL js n ++ _ ↔ _
    rw [List.mem_append, rowsL_mem, List.mem_flatMap]
    constructor
    · rintro (⟨h1, h2⟩ | ⟨s, hs, h⟩)
      · exact ⟨by omega, h2⟩
      · obtain ⟨h1, h2⟩ := rowsL_mem.mp hs
        unfold rowStep at h
        split at h
        · rename_i hl
          obtain ⟨j, hj, rfl⟩ := List.mem_map.mp h
          refine ⟨by rw [List.length_append]; simp; omega, fun x hx => ?_⟩
          rcases List.mem_append.mp hx with z | z
          · exact h2 x z
          · rw [List.mem_singleton.mp z]; exact hj
        · cases h
    · rintro ⟨h1, h2⟩
      by_cases hl : r.length ≤ n
      · exact .inl ⟨hl, h2⟩
      · have ne : r ≠ [] := fun z => by rw [z] at hl; simp at hl
        refine .inr ⟨r.dropLast, rowsL_mem.mpr ⟨by rw [List.length_dropLast]; omega, fun j hj => h2 j ((List.dropLast_sublist r).subset hj)⟩, ?_⟩
        unfold rowStep
        rw [if_pos (by rw [List.length_dropLast]; omega)]
        exact List.mem_map.mpr ⟨r.getLast ne, h2 _ (List.getLast_mem ne), List.dropLast_concat_getLast ne⟩
theorem rowStep_len (js : List Int) (n : Nat) (r : List Int) : (rowStep js n r).length ≤ js.length := by
  unfold rowStep
  split
  · rw [List.length_map]; exact Nat.le_refl _
  · exact Nat.zero_le _
theorem rowsL_len (js : List Int) : ∀ n, (rowsL js n).length ≤ (1 + js.length) ^ n
  | 0 => Nat.le_refl _
  | n + 1 => by
    show (rowsL js n ++ _).length ≤ _
    have h1 := rowsL_len js n
    have h2 := Pm.flat_len (rowStep js n) js.length (rowsL js n) fun r _ => rowStep_len js n r
    rw [List.length_append, Nat.pow_succ, Nat.mul_add, Nat.mul_one]
    have h3 := Nat.mul_le_mul_right js.length h1
    omega
def anchM (ap : Int) (n : Nat) (m : Int) : List Int := (List.range n).flatMap fun l : Nat => [m + 1 + (l : Int) * ap, m - (l : Int) * ap]
def anchL (ap : Int) (n : Nat) (ms : List Int) : List Int := ms.flatMap (anchM ap n)
theorem anchM_len (ap : Int) (n : Nat) (m : Int) : (anchM ap n m).length = 2 * n := by
  unfold anchM
  induction n with
  | zero => rfl
  | succ n ih => rw [List.range_succ, List.flatMap_append, List.length_append, ih]; simp; omega
theorem anchL_len (ap : Int) (n : Nat) : ∀ ms : List Int, (anchL ap n ms).length = ms.length * (2 * n)
  | [] => by simp [anchL]
  | m :: ms => by
    show (anchM ap n m ++ anchL ap n ms).length = _
    rw [List.length_append, anchM_len, anchL_len ap n ms, List.length_cons, Nat.succ_mul (ms.length) (2 * n), Nat.add_comm]
def okLast (ap : Int) (r : List Int) (m : Int) : Bool := match r.getLast? with
  | none => true
  | some l => decide (ap ≤ m - l)
def plStep (ap : Int) (an : List Int) (r : List Int) : List (List Int) := (an.filter (okLast ap r)).map fun m => r ++ [m]
def placed (ap : Int) (an : List Int) : Nat → List (List Int)
  | 0 => [[]]
  | n + 1 => (placed ap an n).flatMap (plStep ap an)
def Chain (ap : Int) (ms : List Int) : Prop := ∀ (i : Nat) a b, ms[i]? = some a → ms[i + 1]? = some b → ap ≤ b - a
theorem chain_snoc {ap : Int} {r : List Int} {m : Int} : Chain ap (r ++ [m]) ↔ Chain ap r ∧ okLast ap r m = true := by
  constructor
  · intro h
    refine ⟨fun i a b ha hb => ?_, ?_⟩
    · have l2 := (List.getElem?_eq_some_iff.mp hb).1
      exact h i a b (by rw [List.getElem?_append_left (by omega)]; exact ha) (by rw [List.getElem?_append_left l2]; exact hb)
    · unfold okLast
      cases hl : r.getLast? with
      | none => rfl
      | some l =>
        rw [List.getLast?_eq_getElem?] at hl
        have l1 := (List.getElem?_eq_some_iff.mp hl).1
        refine decide_eq_true (h (r.length - 1) l m (by rw [List.getElem?_append_left l1]; exact hl) ?_)
        rw [List.getElem?_append_right (by omega)]
        have e : r.length - 1 + 1 - r.length = 0 := by omega
        rw [e]; rfl
  · rintro ⟨h, hl⟩ i a b ha hb
    by_cases hi : i + 1 < r.length
    · exact h i a b (by rw [List.getElem?_append_left (by omega)] at ha; exact ha) (by rw [List.getElem?_append_left hi] at hb; exact hb)
    · have l2 : i + 1 < r.length + 1 := by have := (List.getElem?_eq_some_iff.mp hb).1; rw [List.length_append] at this; exact this
      have ei : i + 1 = r.length := by omega
      rw [List.getElem?_append_left (by omega)] at ha
      rw [List.getElem?_append_right (by omega), ei, Nat.sub_self] at hb
      cases hb
      have eg : r.getLast? = some a := by rw [List.getLast?_eq_getElem?, ← ei]; exact ha
      unfold okLast at hl
      rw [eg] at hl
      exact of_decide_eq_true hl
theorem placed_mem {ap : Int} {an : List Int} : ∀ {n : Nat} {r : List Int}, r ∈ placed ap an n ↔ r.length = n ∧ (∀ m ∈ r, m ∈ an) ∧ Chain ap r
  | 0, r => by
    show r ∈ [[]] ↔ _
    rw [List.mem_singleton]
    constructor
    · rintro rfl; exact ⟨rfl, fun j h => by simp at h, fun i a b h => by simp at h⟩
    · rintro ⟨h, _⟩; exact List.eq_nil_of_length_eq_zero h
  | n + 1, r => by
    show r ∈ (placed ap an n).flatMap _ ↔ _
    rw [List.mem_flatMap]
    constructor
    · rintro ⟨s, hs, h⟩
      obtain ⟨h1, h2, h3⟩ := placed_mem.mp hs
      obtain ⟨m, hm, rfl⟩ := List.mem_map.mp h
      obtain ⟨hm1, hm2⟩ := List.mem_filter.mp hm
      refine ⟨by rw [List.length_append, h1]; rfl, fun x hx => ?_, chain_snoc.mpr ⟨h3, hm2⟩⟩
      rcases List.mem_append.mp hx with z | z
      · exact h2 x z
      · rw [List.mem_singleton.mp z]; exact hm1
    · rintro ⟨h1, h2, h3⟩
      have ne : r ≠ [] := fun z => by rw [z] at h1; cases h1
      have er := List.dropLast_concat_getLast ne
      rw [← er] at h3
      obtain ⟨c1, c2⟩ := chain_snoc.mp h3
      refine ⟨r.dropLast, placed_mem.mpr ⟨by rw [List.length_dropLast]; omega, fun j hj => h2 j ((List.dropLast_sublist r).subset hj), c1⟩, ?_⟩
      exact List.mem_map.mpr ⟨r.getLast ne, List.mem_filter.mpr ⟨h2 _ (List.getLast_mem ne), c2⟩, er⟩
theorem placed_len (ap : Int) (an : List Int) : ∀ n, (placed ap an n).length ≤ an.length ^ n
  | 0 => Nat.le_refl _
  | n + 1 => by
    have h2 := Pm.flat_len (plStep ap an) an.length (placed ap an n) fun r _ => by unfold plStep; rw [List.length_map]; exact List.length_filter_le _ _
    show ((placed ap an n).flatMap _).length ≤ _
    rw [Nat.pow_succ]
    exact Nat.le_trans h2 (Nat.mul_le_mul_right _ (placed_len ap an n))
/-- what is tried: a row of jumps at places -/
def firstO (es : List Step) (st : List Step) : Int := match es with
  | [] => 0
  | e :: _ => e.2 - e.1 - sumJ e.1 st
def readsB (es : List Step) (f : Int) (st : List Step) : Bool := (es.filter fun e => !decide (e.1 + f + sumJ e.1 st = e.2)).isEmpty
def tryL (es : List Step) (r ms : List Int) : List (Int × List Step) := if readsB es (firstO es (ms.zip r)) (ms.zip r) then [(firstO es (ms.zip r), ms.zip r)] else []
def fitL (k : Kd) (es : List Step) (more : List Int) : List (Int × List Step) :=
  (rowsL k.js k.mo.toNat).flatMap fun r => (placed k.ap (srt (anchL k.ap (k.mo.toNat + 1) (es.map (·.1) ++ more))) r.length).flatMap (tryL es r)
/-- a zone of the kind with these readings -/
structure Fz (k : Kd) (es : List Step) (f : Int) (st : List Step) : Prop where
  of : OfK k st
  len : (st.length : Int) ≤ k.mo
  at_ : ∀ e ∈ es, f + sumJ e.1 st = e.2 - e.1
theorem reads_iff {es : List Step} {f : Int} {st : List Step} : readsB es f st = true ↔ ∀ e ∈ es, f + sumJ e.1 st = e.2 - e.1 := by
  unfold readsB
  rw [List.isEmpty_iff, List.filter_eq_nil_iff]
  constructor
  · intro h e he
    have := h e he
    simp at this
    omega
  · intro h e he
    have := h e he
    simp
    omega
theorem fitL_sound {k : Kd} (ko : KOk k) {es : List Step} {more : List Int} {f : Int} {st : List Step} (h : (f, st) ∈ fitL k es more) : Fz k es f st := by
  obtain ⟨r, hr, h⟩ := List.mem_flatMap.mp h
  obtain ⟨ms, hms, h⟩ := List.mem_flatMap.mp h
  obtain ⟨r1, r2⟩ := rowsL_mem.mp hr
  obtain ⟨m1, m2, m3⟩ := placed_mem.mp hms
  unfold tryL at h
  split at h
  · rename_i hb
    cases List.mem_singleton.mp h
    refine ⟨⟨fun s hs => r2 _ (List.of_mem_zip hs).2, fun i a b ha hb => ?_⟩, ?_, reads_iff.mp hb⟩
    · rw [List.getElem?_zip_eq_some] at ha hb
      exact m3 i a.1 b.1 ha.1 hb.1
    · rw [List.length_zip, m1]
      have := ko.m0
      omega
  · cases h
/-- what the law wants of the moments of a plan -/
theorem fitL_has {k : Kd} (ko : KOk k) {es : List Step} {more : List Int} {f : Int} {ea hp : List Int} (h1 : 1 ≤ es.length) (hl : ea.length = hp.length) (hF : Fz k es f (ea.zip hp)) (ha : ∀ m ∈ ea, ∃ x ∈ es.map (·.1) ++ more, ∃ c : Nat, c ≤ k.mo.toNat ∧ m = x + 1 + (c : Int) * k.ap) : (f, ea.zip hp) ∈ fitL k es more := by
  have hz : (ea.zip hp).length = ea.length := by rw [List.length_zip]; omega
  have hlen : hp.length ≤ k.mo.toNat := by have := hF.len; have := ko.m0; omega
  refine List.mem_flatMap.mpr ⟨hp, rowsL_mem.mpr ⟨hlen, fun j hj => ?_⟩, List.mem_flatMap.mpr ⟨ea, placed_mem.mpr ⟨hl, fun m hm => ?_, fun i a b hia hib => ?_⟩, ?_⟩⟩
  · obtain ⟨i, hi⟩ := List.mem_iff_getElem?.mp hj
    have li := (List.getElem?_eq_some_iff.mp hi).1
    have hi2 : ea[i]? = some (ea[i]'(by omega)) := List.getElem?_eq_getElem (by omega)
    exact hF.of.js (ea[i]'(by omega), j) (List.mem_of_getElem? (List.getElem?_zip_eq_some.mpr ⟨hi2, hi⟩))
  · obtain ⟨x, hx, c, hc, e⟩ := ha m hm
    rw [srt_mem]
    refine List.mem_flatMap.mpr ⟨x, hx, List.mem_flatMap.mpr ⟨c, List.mem_range.mpr (by omega), ?_⟩⟩
    rw [e]
    exact List.mem_cons_self ..
  · have la := (List.getElem?_eq_some_iff.mp hia).1
    have lb := (List.getElem?_eq_some_iff.mp hib).1
    have ga : hp[i]? = some (hp[i]'(by omega)) := List.getElem?_eq_getElem (by omega)
    have gb : hp[i + 1]? = some (hp[i + 1]'(by omega)) := List.getElem?_eq_getElem (by omega)
    exact hF.of.gap i (a, hp[i]'(by omega)) (b, hp[i + 1]'(by omega)) (List.getElem?_zip_eq_some.mpr ⟨hia, ga⟩) (List.getElem?_zip_eq_some.mpr ⟨hib, gb⟩)
  · have ef : firstO es (ea.zip hp) = f := by
      cases es with
      | nil => simp at h1
      | cons e es =>
        have := hF.at_ e (List.mem_cons_self ..)
        show e.2 - e.1 - sumJ e.1 (ea.zip hp) = f
        omega
    unfold tryL
    rw [ef, if_pos (reads_iff.mpr hF.at_)]
    exact List.mem_singleton.mpr rfl
/-- a plan of the log is among the law's -/
theorem plan_fitL {k : Kd} {es : List Step} {p : Pl} (ko : KOk k) (ha : Ascd es) (h1 : 1 ≤ es.length) (hp : p ∈ allP (isort k.js) k.ap k.mo (ptsOf es) (es.length - 1)) : ∃ f, p.base = some f ∧ (f, Pm.steps p) ∈ fitL k es [] := by
  obtain ⟨f, pg⟩ := plan_good ko ha h1 hp
  have hmm : k.mo = (k.mo.toNat : Int) := (Int.toNat_of_nonneg ko.m0).symm
  obtain ⟨g1, _, _⟩ := Pm.all_ok (Int.le_of_lt (floor_pos ko)) ko.m0 _ (asc_pts ha) p hp
  refine ⟨f, pg.base, fitL_has ko h1 pg.sm.l1 ⟨pg.of, pg.len, pg.at_⟩ fun m hm => ?_⟩
  obtain ⟨i, hi⟩ := List.mem_iff_getElem?.mp hm
  have li := (List.getElem?_eq_some_iff.mp hi).1
  obtain ⟨r, c, hr, hc, e⟩ := g1.anc i m hi
  have her : es[r]? = some (es[r]'(by omega)) := List.getElem?_eq_getElem (by omega)
  rw [pts_at her] at e
  refine ⟨_, by rw [List.append_nil]; exact List.mem_map.mpr ⟨_, List.mem_of_getElem? her, rfl⟩, c, ?_, e⟩
  have := g1.len
  have := g1.l1
  omega
theorem sumJ_app (m : Int) : ∀ a b : List Step, sumJ m (a ++ b) = sumJ m a + sumJ m b
  | [], b => by show sumJ m b = 0 + sumJ m b; omega
  | s :: a, b => by
    show _ + sumJ m (a ++ b) = _ + sumJ m a + sumJ m b
    rw [sumJ_app m a b]; omega
theorem ofK_pw {k : Kd} (ko : KOk k) {st : List Step} (h : OfK k st) : st.Pairwise fun s t => k.ap ≤ t.1 - s.1 := by
  have hp := floor_pos ko
  have key : ∀ (d i : Nat) (a b : Step), st[i]? = some a → st[i + 1 + d]? = some b → k.ap ≤ b.1 - a.1 := by
    intro d
    induction d with
    | zero => exact fun i a b ha hb => h.gap i a b ha hb
    | succ d ih =>
      intro i a b ha hb
      have lb := (List.getElem?_eq_some_iff.mp hb).1
      have hc : st[i + 1 + d]? = some (st[i + 1 + d]'(by omega)) := List.getElem?_eq_getElem (by omega)
      have h1 := ih i a _ ha hc
      have h2 := h.gap (i + 1 + d) _ b hc hb
      omega
  rw [List.pairwise_iff_getElem]
  intro i j hi hj hij
  have e : j = i + 1 + (j - i - 1) := by omega
  exact key (j - i - 1) i _ _ (List.getElem?_eq_getElem hi) (by rw [← e]; exact List.getElem?_eq_getElem hj)
/-- the changes behind one moment, up to another one -/
def mid (lo hi : Int) (st : List Step) : List Step := st.filter fun s => decide (lo < s.1) && decide (s.1 ≤ hi)
theorem sum_mid {lo hi m : Int} (h1 : lo ≤ m) (h2 : m ≤ hi) : ∀ st : List Step, sumJ m st = sumJ lo st + sumJ m (mid lo hi st)
  | [] => rfl
  | s :: st => by
    unfold mid
    rw [List.filter_cons]
    have ih := sum_mid h1 h2 st
    unfold mid at ih
    by_cases c1 : lo < s.1
    · by_cases c2 : s.1 ≤ hi
      · rw [if_pos (by simp [c1, c2])]
        show (if s.1 ≤ m then s.2 else 0) + sumJ m st = (if s.1 ≤ lo then s.2 else 0) + sumJ lo st + ((if s.1 ≤ m then s.2 else 0) + sumJ m _)
        rw [if_neg (show ¬ s.1 ≤ lo by omega), ih]; omega
      · rw [if_neg (by simp [c2])]
        show (if s.1 ≤ m then s.2 else 0) + sumJ m st = (if s.1 ≤ lo then s.2 else 0) + sumJ lo st + sumJ m _
        rw [if_neg (show ¬ s.1 ≤ lo by omega), if_neg (show ¬ s.1 ≤ m by omega), ih]; omega
    · rw [if_neg (by simp [c1])]
      show (if s.1 ≤ m then s.2 else 0) + sumJ m st = (if s.1 ≤ lo then s.2 else 0) + sumJ lo st + sumJ m _
      rw [if_pos (show s.1 ≤ lo by omega), if_pos (show s.1 ≤ m by omega), ih]; omega
theorem mid_mem {lo hi : Int} {st : List Step} {s : Step} : s ∈ mid lo hi st ↔ s ∈ st ∧ lo < s.1 ∧ s.1 ≤ hi := by
  unfold mid
  rw [List.mem_filter]
  simp
/-- a zone of the kind with readings gives a plan; pts may have open offsets -/
theorem zone_plan {k : Kd} (ko : KOk k) {pts : List Pt} {n : Nat} (hA : Pm.Asc pts n) {f : Int} {st : List Step} (of : OfK k st) (hl : (st.length : Int) ≤ k.mo) (hr : ∀ i, i ≤ n → ∀ o, (pt pts i).2 = some o → f + sumJ (pt pts i).1 st = o) :
    ∃ p ∈ allP (isort k.js) k.ap k.mo pts n, p.hp = (mid (pt pts 0).1 (pt pts n).1 st).map (·.2) ∧ p.ea.length = (mid (pt pts 0).1 (pt pts n).1 st).length ∧
      (∀ (i : Nat) m t, p.ea[i]? = some m → (mid (pt pts 0).1 (pt pts n).1 st)[i]? = some t → m ≤ t.1 ∧ ∃ r, r < n ∧ p.sl[i]? = some (r : Int) ∧ (pt pts r).1 < m ∧ t.1 ≤ (pt pts (r + 1)).1) ∧ p.sl.length = (mid (pt pts 0).1 (pt pts n).1 st).length ∧
      (p.base = some (f + sumJ (pt pts 0).1 st) ∨ (p.base = none ∧ ∀ i, i ≤ n → (pt pts i).2 = none)) := by
  have mono : ∀ i, i ≤ n → (pt pts 0).1 ≤ (pt pts i).1 ∧ (pt pts i).1 ≤ (pt pts n).1 := fun i hi => by
    constructor
    · by_cases z : i = 0
      · rw [z]; exact Int.le_refl _
      · exact Int.le_of_lt (hA 0 i (by omega) hi)
    · by_cases z : i = n
      · rw [z]; exact Int.le_refl _
      · exact Int.le_of_lt (hA i n (by omega) (Nat.le_refl _))
  refine Pm.all_has (Int.le_of_lt (floor_pos ko)) (f + sumJ (pt pts 0).1 st) n hA (mid (pt pts 0).1 (pt pts n).1 st) ⟨fun s hs => (mem_isort _ _).mpr (of.js s (mid_mem.mp hs).1), (ofK_pw ko of).sublist (List.filter_sublist)⟩ ?_ (fun t ht => (mid_mem.mp ht).2) fun i hi o ho => ?_
  · have : (mid (pt pts 0).1 (pt pts n).1 st).length ≤ st.length := List.length_filter_le _ _
    omega
  · rw [sum_eq]
    have h1 := hr i hi o ho
    have h2 := sum_mid (mono i hi).1 (mono i hi).2 st
    omega
/-- the law finds a placing just where there is a plan -/
theorem fit_empty {k : Kd} {es : List Step} (ko : KOk k) (ha : Ascd es) (h1 : 1 ≤ es.length) : (fitL k es []).isEmpty = (allP (isort k.js) k.ap k.mo (ptsOf es) (es.length - 1)).isEmpty := by
  cases e1 : allP (isort k.js) k.ap k.mo (ptsOf es) (es.length - 1) with
  | cons p ps =>
    obtain ⟨f, _, hm⟩ := plan_fitL ko ha h1 (show p ∈ allP (isort k.js) k.ap k.mo (ptsOf es) (es.length - 1) by rw [e1]; exact List.mem_cons_self ..)
    cases e2 : fitL k es [] with
    | nil => rw [e2] at hm; cases hm
    | cons _ _ => rfl
  | nil =>
    cases e2 : fitL k es [] with
    | nil => rfl
    | cons x xs =>
      obtain ⟨f, st⟩ := x
      have fz := fitL_sound ko (show (f, st) ∈ fitL k es [] by rw [e2]; exact List.mem_cons_self ..)
      obtain ⟨p, hp, _⟩ := zone_plan ko (asc_pts ha) fz.of fz.len (fun i hi o ho => by
        have hei : es[i]? = some (es[i]'(by omega)) := List.getElem?_eq_getElem (by omega)
        rw [pts_at hei] at ho ⊢
        cases ho
        exact fz.at_ _ (List.mem_of_getElem? hei))
      rw [e1] at hp
      cases hp
def badL (k : Kd) (es : List Step) (a d : Nat) : Bool := (fitL k (sub es a d) []).isEmpty
theorem first_congr {p q : Nat → Bool} : ∀ {n : Nat}, (∀ i, i < n → p i = q i) → first p n = first q n
  | 0, _ => rfl
  | n + 1, h => by
    unfold first
    rw [first_congr fun i hi => h i (by omega), h n (by omega)]
theorem clash_eq {k : Kd} {es : List Step} (ko : KOk k) (ha : Ascd es) : clashF (badP k es) es.length = clashF (badL k es) es.length := by
  have hb : ∀ a d, a + d < es.length → badP k es a d = badL k es a d := fun a d h => by
    unfold badP badL
    rw [fit_empty ko (sub_asc ha a d) (by rw [sub_len h]; omega), sub_len h]
    rfl
  have hi : ∀ d, d < es.length → inn (badP k es) es.length d = inn (badL k es) es.length d := fun d hd => first_congr fun a ha => hb a d (by omega)
  unfold clashF
  have ef : first (fun d => (inn (badP k es) es.length d).isSome) es.length = first (fun d => (inn (badL k es) es.length d).isSome) es.length := first_congr fun d hd => by rw [hi d hd]
  rw [ef]
  cases e : first (fun d => (inn (badL k es) es.length d).isSome) es.length with
  | none => rfl
  | some d =>
    have hd : d < es.length := by
      have : ∀ (p : Nat → Bool) (n d : Nat), first p n = some d → d < n := by
        intro p n
        induction n with
        | zero => intro d h; cases h
        | succ n ih =>
          intro d h
          unfold first at h
          cases hf : first p n with
          | some x => rw [hf] at h; cases h; have := ih _ hf; omega
          | none =>
            rw [hf] at h
            dsimp only at h
            split at h
            · cases h; omega
            · cases h
      exact this _ _ _ e
    show (inn (badP k es) es.length d).map _ = (inn (badL k es) es.length d).map _
    rw [hi d hd]
end Zn

set_option Elab.async false
set_option linter.all false
set_option maxRecDepth 100000
set_option maxHeartbeats 8000000
namespace Zn
open PySem PySem.Spec PyProof.Rows L2 Dl
/-! the law's own readings and placings -/
abbrev sLRead : Stmt := top 58
abbrev sLRows : Stmt := top 60
abbrev sLAnch : Stmt := top 61
abbrev sLPlaced : Stmt := top 62
abbrev sLFit : Stmt := top 63
def upJ (m : Int) (s : Step) : Option Int := if s.1 ≤ m then some s.2 else none
def upD (m : Int) : PyData → Option PyData
  | .tuple [.int x, .int y] => if x ≤ m then some (.int y) else none
  | _ => none
theorem upD_all (m : Int) : ∀ st : List Step, (st.map stepD).filterMap (upD m) = (st.filterMap (upJ m)).map PyData.int
  | [] => rfl
  | s :: st => by
    rw [List.map_cons, List.filterMap_cons, List.filterMap_cons]
    have e : upD m (stepD s) = (upJ m s).map PyData.int := by
      show (if s.1 ≤ m then some (PyData.int s.2) else none) = (if s.1 ≤ m then some s.2 else none).map PyData.int
      split <;> rfl
    rw [e]
    cases upJ m s with
    | none => exact upD_all m st
    | some y => rw [List.map_cons, ← upD_all m st]; rfl
theorem sum_up (m : Int) : ∀ st : List Step, (st.filterMap (upJ m)).sum = sumJ m st
  | [] => rfl
  | s :: st => by
    rw [List.filterMap_cons]
    unfold sumJ
    by_cases z : s.1 ≤ m
    · have e : upJ m s = some s.2 := if_pos z
      rw [e, if_pos z]
      show (s.2 :: st.filterMap (upJ m)).sum = _
      rw [List.sum_cons, sum_up m st]
    · have e : upJ m s = none := if_neg z
      rw [e, if_neg z]
      show (st.filterMap (upJ m)).sum = _
      rw [sum_up m st]
      omega
def rowIL (r : List Int) : PyData := .list (r.map PyData.int)
def planD' (x : Int × List Step) : PyData := planD x.1 x.2
def RLRead (ds : List PyData) (d : PyData) : Prop := ∃ (f : Int) (st : List Step) (m : Int), ds = [planD f st, .int m] ∧ st.length ≤ 1000 ∧ d = .int (m + f + sumJ m st)
def RLRows (ds es : List PyData) : Prop := ∃ (k : Kd) (n : Nat), ds = [kindD k, .int (n : Int)] ∧ (1 + k.js.length) ^ n ≤ 100000 ∧ n ≤ 10 ∧ es = (rowsL k.js n).map rowIL
def RLAnch (ds es : List PyData) : Prop := ∃ (k : Kd) (ms : List Int), ds = [kindD k, .list (ms.map PyData.int)] ∧ 0 ≤ k.mo ∧ k.mo ≤ 3 ∧ ms.length * (2 * (k.mo.toNat + 1)) < 64 ∧ es = (srt (anchL k.ap (k.mo.toNat + 1) ms)).map PyData.int
def RLPlaced (ds es : List PyData) : Prop := ∃ (k : Kd) (n : Nat) (an : List Int), ds = [kindD k, .int (n : Int), .list (an.map PyData.int)] ∧ n ≤ 10 ∧ (1 + an.length) ^ n ≤ 100000 ∧ es = (placed k.ap an n).map rowIL
theorem fm_rowStep (js : List Int) (n : Nat) (r : List Int) : (js.map PyData.int).filterMap (fun d => match d with | .int j => if r.length = n then some (rowIL (r ++ [j])) else none | _ => none) = (rowStep js n r).map rowIL := by
  unfold rowStep
  split
  · rename_i h
    rw [List.map_map]
    exact fm_map PyData.int _ (fun j => rowIL (r ++ [j])) (fun j => by simp [h]) js
  · rename_i h
    induction js with
    | nil => rfl
    | cons j js ih => rw [List.map_cons, List.filterMap_cons]; simp [h] at ih ⊢
theorem fm_plStep (ap : Int) (an r : List Int) : (an.map PyData.int).filterMap (fun d => match d with | .int m => if okLast ap r m = true then some (rowIL (r ++ [m])) else none | _ => none) = (plStep ap an r).map rowIL := by
  unfold plStep
  induction an with
  | nil => rfl
  | cons m an ih =>
    rw [List.map_cons, List.filterMap_cons, List.filter_cons]
    by_cases h : okLast ap r m = true
    · rw [if_pos h, List.map_cons, List.map_cons, ← ih]; simp [h]
    · rw [if_neg h, ← ih]; simp [h]
theorem dec_len (r : List Int) (i : Nat) : decide ((((r.map PyData.int).length : Nat) : Int) = (i : Int)) = decide (r.length = i) := by
  rw [List.length_map]
  by_cases c : r.length = i
  · rw [decide_eq_true c, decide_eq_true (by omega)]
  · rw [decide_eq_false c, decide_eq_false (by omega)]
section
variable {P : Program} {w : World} {K : PySem.W.Frag} {mg : Str → Option Value} {base : Heap} {C CK CP CZ : Addr}
theorem scLRead : FnScope ["_law_plan", "_law_moment", "_law_change", "_law_jump"] ["_law_plan", "_law_moment"] (defScope sLRead) := ⟨rfl, rfl, rfl, by decide +kernel, rfl, by decide +kernel, by decide +kernel⟩
theorem ok_lread {f : Addr} {fd : FuncData} (hs : mg "sum" = none) (F : Df K mg "_law_read" sLRead ["_law_plan", "_law_moment"] f fd) : FnOk P w K mg base CX0 1 f fd ["_law_plan", "_law_moment"] (spR K RLRead) := by
  refine F.F.ok scLRead (fun vs H Q E h => ?_) (fun cdv A outer s H vs Q E hr h => ?_)
  · obtain ⟨M, ds, d, L, hd, ⟨f, st, m, rfl, _⟩, q⟩ := h
    exact dpa_len hd
  · obtain ⟨M, ds, d, L, hd, ⟨f, st, m, rfl, hlen, rfl⟩, q⟩ := h
    cases hd with
    | cons h1 h2 =>
      cases h2 with
      | cons h2 h3 =>
        cases h3
        have e2 := dp_int h2
        subst e2
        refine rb_ret (M := M) (xd_add (xd_add (xv_name 1 rfl).int (xd_ixT (fun _ _ => rfl) (xd_name 0 rfl h1) xd_int plan0)) ((xd_sum (ns := st.filterMap (upJ m)) hs (((xl_comp (own := [("_law_change", 2), ("_law_jump", 3)]) (upD m) L scLRead.nd (xd_ixT (fun _ _ => rfl) (xd_name 0 rfl h1) xd_int plan1)
          (blkOk_by (own := [("_law_change", 2), ("_law_jump", 3)]) (N := ["_law_plan", "_law_moment", "_law_change", "_law_jump"]) (sc := defScope sLRead) (by decide +kernel)) (by rw [List.length_map]; omega) (fun p d v H1 hd hp s1 Lp hv => ?_)).to (upD_all m st)).dd L)).to (by rw [sum_up]))) q
        obtain ⟨sx, _, rfl⟩ := mem_step hd
        obtain ⟨t, rfl, ht⟩ := step_at hv
        intro s0 H0 C0 cl fp
        refine rg_tup (same_seqT hid_le ht) (rgs_cons (rg_name 2 (rgs_cons (rg_name 3 (rgs_nil ?_) scLRead.nd)) scLRead.nd))
        refine ⟨rfl, bt_one (k := decide (sx.1 ≤ m)) (fun s0 H0 C0 cl fp => xt_cmpI (M := p :: M) op_le (xv_name 2 rfl).int (xv_name 1 rfl).int) fun H2 s2 => ⟨s2, ?_⟩⟩
        by_cases c : sx.1 ≤ m
        · exact .inl ⟨decide_eq_true c, .int sx.2, if_pos c, fun s0 H0 C0 cl fp => XV.go (xv_name 3 rfl) fun H3 s3 => ⟨s3, .int _⟩⟩
        · exact .inr ⟨decide_eq_false c, if_neg c⟩
abbrev lrN : List Str := ["_law_kind_here", "_law_many", "_law_found", "_law_lap", "_law_more", "_law_row", "_law_jump"]
theorem scLRows : FnScope lrN ["_law_kind_here", "_law_many"] (defScope sLRows) := ⟨rfl, rfl, rfl, by decide +kernel, rfl, by decide +kernel, by decide +kernel⟩
theorem ok_lrows {f : Addr} {fd : FuncData} (T : Nm mg) (F : Df K mg "_law_rows" sLRows ["_law_kind_here", "_law_many"] f fd) : FnOk P w K mg base CX0 1 f fd ["_law_kind_here", "_law_many"] (spL K RLRows) := by
  refine F.F.ok scLRows (fun vs H Q E h => ?_) (fun cdv A outer s H vs Q E hr h => ?_)
  · obtain ⟨M, ds, es, L, hd, ⟨k, n, rfl, _⟩, q⟩ := h
    exact dpa_len hd
  · obtain ⟨M, ds, es, L, hd, ⟨k, n, rfl, hbig, hn, rfl⟩, q⟩ := h
    cases hd with
    | cons h1 hd => cases hd with
      | cons h2 hd =>
        cases hd
        rename_i v0 v1
        have e1 := dp_int h2
        subst e1
        have bnd : ∀ i, i ≤ n → (rowsL k.js i).length ≤ 100000 := fun i hi => Nat.le_trans (rowsL_len k.js i) (Nat.le_trans (Nat.pow_le_pow_right (by omega) hi) hbig)
        refine rb_setL 2 (M := M) (ds := [PyData.list []]) (xl_lst L (xa_cons (xd_lst L xa_nil) xa_nil)) (fun y xs H1 s1 hy h1y hx => ?_) scLRows.nd
        refine rb_range T.rng (XV.go (xv_name 1 rfl) fun H2 s2 => ?_)
        refine ⟨n, rfl, by omega, fun i σ' H' => Same H H' ∧ ∃ p xs a3 a4 a5, σ' = [some v0, some (.int (n : Int)), some (.ref p), a3, a4, a5, none] ∧ H p = none ∧ H' p = some (.lst xs) ∧ DqAll K (hid M H') xs ((rowsL k.js i).map rowIL), ⟨s1.trans s2, y, xs, none, none, none, rfl, hy, s2 _ _ h1y, hx.up (hid_mono s2)⟩, fun i σ' H' hi w => ?_, fun σ' H' w => ?_⟩
        · obtain ⟨sH, p, xs, a3, a4, a5, rfl, hp0, hp, hda⟩ := w
          have L' := L.mono sH
          have h1' := h1.up (hid_mono (M := M) sH)
          have kf : Dq K (hid M H') (.ref p) (.list ((rowsL k.js i).map rowIL)) := .lst (by rw [hid_of fun z => L p z hp0]; exact hp) hda
          refine rg_name 3 ?_ scLRows.nd
          refine rb_setL 4 (M := M) (xl_lst L' xa_nil) (fun g ys H3 s3 hg h3 hy3 => ?_) scLRows.nd
          cases hy3
          have Lg : Live (g :: M) H3 := live_new L' s3 (by rw [h3]; simp)
          have g3 : Same (hid M H') (hid (g :: M) H3) := hid_step hg s3
          have kg := kf.up g3
          have hg0 : H g = none := sH.free hg
          have npg : p ≠ g := fun z => by rw [z, hg] at hp; cases hp
          refine rb_for (M := g :: M) (xd_name 2 rfl kg) fun H4 s4 => ⟨fun j σ' H5 => Same (hid (g :: M) H4) (hid (g :: M) H5) ∧ Live (g :: M) H5 ∧ Same H H5 ∧ ∃ zs a5, σ' = [some v0, some (.int (n : Int)), some (.ref p), some (.int (i : Int)), some (.ref g), a5, none] ∧ H5 g = some (.lst zs) ∧ DqAll K (hid (g :: M) H5) zs ((((rowsL k.js i).take j).flatMap (rowStep k.js i)).map rowIL),
            ⟨Same.refl _, Lg.mono s4, (sH.trans s3).trans s4, [], a5, rfl, s4 _ _ h3, .nil⟩, fun j σ' H5 w => w.1, fun j it hj σ' H5 v w hv => ?_, fun σ' H5 w => ?_⟩
          · obtain ⟨z1, L5, z2, zs, a5, rfl, hgz, hzs⟩ := w
            obtain ⟨r, hr1, rfl⟩ := map_get hj
            have h15 := (h1'.up g3).up ((hid_mono (M := g :: M) s4).trans z1)
            have hlz : zs.length + (rowStep k.js i r).length ≤ 100000 := by
              rw [dpa_len hzs, List.length_map]
              have e1 := Pm.flat_len (rowStep k.js i) k.js.length ((rowsL k.js i).take j) fun r _ => rowStep_len k.js i r
              have e2 := rowStep_len k.js i r
              have e3 : ((rowsL k.js i).take j).length + 1 ≤ (rowsL k.js i).length := by rw [List.length_take]; have := (List.getElem?_eq_some_iff.mp hr1).1; omega
              have e4 := Nat.mul_le_mul_right k.js.length e3
              have e5 := Nat.mul_le_mul_right k.js.length (rowsL_len k.js i)
              have e6 : (1 + k.js.length) ^ i * k.js.length ≤ (1 + k.js.length) ^ (i + 1) := by rw [Nat.pow_succ]; exact Nat.mul_le_mul_left _ (by omega)
              have e7 : (1 + k.js.length) ^ (i + 1) ≤ 100000 := Nat.le_trans (Nat.pow_le_pow_right (by omega) hi) hbig
              rw [Nat.succ_mul] at e4
              omega
            have hjl : k.js.length ≤ 100000 := by
              have e6 : (1 + k.js.length) ^ 1 ≤ (1 + k.js.length) ^ n := Nat.pow_le_pow_right (by omega) (by omega)
              rw [Nat.pow_one] at e6
              omega
            have hrl : r.length ≤ 10 := by have := (rowsL_mem.mp (List.mem_of_getElem? hr1)).1; omega
            refine rg_name 5 ?_ scLRows.nd
            refine rb_extend (M := g :: M) (xs := zs) (List.mem_cons_self ..) (xv_name 4 rfl) hgz (XL.dd ((xl_comp (own := [("_law_jump", 6)]) (fun d => match d with | .int j => if r.length = i then some (rowIL (r ++ [j])) else none | _ => none) L5 scLRows.nd (xd_ixT (fun _ _ => rfl) (xd_name 0 rfl h15) xd_int k0)
              (blkOk_by (own := [("_law_jump", 6)]) (N := lrN) (sc := defScope sLRows) (by decide +kernel)) (by rw [List.length_map]; exact hjl) (fun y d v7 H7 hd hy7 s7 L7 hv7 => ?cmp)).to (fm_rowStep k.js i r)) L5) (by rw [List.length_map]; exact hlz) (fun vs H6 s6 hvs => rb_nil ?_)
            case cmp =>
              obtain ⟨jj, _, rfl⟩ := List.mem_map.mp hd
              have ej := dp_int hv7
              subst ej
              have hv' : Dq K (hid (y :: g :: M) H7) v (rowIL r) := hv.up (hid_step (M := g :: M) hy7 s7)
              intro s0 H0 C0 cl fp
              refine rg_name 6 ?_ scLRows.nd
              refine ⟨rfl, bt_one (k := decide (r.length = i)) (fun s0 H0 C0 cl fp => (xt_eqI (M := y :: g :: M) (xd_len T.len (xd_name 5 rfl hv')) (xv_name 3 rfl).int).to (dec_len r i)) fun H8 s8 => ⟨s8, ?_⟩⟩
              by_cases c : r.length = i
              · refine .inl ⟨decide_eq_true c, rowIL (r ++ [jj]), if_pos c, fun s0 H0 C0 cl fp => ?_⟩
                have L8 := L7.mono s8
                exact XD.go (((xl_cat (ds := r.map PyData.int) (ds2 := [PyData.int jj]) L8 (xd_name 5 rfl (hv'.up (hid_mono s8))) (xd_lst L8 (xa_cons (xv_name 6 rfl).int xa_nil)) (by simp; omega)).dd L8).to (by unfold rowIL; rw [List.map_append]; rfl)) fun u H9 s9 hu => ⟨s9, hu⟩
              · exact .inr ⟨decide_eq_false c, if_neg c⟩
            have eh : hid (g :: M) (upd H6 g (.lst (zs ++ vs))) = hid (g :: M) H6 := hid_upd_mem (List.mem_cons_self ..)
            refine ⟨by rw [eh]; exact z1.trans (hid_mono s6), (L5.mono s6).upd, same_upd (z2.trans s6) hg0, zs ++ vs, some v, rfl, upd_same, ?_⟩
            rw [eh, take_snoc hr1, List.flatMap_append, List.map_append]
            have hvs : DqAll K (hid (g :: M) H6) vs ((rowStep k.js i r).map rowIL) := hvs
            refine dpa_app (hzs.up (hid_mono s6)) ?_
            simpa using hvs
          · obtain ⟨z1, L5, z2, zs, a5, rfl, hgz, hzs⟩ := w
            rw [List.length_map, List.take_length] at hzs
            have LM := Live.tail L5
            have kp : Dq K (hid M H5) (.ref p) (.list ((rowsL k.js i).map rowIL)) := (kg.up ((hid_mono (M := g :: M) s4).trans z1)).up hid_weak
            have kq : Dq K (hid M H5) (.ref g) (.list (((rowsL k.js i).flatMap (rowStep k.js i)).map rowIL)) := .lst (by rw [hid_of (L'.fresh hg)]; exact hgz) (hzs.up hid_weak)
            refine rb_setL 2 (M := M) (xl_cat LM (xd_name 2 rfl kp) (xd_name 4 rfl kq) (by
              have := bnd (i + 1) hi
              have e : (rowsL k.js (i + 1)).length = (rowsL k.js i).length + ((rowsL k.js i).flatMap (rowStep k.js i)).length := List.length_append
              rw [List.length_map, List.length_map]; omega)) (fun p2 xs2 H6 s6 hp2 h6 hx6 => rb_nil ?_) scLRows.nd
            refine ⟨z2.trans s6, p2, xs2, _, _, _, rfl, z2.free hp2, h6, ?_⟩
            show DqAll K (hid M H6) xs2 ((rowsL k.js i ++ (rowsL k.js i).flatMap (rowStep k.js i)).map rowIL)
            rw [List.map_append]
            exact hx6
        · obtain ⟨sH, p, xs, a3, a4, a5, rfl, hp0, hp, hda⟩ := w
          exact rb_retR (XV.go (xv_name 2 rfl) fun H5 s5 => q p xs H5 (sH.trans s5) hp0 (s5 _ _ hp) (hda.up (hid_mono s5)))
end
end Zn

set_option Elab.async false
set_option linter.all false
set_option maxRecDepth 100000
set_option maxHeartbeats 8000000
namespace Zn
open PySem PySem.Spec PyProof.Rows L2 Dl
theorem okLast_nil (ap m : Int) : okLast ap [] m = true := rfl
theorem okLast_ne {ap m l : Int} {r : List Int} (h : r.getLast? = some l) : okLast ap r m = decide (ap ≤ m - l) := by unfold okLast; rw [h]
theorem eqv_ints_nil (ns : List Int) : PyData.eqv (.list (ns.map PyData.int)) (.list []) = decide (ns = []) := by
  cases ns with
  | nil => simp [PyData.eqv, PyData.eqvAll]
  | cons n ns => simp [PyData.eqv, PyData.eqvAll]
theorem anchM_snoc (ap : Int) (n : Nat) (m : Int) : anchM ap (n + 1) m = anchM ap n m ++ [m + 1 + (n : Int) * ap, m - (n : Int) * ap] := by
  unfold anchM
  rw [List.range_succ, List.flatMap_append]
  simp
section
variable {P : Program} {w : World} {K : PySem.W.Frag} {mg : Str → Option Value} {base : Heap} {C CK CP CZ : Addr}
abbrev laN : List Str := ["_law_kind_here", "_law_moments", "_law_found", "_law_moment", "_law_lap"]
theorem scLAnch : FnScope laN ["_law_kind_here", "_law_moments"] (defScope sLAnch) := ⟨rfl, rfl, rfl, by decide +kernel, rfl, by decide +kernel, by decide +kernel⟩
theorem ok_lanch {f : Addr} {fd : FuncData} (T : Nm mg) (hS : mg "sorted" = none) (hT : mg "set" = none) (F : Df K mg "_law_anchors" sLAnch ["_law_kind_here", "_law_moments"] f fd) : FnOk P w K mg base CX0 1 f fd ["_law_kind_here", "_law_moments"] (spL K RLAnch) := by
  refine F.F.ok scLAnch (fun vs H Q E h => ?_) (fun cdv A outer s H vs Q E hr h => ?_)
  · obtain ⟨M, ds, es, L, hd, ⟨k, ms, rfl, _⟩, q⟩ := h
    exact dpa_len hd
  · obtain ⟨M, ds, es, L, hd, ⟨k, ms, rfl, m0, m3, hbig, rfl⟩, q⟩ := h
    cases hd with
    | cons h1 hd => cases hd with
      | cons h2 hd =>
        cases hd
        rename_i v0 v1
        refine rb_setL 2 (M := M) (xl_lst L xa_nil) (fun g xs H1 s1 hg h1g hx => ?_) scLAnch.nd
        cases hx
        have Lg : Live (g :: M) H1 := live_new L s1 (by rw [h1g]; simp)
        have g1 : Same (hid M H) (hid (g :: M) H1) := hid_step hg s1
        have hk1 := h1.up g1
        have hl : ∀ i, i ≤ ms.length → (anchL k.ap (k.mo.toNat + 1) (ms.take i)).length ≤ 64 := fun i hi => by
          rw [anchL_len, List.length_take]
          have := Nat.mul_le_mul_right (2 * (k.mo.toNat + 1)) (Nat.min_le_right i ms.length)
          omega
        refine rb_for (M := g :: M) (xd_name 1 rfl (h2.up g1)) fun H2 s2 => ⟨fun i σ' H' => Same (hid (g :: M) H2) (hid (g :: M) H') ∧ Live (g :: M) H' ∧ Same H H' ∧ ∃ a3 a4, σ' = [some v0, some v1, some (.ref g), a3, a4] ∧ H' g = some (.lst ((anchL k.ap (k.mo.toNat + 1) (ms.take i)).map V.int)),
          ⟨Same.refl _, Lg.mono s2, s1.trans s2, none, none, rfl, s2 _ _ h1g⟩, fun i σ' H' w => w.1, fun i it hi σ' H' v w hv => ?_, fun σ' H' w => ?_⟩
        · obtain ⟨z1, L3, z2, a3, a4, rfl, hgz⟩ := w
          obtain ⟨m, hm, rfl⟩ := map_get hi
          have ev := dp_int hv
          subst ev
          have hil := (List.getElem?_eq_some_iff.mp hm).1
          have hk3 := hk1.up ((hid_mono (M := g :: M) s2).trans z1)
          refine rg_name 3 ?_ scLAnch.nd
          refine rb_range T.rng (XD.go (M := g :: M) (xd_add (xd_ixT (fun _ _ => rfl) (xd_name 0 rfl hk3) xd_int k2) xd_int) fun v5 H5 s5 hv5 => ?_)
          refine ⟨k.mo.toNat + 1, by rw [dp_int hv5]; congr 1; omega, by omega, fun l σ' H6 => Same (hid (g :: M) H') (hid (g :: M) H6) ∧ Live (g :: M) H6 ∧ Same H H6 ∧ ∃ a4, σ' = [some v0, some v1, some (.ref g), some (.int m), a4] ∧ H6 g = some (.lst ((anchL k.ap (k.mo.toNat + 1) (ms.take i) ++ anchM k.ap l m).map V.int)),
            ⟨hid_mono s5, L3.mono s5, z2.trans s5, a4, rfl, by rw [show anchM k.ap 0 m = [] from rfl, List.append_nil]; exact s5 _ _ hgz⟩, fun l σ' H6 hl6 w => ?_, fun σ' H6 w => ?_⟩
          · obtain ⟨y1, L6, y2, a4, rfl, hg6⟩ := w
            have hk6 := hk3.up y1
            refine rg_name 4 ?_ scLAnch.nd
            have b64 : (4 : Int) < 2 ^ 64 := by decide
            refine rb_extend (M := g :: M) (ds := [PyData.int (m + 1 + (l : Int) * k.ap), .int (m - (l : Int) * k.ap)]) (List.mem_cons_self ..) (xv_name 2 rfl) hg6 (xd_lst L6 (xa_cons (xd_add (xd_add (xv_name 3 rfl).int xd_int) (xd_mul (xv_name 4 rfl).int (xd_ixT (fun _ _ => rfl) (xd_name 0 rfl hk6) xd_int k1) (.inl ⟨by omega, by omega⟩))) (xa_cons (xd_sub (xv_name 3 rfl).int (xd_mul (xv_name 4 rfl).int (xd_ixT (fun _ _ => rfl) (xd_name 0 rfl hk6) xd_int k1) (.inl ⟨by omega, by omega⟩))) xa_nil))) (by
                rw [List.length_map, List.length_append, anchM_len]
                have := hl i (by omega)
                show _ + 2 ≤ 100000
                omega) (fun vs H7 s7 hvs => rb_nil ?_)
            have ev := ints_v (ns := [m + 1 + (l : Int) * k.ap, m - (l : Int) * k.ap]) hvs
            subst ev
            have eh : ∀ o, hid (g :: M) (upd H7 g o) = hid (g :: M) H7 := fun o => hid_upd_mem (List.mem_cons_self ..)
            refine ⟨by rw [eh]; exact y1.trans (hid_mono s7), (L6.mono s7).upd, same_upd (y2.trans s7) hg, _, rfl, ?_⟩
            have e9 : (anchL k.ap (k.mo.toNat + 1) (ms.take i) ++ anchM k.ap (l + 1) m).map V.int = (anchL k.ap (k.mo.toNat + 1) (ms.take i) ++ anchM k.ap l m).map V.int ++ [m + 1 + (l : Int) * k.ap, m - (l : Int) * k.ap].map V.int := by rw [anchM_snoc, ← List.append_assoc, ← List.map_append]
            rw [e9]
            exact upd_same
          · obtain ⟨y1, L6, y2, a4, rfl, hg6⟩ := w
            refine rb_nil ⟨z1.trans y1, L6, y2, _, _, rfl, ?_⟩
            have e : anchL k.ap (k.mo.toNat + 1) (ms.take (i + 1)) = anchL k.ap (k.mo.toNat + 1) (ms.take i) ++ anchM k.ap (k.mo.toNat + 1) m := by
              rw [take_snoc hm]
              unfold anchL
              rw [List.flatMap_append]
              simp
            rw [e]
            exact hg6
        · obtain ⟨z1, L3, z2, a3, a4, rfl, hgz⟩ := w
          rw [List.length_map, List.take_length] at hgz
          have LM := Live.tail L3
          have kg : Dq K (hid M H') (.ref g) (.list ((anchL k.ap (k.mo.toNat + 1) ms).map PyData.int)) := .lst (by rw [hid_of (L.fresh hg)]; exact hgz) (ints_dq _)
          have hll : (anchL k.ap (k.mo.toNat + 1) ms).length < 64 := by rw [anchL_len]; exact hbig
          exact rb_retR (XL.go (M := M) (xl_sortedOf (ks := anchL k.ap (k.mo.toNat + 1) ms) (ns := srt (anchL k.ap (k.mo.toNat + 1) ms)) (anchL k.ap (k.mo.toNat + 1) ms) hS hT LM (xd_name 2 rfl kg) (by omega) hll (fun _ h => h) (srt_asc _) (fun _ => srt_mem)) fun p xs H4 s4 hp h4 hx => q p xs H4 (z2.trans s4) (z2.free hp) h4 hx)
abbrev lpN : List Str := ["_law_kind_here", "_law_many", "_law_anchors_here", "_law_found", "_law_lap", "_law_more", "_law_row", "_law_moment"]
theorem scLPlaced : FnScope lpN ["_law_kind_here", "_law_many", "_law_anchors_here"] (defScope sLPlaced) := ⟨rfl, rfl, rfl, by decide +kernel, rfl, by decide +kernel, by decide +kernel⟩
theorem ok_lplaced {f : Addr} {fd : FuncData} (T : Nm mg) (F : Df K mg "_law_placed" sLPlaced ["_law_kind_here", "_law_many", "_law_anchors_here"] f fd) : FnOk P w K mg base CX0 1 f fd ["_law_kind_here", "_law_many", "_law_anchors_here"] (spL K RLPlaced) := by
  refine F.F.ok scLPlaced (fun vs H Q E h => ?_) (fun cdv A outer s H vs Q E hr h => ?_)
  · obtain ⟨M, ds, es, L, hd, ⟨k, n, an, rfl, _⟩, q⟩ := h
    exact dpa_len hd
  · obtain ⟨M, ds, es, L, hd, ⟨k, n, an, rfl, hn, hbig, rfl⟩, q⟩ := h
    cases hd with
    | cons h1 hd => cases hd with
      | cons h2 hd => cases hd with
        | cons h3 hd =>
          cases hd
          rename_i v0 v1 v2
          have e1 := dp_int h2
          subst e1
          have bnd : ∀ i, i ≤ n → (placed k.ap an i).length ≤ 100000 := fun i hi => Nat.le_trans (placed_len k.ap an i) (Nat.le_trans (Nat.pow_le_pow_left (Nat.le_add_left _ 1) i) (Nat.le_trans (Nat.pow_le_pow_right (by omega) hi) hbig))
          refine rb_setL 3 (M := M) (ds := [PyData.list []]) (xl_lst L (xa_cons (xd_lst L xa_nil) xa_nil)) (fun y xs H1 s1 hy h1y hx => ?_) scLPlaced.nd
          refine rb_range T.rng (XV.go (xv_name 1 rfl) fun H2 s2 => ?_)
          refine ⟨n, rfl, by omega, fun i σ' H' => Same H H' ∧ ∃ p xs a3 a4 a5, σ' = [some v0, some (.int (n : Int)), some v2, some (.ref p), a3, a4, a5, none] ∧ H p = none ∧ H' p = some (.lst xs) ∧ DqAll K (hid M H') xs ((placed k.ap an i).map rowIL), ⟨s1.trans s2, y, xs, none, none, none, rfl, hy, s2 _ _ h1y, hx.up (hid_mono s2)⟩, fun i σ' H' hi w => ?_, fun σ' H' w => ?_⟩
          · obtain ⟨sH, p, xs, a3, a4, a5, rfl, hp0, hp, hda⟩ := w
            have L' := L.mono sH
            have h1' := h1.up (hid_mono (M := M) sH)
            have h3' := h3.up (hid_mono (M := M) sH)
            have kf : Dq K (hid M H') (.ref p) (.list ((placed k.ap an i).map rowIL)) := .lst (by rw [hid_of fun z => L p z hp0]; exact hp) hda
            refine rg_name 4 ?_ scLPlaced.nd
            refine rb_setL 5 (M := M) (xl_lst L' xa_nil) (fun g ys H3 s3 hg h3 hy3 => ?_) scLPlaced.nd
            cases hy3
            have Lg : Live (g :: M) H3 := live_new L' s3 (by rw [h3]; simp)
            have g3 : Same (hid M H') (hid (g :: M) H3) := hid_step hg s3
            have kg := kf.up g3
            have hg0 : H g = none := sH.free hg
            refine rb_for (M := g :: M) (xd_name 3 rfl kg) fun H4 s4 => ⟨fun j σ' H5 => Same (hid (g :: M) H4) (hid (g :: M) H5) ∧ Live (g :: M) H5 ∧ Same H H5 ∧ ∃ zs a5, σ' = [some v0, some (.int (n : Int)), some v2, some (.ref p), some (.int (i : Int)), some (.ref g), a5, none] ∧ H5 g = some (.lst zs) ∧ DqAll K (hid (g :: M) H5) zs ((((placed k.ap an i).take j).flatMap (plStep k.ap an)).map rowIL),
              ⟨Same.refl _, Lg.mono s4, (sH.trans s3).trans s4, [], a5, rfl, s4 _ _ h3, .nil⟩, fun j σ' H5 w => w.1, fun j it hj σ' H5 v w hv => ?_, fun σ' H5 w => ?_⟩
            · obtain ⟨z1, L5, z2, zs, a5, rfl, hgz, hzs⟩ := w
              obtain ⟨r, hr1, rfl⟩ := map_get hj
              have h15 := (h1'.up g3).up ((hid_mono (M := g :: M) s4).trans z1)
              have h35 := (h3'.up g3).up ((hid_mono (M := g :: M) s4).trans z1)
              have pl1 : (plStep k.ap an r).length ≤ an.length := by unfold plStep; rw [List.length_map]; exact List.length_filter_le _ _
              have hlz : zs.length + (plStep k.ap an r).length ≤ 100000 := by
                rw [dpa_len hzs, List.length_map]
                have e1 := Pm.flat_len (plStep k.ap an) an.length ((placed k.ap an i).take j) fun r _ => by unfold plStep; rw [List.length_map]; exact List.length_filter_le _ _
                have e3 : ((placed k.ap an i).take j).length + 1 ≤ (placed k.ap an i).length := by rw [List.length_take]; have := (List.getElem?_eq_some_iff.mp hr1).1; omega
                have e4 := Nat.mul_le_mul_right an.length e3
                have e5 := Nat.mul_le_mul_right an.length (placed_len k.ap an i)
                have e6 : an.length ^ i * an.length = an.length ^ (i + 1) := (Nat.pow_succ ..).symm
                have e7 : an.length ^ (i + 1) ≤ 100000 := Nat.le_trans (Nat.pow_le_pow_left (Nat.le_add_left _ 1) _) (Nat.le_trans (Nat.pow_le_pow_right (by omega) hi) hbig)
                rw [Nat.succ_mul] at e4
                omega
              have hanl : an.length ≤ 100000 := by
                have e6 : (1 + an.length) ^ 1 ≤ (1 + an.length) ^ n := Nat.pow_le_pow_right (by omega) (by omega)
                rw [Nat.pow_one] at e6
                omega
              have hrl : r.length ≤ 10 := by have := (placed_mem.mp (List.mem_of_getElem? hr1)).1; omega
              refine rg_name 6 ?_ scLPlaced.nd
              refine rb_extend (M := g :: M) (xs := zs) (List.mem_cons_self ..) (xv_name 5 rfl) hgz (XL.dd ((xl_comp (own := [("_law_moment", 7)]) (fun d => match d with | .int m => if okLast k.ap r m = true then some (rowIL (r ++ [m])) else none | _ => none) L5 scLPlaced.nd (xd_name 2 rfl h35)
                (blkOk_by (own := [("_law_moment", 7)]) (N := lpN) (sc := defScope sLPlaced) (by decide +kernel)) (by rw [List.length_map]; exact hanl) (fun y d v7 H7 hd hy7 s7 L7 hv7 => ?cmp)).to (fm_plStep k.ap an r)) L5) (by rw [List.length_map]; exact hlz) (fun vs H6 s6 hvs => rb_nil ?_)
              case cmp =>
                obtain ⟨jj, _, rfl⟩ := List.mem_map.mp hd
                have ej := dp_int hv7
                subst ej
                have hv' : Dq K (hid (y :: g :: M) H7) v (.list (r.map PyData.int)) := hv.up (hid_step (M := g :: M) hy7 s7)
                have hk' : Dq K (hid (y :: g :: M) H7) v0 (kindD k) := h15.up (hid_step (M := g :: M) hy7 s7)
                intro s0 H0 C0 cl fp
                refine rg_name 7 ?_ scLPlaced.nd
                refine ⟨rfl, bt_one (k := okLast k.ap r jj) (fun s0 H0 C0 cl fp => ?_) fun H8 s8 => ⟨s8, ?_⟩⟩
                · by_cases c : r = []
                  · subst c
                    exact (xw_orT ((xt_eqD (M := y :: g :: M) hr.units (xd_name 6 rfl hv') (xd_lst L7 xa_nil) (shaped_ints _) shaped_nil).to (by rw [eqv_ints_nil, decide_eq_true rfl]))).t
                  · obtain ⟨l, hl⟩ : ∃ l, r.getLast? = some l := ⟨_, List.getLast?_eq_some_getLast c⟩
                    rw [okLast_ne hl]
                    exact (xw_orF ((xt_eqD (M := y :: g :: M) hr.units (xd_name 6 rfl hv') (xd_lst L7 xa_nil) (shaped_ints _) shaped_nil).to (by rw [eqv_ints_nil, decide_eq_false c])) (xw_or1 (xt_cmpI (M := y :: g :: M) op_ge (xd_sub (xv_name 7 rfl).int (xd_ixL (fun _ _ => rfl) (xd_name 6 rfl hv') (xd_neg xd_int) (last_int hl))) (xd_ixT (fun _ _ => rfl) (xd_name 0 rfl hk') xd_int k1)))).t
                by_cases c : okLast k.ap r jj = true
                · refine .inl ⟨c, rowIL (r ++ [jj]), if_pos c, fun s0 H0 C0 cl fp => ?_⟩
                  have L8 := L7.mono s8
                  exact XD.go (((xl_cat (ds := r.map PyData.int) (ds2 := [PyData.int jj]) L8 (xd_name 6 rfl (hv'.up (hid_mono s8))) (xd_lst L8 (xa_cons (xv_name 7 rfl).int xa_nil)) (by simp; omega)).dd L8).to (by unfold rowIL; rw [List.map_append]; rfl)) fun u H9 s9 hu => ⟨s9, hu⟩
                · exact .inr ⟨Bool.eq_false_iff.mpr c, if_neg c⟩
              have eh : hid (g :: M) (upd H6 g (.lst (zs ++ vs))) = hid (g :: M) H6 := hid_upd_mem (List.mem_cons_self ..)
              refine ⟨by rw [eh]; exact z1.trans (hid_mono s6), (L5.mono s6).upd, same_upd (z2.trans s6) hg0, zs ++ vs, some v, rfl, upd_same, ?_⟩
              rw [eh, take_snoc hr1, List.flatMap_append, List.map_append]
              have hvs : DqAll K (hid (g :: M) H6) vs ((plStep k.ap an r).map rowIL) := hvs
              refine dpa_app (hzs.up (hid_mono s6)) ?_
              simpa using hvs
            · obtain ⟨z1, L5, z2, zs, a5, rfl, hgz, hzs⟩ := w
              rw [List.length_map, List.take_length] at hzs
              refine rb_setV 3 (xv_name 5 rfl) (fun H6 s6 => rb_nil ?_) scLPlaced.nd
              exact ⟨z2.trans s6, g, zs, _, _, _, rfl, hg0, s6 _ _ hgz, (hzs.up (hid_mono s6)).up hid_weak⟩
          · obtain ⟨sH, p, xs, a3, a4, a5, rfl, hp0, hp, hda⟩ := w
            exact rb_retR (XV.go (xv_name 3 rfl) fun H5 s5 => q p xs H5 (sH.trans s5) hp0 (s5 _ _ hp) (hda.up (hid_mono s5)))
end
end Zn

set_option Elab.async false
set_option linter.all false
set_option maxRecDepth 100000
set_option maxHeartbeats 8000000
namespace Zn
open PySem PySem.Spec PyProof.Rows L2 Dl
def badE (f : Int) (st : List Step) (e : Step) : Bool := !decide (e.1 + f + sumJ e.1 st = e.2)
theorem fm_filter {g : PyData → Option PyData} {p : Step → Bool} (hg : ∀ e, g (stepD e) = if p e = true then some (stepD e) else none) : ∀ es : List Step, (es.map stepD).filterMap g = (es.filter p).map stepD
  | [] => rfl
  | e :: es => by
    by_cases h : p e = true
    · rw [List.map_cons, List.filterMap_cons_some (by rw [hg e, if_pos h]), List.filter_cons_of_pos h, List.map_cons, fm_filter hg es]
    · rw [List.map_cons, List.filterMap_cons_none (by rw [hg e, if_neg h]), List.filter_cons_of_neg h, fm_filter hg es]
theorem fm_bad (f : Int) (st : List Step) (es : List Step) : (es.map stepD).filterMap (fun d => match d with | .tuple [.int m, .int r] => if badE f st (m, r) = true then some (stepD (m, r)) else none | _ => none) = (es.filter (badE f st)).map stepD := fm_filter (fun _ => rfl) es
theorem reads_dec (es : List Step) (f : Int) (st : List Step) : decide (es.filter (badE f st) = []) = readsB es f st := by
  unfold readsB badE
  cases (es.filter fun e => !decide (e.1 + f + sumJ e.1 st = e.2)) with
  | nil => rfl
  | cons _ _ => rfl
def rowTry (k : Kd) (es : List Step) (more : List Int) (r : List Int) : List (Int × List Step) := (placed k.ap (srt (anchL k.ap (k.mo.toNat + 1) (es.map (·.1) ++ more))) r.length).flatMap (tryL es r)
theorem fitL_eq (k : Kd) (es : List Step) (more : List Int) : fitL k es more = (rowsL k.js k.mo.toNat).flatMap (rowTry k es more) := rfl
structure FitOk (k : Kd) (es : List Step) (more : List Int) : Prop where
  ko : KOk k
  m2 : k.mo ≤ 2
  e1 : 1 ≤ es.length
  sz : (es.length + more.length) * (2 * (k.mo.toNat + 1)) < 64
def RLFit (ds es' : List PyData) : Prop := ∃ (k : Kd) (es : List Step) (more : List Int), ds = [kindD k, .list (es.map stepD), .list (more.map PyData.int)] ∧ FitOk k es more ∧ es' = (fitL k es more).map planD'
theorem moms_es (es : List Step) : (es.map stepD).filterMap (fun d => match d with | .tuple [x, _] => some x | _ => none) = (es.map (·.1)).map PyData.int := moms_fm es
theorem tryL_len (es : List Step) (r ms : List Int) : (tryL es r ms).length ≤ 1 := by
  unfold tryL
  split
  · exact Nat.le_refl _
  · exact Nat.zero_le _
section
variable {P : Program} {w : World} {K : PySem.W.Frag} {mg : Str → Option Value} {base : Heap} {C CK CP CZ : Addr}
abbrev lfN : List Str := ["_law_kind_here", "_law_log_here", "_law_more", "_law_anchors_here", "_law_found", "_law_row", "_law_places", "_law_steps_here", "_law_first", "_law_entry", "_law_moment", "_law_reading", "_law_jump"]
theorem scLFit : FnScope lfN ["_law_kind_here", "_law_log_here", "_law_more"] (defScope sLFit) := ⟨rfl, rfl, rfl, by decide +kernel, rfl, by decide +kernel, by decide +kernel⟩
theorem ok_lfit {f fA fR fP fE : Addr} {fd fdA fdR fdP fdE : FuncData} (T : Nm mg) (hz : mg "zip" = none) (hs : mg "sum" = none) (GA : FnOk P w K mg base CX0 1 fA fdA ["_law_kind_here", "_law_moments"] (spL K RLAnch)) (FA : Df K mg "_law_anchors" sLAnch ["_law_kind_here", "_law_moments"] fA fdA)
    (GR : FnOk P w K mg base CX0 1 fR fdR ["_law_kind_here", "_law_many"] (spL K RLRows)) (FR : Df K mg "_law_rows" sLRows ["_law_kind_here", "_law_many"] fR fdR) (GP : FnOk P w K mg base CX0 1 fP fdP ["_law_kind_here", "_law_many", "_law_anchors_here"] (spL K RLPlaced)) (FP : Df K mg "_law_placed" sLPlaced ["_law_kind_here", "_law_many", "_law_anchors_here"] fP fdP)
    (GE : FnOk P w K mg base CX0 1 fE fdE ["_law_plan", "_law_moment"] (spR K RLRead)) (FE : Df K mg "_law_read" sLRead ["_law_plan", "_law_moment"] fE fdE)
    (F : Df K mg "_law_fitting" sLFit ["_law_kind_here", "_law_log_here", "_law_more"] f fd) : FnOk P w K mg base CX0 2 f fd ["_law_kind_here", "_law_log_here", "_law_more"] (spL K RLFit) := by
  refine F.F.ok scLFit (fun vs H Q E h => ?_) (fun cdv A outer s H vs Q E hr h => ?_)
  · obtain ⟨M, ds, es', L, hd, ⟨k, es, more, rfl, _⟩, q⟩ := h
    exact dpa_len hd
  · obtain ⟨M, ds, es', L, hd, ⟨k, es, more, rfl, ok, rfl⟩, q⟩ := h
    cases hd with
    | cons h1 hd => cases hd with
      | cons h2 hd => cases hd with
        | cons h3 hd =>
          cases hd
          rename_i v0 v1 v2
          have ko := ok.ko
          have m0 := ko.m0
          have m2 := ok.m2
          have e1 := ok.e1
          have sz := ok.sz
          have hjl := ko.js.2.2.2
          have hll : es.length + more.length ≤ 31 := by
            rcases Nat.lt_or_ge (es.length + more.length) 32 with h | h
            · omega
            · have := Nat.mul_le_mul h (show 2 ≤ 2 * (k.mo.toNat + 1) by omega)
              omega
          obtain ⟨en, hen⟩ : ∃ en, es[0]? = some en := ⟨es[0]'(by omega), List.getElem?_eq_getElem (by omega)⟩
          have hfo : ∀ st, firstO es st = en.2 - en.1 - sumJ en.1 st := fun st => by
            cases es with
            | nil => simp at hen
            | cons e es => simp at hen; subst hen; rfl
          generalize han : srt (anchL k.ap (k.mo.toNat + 1) (es.map (·.1) ++ more)) = an
          have hanl : an.length ≤ 63 := by
            rw [← han]
            have := srt_len (anchL k.ap (k.mo.toNat + 1) (es.map (·.1) ++ more))
            rw [anchL_len, List.length_append, List.length_map] at this
            omega
          refine rb_parR 3 4 (ra_cons (XL.go (M := M) (xl_call (ds2 := an.map PyData.int) L GA (hr.mono (by decide)) FA.g FA.F.kp FA.b (xa_cons (xd_name 0 rfl h1) (xa_cons (XL.dd ((xl_cat (ds := (es.map (·.1)).map PyData.int) (ds2 := more.map PyData.int) L (XL.dd ((xl_comp (own := [("_law_moment", 10), ("_law_reading", 11)]) (fun d => match d with | .tuple [x, _] => some x | _ => none) L scLFit.nd (xd_name 1 rfl h2)
            (blkOk_by (own := [("_law_moment", 10), ("_law_reading", 11)]) (N := lfN) (sc := defScope sLFit) (by decide +kernel)) (by rw [List.length_map]; omega) (fun p d v H1 hd hp s1 Lp hv => ?cm1)).to (moms_es es)) L) (xd_name 2 rfl h3) (by rw [List.length_map, List.length_map, List.length_map]; omega)).to (List.map_append).symm) L) xa_nil)) ⟨k, es.map (·.1) ++ more, rfl, m0, by omega, by rw [List.length_append, List.length_map]; exact sz, by rw [han]⟩) fun ya xa H1 s1 hya h1a hxa => ra_1 (XL.go (M := M) (xl_lst (L.mono s1) xa_nil) fun g xs H2 s2 hg h2g hx => ⟨_, _, rfl, ?_⟩))) scLFit.nd
          case cm1 =>
            obtain ⟨c, _, rfl⟩ := mem_step hd
            obtain ⟨t, rfl, ht⟩ := step_at hv
            intro s0 H0 C0 cl fp
            refine rg_tup (same_seqT hid_le ht) (rgs_cons (rg_name 10 (rgs_cons (rg_name 11 (rgs_nil ?_) scLFit.nd)) scLFit.nd))
            refine ⟨rfl, bt_nil ⟨Same.refl _, .inl ⟨rfl, _, rfl, fun s0 H0 C0 cl fp => ?_⟩⟩⟩
            exact XV.go (xv_name 10 rfl) fun H3 s3 => ⟨s3, .int c.1⟩
          cases hx
          have s02 := s1.trans s2
          have hg0 : H g = none := s1.free hg
          have kan : Dq K (hid M H1) (.ref ya) (.list (an.map PyData.int)) := .lst (by rw [hid_of (L.fresh hya)]; exact h1a) hxa
          have Lg : Live (g :: M) H2 := live_new (L.mono s1) s2 (by rw [h2g]; simp)
          have g2 : Same (hid M H1) (hid (g :: M) H2) := hid_step hg s2
          have hk2 := (h1.up (hid_mono (M := M) s1)).up g2
          have hl2 := (h2.up (hid_mono (M := M) s1)).up g2
          have ha2 := kan.up g2
          have hrl : (rowsL k.js k.mo.toNat).length ≤ 25 := by
            refine Nat.le_trans (rowsL_len k.js k.mo.toNat) (Nat.le_trans (Nat.pow_le_pow_left (show 1 + k.js.length ≤ 5 by omega) _) (Nat.le_trans (Nat.pow_le_pow_right (by decide) (show k.mo.toNat ≤ 2 by omega)) (by decide)))
          have hrow1 : ∀ r ∈ rowsL k.js k.mo.toNat, r.length ≤ 2 := fun r hr => by have := (rowsL_mem.mp hr).1; omega
          have htry : ∀ r ∈ rowsL k.js k.mo.toNat, (placed k.ap an r.length).length ≤ 3969 := fun r hr => Nat.le_trans (placed_len k.ap an r.length) (Nat.le_trans (Nat.pow_le_pow_left hanl _) (Nat.le_trans (Nat.pow_le_pow_right (by decide) (hrow1 r hr)) (by decide)))
          have hfl : ∀ r ∈ rowsL k.js k.mo.toNat, ((placed k.ap an r.length).flatMap (tryL es r)).length ≤ 3969 := fun r hr => by
            have := Pm.flat_len (tryL es r) 1 (placed k.ap an r.length) fun x _ => tryL_len es r x
            have := htry r hr
            omega
          have eRT : ∀ r, rowTry k es more r = (placed k.ap an r.length).flatMap (tryL es r) := fun r => by unfold rowTry; rw [han]
          -- the rows
          have bnd25 : (1 + k.js.length) ^ k.mo.toNat ≤ 100000 := Nat.le_trans (Nat.pow_le_pow_left (show 1 + k.js.length ≤ 5 by omega) _) (Nat.le_trans (Nat.pow_le_pow_right (by decide) (show k.mo.toNat ≤ 2 by omega)) (by decide))
          refine rb_for (M := g :: M) (ds := (rowsL k.js k.mo.toNat).map rowIL) (XL.dd (xl_call Lg GR (hr.mono (by decide)) FR.g FR.F.kp FR.b (xa_cons (xd_name 0 rfl hk2) (xa_cons ((xd_ixT (fun _ _ => rfl) (xd_name 0 rfl hk2) xd_int k2).to (show PyData.int k.mo = .int (k.mo.toNat : Int) by rw [Int.toNat_of_nonneg m0])) xa_nil)) ⟨k, k.mo.toNat, rfl, bnd25, by omega, rfl⟩) Lg) fun H3 s3 => ⟨fun i σ' H' => Same (hid (g :: M) H3) (hid (g :: M) H') ∧ Live (g :: M) H' ∧ Same H H' ∧ ∃ zs a5 a6 a7 a8, σ' = [some v0, some v1, some v2, some (.ref ya), some (.ref g), a5, a6, a7, a8, none, none, none, none] ∧ H' g = some (.lst zs) ∧ DqAll K (hid (g :: M) H') zs ((((rowsL k.js k.mo.toNat).take i).flatMap (rowTry k es more)).map planD'),
            ⟨Same.refl _, Lg.mono s3, s02.trans s3, [], none, none, none, none, rfl, s3 _ _ h2g, .nil⟩, fun i σ' H' w => w.1, fun i it hi σ' H' v w hv => ?_, fun σ' H' w => ?_⟩
          · obtain ⟨z1, L4, z2, zs, a5, a6, a7, a8, rfl, hgz, hzs⟩ := w
            obtain ⟨r, hr1, rfl⟩ := map_get hi
            have hrm := List.mem_of_getElem? hr1
            have hil := (List.getElem?_eq_some_iff.mp hr1).1
            have hk4 := hk2.up ((hid_mono (M := g :: M) s3).trans z1)
            have hl4 := hl2.up ((hid_mono (M := g :: M) s3).trans z1)
            have ha4 := ha2.up ((hid_mono (M := g :: M) s3).trans z1)
            have hv : Dq K (hid (g :: M) H') v (.list (r.map PyData.int)) := hv
            have hr2 := hrow1 r hrm
            have hzl : zs.length ≤ i * 3969 := by
              rw [dpa_len hzs, List.length_map]
              have e1 := Pm.flat_len (rowTry k es more) 3969 ((rowsL k.js k.mo.toNat).take i) fun x hx => by rw [eRT]; exact hfl x ((List.take_sublist _ _).subset hx)
              rw [List.length_take, Nat.min_eq_left (by omega)] at e1
              exact e1
            refine rg_name 5 ?_ scLFit.nd
            refine rb_for (M := g :: M) (ds := (placed k.ap an r.length).map rowIL) (XL.dd (xl_call L4 GP (hr.mono (by decide)) FP.g FP.F.kp FP.b (xa_cons (xd_name 0 rfl hk4) (xa_cons ((xd_len T.len (xd_name 5 rfl hv)).to (by rw [List.length_map])) (xa_cons (xd_name 3 rfl ha4) xa_nil))) ⟨k, r.length, an, rfl, by omega, Nat.le_trans (Nat.pow_le_pow_left (show 1 + an.length ≤ 64 by omega) _) (Nat.le_trans (Nat.pow_le_pow_right (by decide) hr2) (by decide)), rfl⟩) L4) fun H5 s5 => ⟨fun j σ' H6 => Same (hid (g :: M) H5) (hid (g :: M) H6) ∧ Live (g :: M) H6 ∧ Same H H6 ∧ ∃ zs a6 a7 a8, σ' = [some v0, some v1, some v2, some (.ref ya), some (.ref g), some v, a6, a7, a8, none, none, none, none] ∧ H6 g = some (.lst zs) ∧ DqAll K (hid (g :: M) H6) zs ((((rowsL k.js k.mo.toNat).take i).flatMap (rowTry k es more) ++ ((placed k.ap an r.length).take j).flatMap (tryL es r)).map planD'),
              ⟨Same.refl _, L4.mono s5, z2.trans s5, zs, a6, a7, a8, rfl, s5 _ _ hgz, by simpa using hzs.up (hid_mono s5)⟩, fun j σ' H6 w => w.1, fun j it hj σ' H6 vp w hvp => ?_, fun σ' H6 w => ?_⟩
            · obtain ⟨y1, L6, y2, zs6, a6, a7, a8, rfl, hgz6, hzs6⟩ := w
              obtain ⟨ms, hms1, rfl⟩ := map_get hj
              have hjl2 := (List.getElem?_eq_some_iff.mp hms1).1
              have hmsl : ms.length = r.length := (placed_mem.mp (List.mem_of_getElem? hms1)).1
              have hvp : Dq K (hid (g :: M) H6) vp (.list (ms.map PyData.int)) := hvp
              have s46 := (hid_mono (M := g :: M) s5).trans y1
              have hv6 := hv.up s46
              have hl6 := hl4.up s46
              have hz6 : zs6.length < 100000 := by
                rw [dpa_len hzs6, List.length_map, List.length_append]
                have q1 := dpa_len hzs
                rw [List.length_map] at q1
                have e1 := Pm.flat_len (tryL es r) 1 ((placed k.ap an r.length).take j) fun x _ => tryL_len es r x
                rw [List.length_take] at e1
                have e2 := htry r hrm
                omega
              refine rg_name 6 ?_ scLFit.nd
              refine rb_setL 7 (M := g :: M) ((xl_listZip T.lst hz L6 (xd_name 6 rfl hvp) (xd_name 5 rfl hv6) (by rw [List.length_map, List.length_map]; omega)).to (zip_steps ms r)) (fun ys xs7 H7 s7 hys h7 hx7 => ?_) scLFit.nd
              have L7 := L6.mono s7
              have kst : Dq K (hid (g :: M) H7) (.ref ys) (.list ((ms.zip r).map stepD)) := .lst (by rw [hid_of (L6.fresh hys)]; exact h7) hx7
              have hl7 := hl6.up (hid_mono s7)
              have hstl : (ms.zip r).length ≤ 1000 := by rw [List.length_zip]; omega
              have logE : ∀ {X : Cx} {M : List Addr} {σ : L2.St} {H : Hp} {v : V} {p1 p2 p3 p4 pos1 pos2 : Pos} {j1 j2} {n : Int} {y : Int}, XD X M σ H (.Name "_law_log_here" p1) (.list (es.map stepD)) → atI [PyData.int en.1, .int en.2] n = some (.int y) → XD X M σ H (.Subscript (.Subscript (.Name "_law_log_here" p1) (.Constant (.int 0) j1 p2) pos1) (.Constant (.int n) j2 p3) pos2) (.int y) := fun {X M σ H v p1 p2 p3 p4 pos1 pos2 j1 j2 n y} hh ha => xd_ixT (fun _ _ => rfl) (xd_ixL (fun _ _ => rfl) hh xd_int (stepN hen rfl)) xd_int ha
              refine rb_set 8 (M := g :: M) (xd_sub (xd_sub (logE (v := .non) (p4 := ⟨0, 0, 0, 0⟩) (xd_name 1 rfl hl7) step1) (logE (v := .non) (p4 := ⟨0, 0, 0, 0⟩) (xd_name 1 rfl hl7) step0)) ((xd_sum (ns := (ms.zip r).filterMap (upJ en.1)) hs (((xl_comp (own := [("_law_moment", 10), ("_law_jump", 12)]) (upD en.1) L7 scLFit.nd (xd_name 7 rfl kst)
                (blkOk_by (own := [("_law_moment", 10), ("_law_jump", 12)]) (N := lfN) (sc := defScope sLFit) (by decide +kernel)) (by rw [List.length_map]; omega) (fun p d v H8 hd hp s8 Lp hv => ?cm2)).to (upD_all en.1 (ms.zip r))).dd L7)).to (by rw [sum_up]))) (fun v8 H8 s8 hv8 => ?_) scLFit.nd
              case cm2 =>
                obtain ⟨sx, _, rfl⟩ := mem_step hd
                obtain ⟨t, rfl, ht⟩ := step_at hv
                have hl8 : Dq K (hid (p :: g :: M) H8) v1 (.list (es.map stepD)) := hl7.up (hid_step (M := g :: M) hp s8)
                intro s0 H0 C0 cl fp
                refine rg_tup (same_seqT hid_le ht) (rgs_cons (rg_name 10 (rgs_cons (rg_name 12 (rgs_nil ?_) scLFit.nd)) scLFit.nd))
                refine ⟨rfl, bt_one (k := decide (sx.1 ≤ en.1)) (fun s0 H0 C0 cl fp => xt_cmpI (M := p :: g :: M) op_le (xv_name 10 rfl).int (logE (v := .non) (p4 := ⟨0, 0, 0, 0⟩) (xd_name 1 rfl hl8) step0)) fun H2 s2 => ⟨s2, ?_⟩⟩
                by_cases c : sx.1 ≤ en.1
                · exact .inl ⟨decide_eq_true c, .int sx.2, if_pos c, fun s0 H0 C0 cl fp => XV.go (xv_name 12 rfl) fun H3 s3 => ⟨s3, .int _⟩⟩
                · exact .inr ⟨decide_eq_false c, if_neg c⟩
              have e8 := dp_int hv8
              subst e8
              have ef : en.2 - en.1 - sumJ en.1 (ms.zip r) = firstO es (ms.zip r) := (hfo _).symm
              rw [ef]
              generalize hst : ms.zip r = st at kst hstl
              generalize hfi : firstO es st = fi
              have L8 := L7.mono s8
              have kst8 := kst.up (hid_mono (M := g :: M) s8)
              have hl8 := hl7.up (hid_mono (M := g :: M) s8)
              have et : tryL es r ms = if readsB es fi st = true then [(fi, st)] else [] := by
                unfold tryL
                rw [hst, hfi]
              refine rb_if (k := readsB es fi st) ((xt_eqD (M := g :: M) hr.units (XL.dd ((xl_comp (own := [("_law_entry", 9)]) (fun d => match d with | .tuple [.int m, .int r] => if badE fi st (m, r) = true then some (stepD (m, r)) else none | _ => none) L8 scLFit.nd (xd_name 1 rfl hl8)
                (blkOk_by (own := [("_law_entry", 9)]) (N := lfN) (sc := defScope sLFit) (by decide +kernel)) (by rw [List.length_map]; omega) (fun p d v H9 hd hp s9 Lp hv => ?cm3)).to (fm_bad fi st es)) L8) (xd_lst L8 xa_nil) (shaped_steps _) shaped_nil).to (by rw [eqv_steps, reads_dec])) (fun e H9 s9 => ?_) (fun e H9 s9 => rb_nil (rb_nil ?_))
              case cm3 =>
                obtain ⟨sx, _, rfl⟩ := mem_step hd
                have hv9 : Dq K (hid (p :: g :: M) H9) v (stepD sx) := hv
                have kst9 : Dq K (hid (p :: g :: M) H9) (.ref ys) (.list (st.map stepD)) := kst8.up (hid_step (M := g :: M) hp s9)
                intro s0 H0 C0 cl fp
                refine rg_name 9 ?_ scLFit.nd
                refine ⟨rfl, bt_one (k := badE fi st sx) (fun s0 H0 C0 cl fp => (xt_neI (M := p :: g :: M) (xd_call Lp GE (hr.mono (by decide)) FE.g FE.F.kp FE.b (xa_cons (xd_tup Lp (xa_cons (xv_name 8 rfl).int (xa_cons (xd_name 7 rfl kst9) xa_nil))) (xa_cons (xd_ixT (fun _ _ => rfl) (xd_name 9 rfl hv9) xd_int step0) xa_nil)) ⟨fi, st, sx.1, rfl, hstl, rfl⟩) (xd_ixT (fun _ _ => rfl) (xd_name 9 rfl hv9) xd_int step1)).to rfl) fun H2 s2 => ⟨s2, ?_⟩⟩
                by_cases c : badE fi st sx = true
                · exact .inl ⟨c, stepD sx, if_pos c, fun s0 H0 C0 cl fp => XV.go (xv_name 9 rfl) fun H3 s3 => ⟨s3, hv9.up (hid_mono (s2.trans s3))⟩⟩
                · exact .inr ⟨Bool.eq_false_iff.mpr c, if_neg c⟩
              · have s69 := (s7.trans s8).trans s9
                refine rb_append (M := g :: M) (xs := zs6) (List.mem_cons_self ..) (xv_name 4 rfl) (s69 _ _ hgz6) (xd_tup (L8.mono s9) (xa_cons (xv_name 8 rfl).int (xa_cons (xd_name 7 rfl (kst8.up (hid_mono s9))) xa_nil))) hz6 fun v10 H10 s10 hv10 => rb_nil (rb_nil ?_)
                have s6x := s69.trans s10
                have eh : hid (g :: M) (upd H10 g (.lst (zs6 ++ [v10]))) = hid (g :: M) H10 := hid_upd_mem (List.mem_cons_self ..)
                refine ⟨by rw [eh]; exact y1.trans (hid_mono s6x), (L6.mono s6x).upd, same_upd (y2.trans s6x) hg0, zs6 ++ [v10], _, _, _, rfl, upd_same, ?_⟩
                rw [eh, take_snoc hms1, List.flatMap_append, ← List.append_assoc, List.map_append]
                have hsing : ([ms].flatMap (tryL es r)).map planD' = [planD fi st] := by
                  simp only [List.flatMap_cons, List.flatMap_nil, List.append_nil]
                  rw [et, if_pos e]
                  rfl
                rw [hsing]
                exact dpa_app (hzs6.up (hid_mono s6x)) (.cons hv10 .nil)
              · have s69 := (s7.trans s8).trans s9
                refine ⟨y1.trans (hid_mono s69), L6.mono s69, y2.trans s69, zs6, _, _, _, rfl, s69 _ _ hgz6, ?_⟩
                have hsing : [ms].flatMap (tryL es r) = [] := by
                  simp only [List.flatMap_cons, List.flatMap_nil, List.append_nil]
                  rw [et, if_neg (by rw [e]; exact Bool.false_ne_true)]
                rw [take_snoc hms1, List.flatMap_append, hsing, List.append_nil]
                exact hzs6.up (hid_mono s69)
            · obtain ⟨y1, L6, y2, zs6, a6, a7, a8, rfl, hgz6, hzs6⟩ := w
              rw [List.length_map, List.take_length] at hzs6
              refine rb_nil ⟨z1.trans ((hid_mono (M := g :: M) s5).trans y1), L6, y2, zs6, _, _, _, _, rfl, hgz6, ?_⟩
              rw [take_snoc hr1, List.flatMap_append]
              have e9 : [r].flatMap (rowTry k es more) = (placed k.ap an r.length).flatMap (tryL es r) := by
                simp only [List.flatMap_cons, List.flatMap_nil, List.append_nil]
                exact eRT r
              rw [e9]
              exact hzs6
          · obtain ⟨z1, L4, z2, zs, a5, a6, a7, a8, rfl, hgz, hzs⟩ := w
            rw [List.length_map, List.take_length] at hzs
            refine rb_retR (XV.go (xv_name 4 rfl) fun H5 s5 => q g zs H5 (z2.trans s5) hg0 (s5 _ _ hgz) ((hzs.up (hid_mono s5)).up hid_weak))
end
end Zn

set_option Elab.async false
set_option linter.all false
set_option maxRecDepth 100000
set_option maxHeartbeats 8000000
namespace Zn
open PySem PySem.Spec PyProof.Rows L2 Dl
/-! the law's clash, kind, log -/
abbrev sLLog : Stmt := top 59
theorem eqv_list_nil (ds : List PyData) : PyData.eqv (.list ds) (.list []) = ds.isEmpty := by
  cases ds with
  | nil => simp [PyData.eqv, PyData.eqvAll]
  | cons d ds => simp [PyData.eqv, PyData.eqvAll]
theorem lay_plans : ∀ l : List (Int × List Step), PyData.canLayAll0 (l.map planD') = true ∧ PyData.depthAll (l.map planD') ≤ 3
  | [] => ⟨by simp [PyData.canLayAll0], by simp [PyData.depthAll]⟩
  | x :: l => by
    obtain ⟨h1, h2⟩ := lay_plans l
    have d1 := depth_steps x.2
    refine ⟨?_, ?_⟩
    · rw [List.map_cons]
      show (PyData.canLay0 (planD x.1 x.2) && PyData.canLayAll0 (l.map planD')) = true
      rw [h1]
      simp [planD, PyData.canLay0, PyData.canLayAll0, lay_steps]
    · rw [List.map_cons]
      show max (PyData.depth (planD x.1 x.2)) (PyData.depthAll (l.map planD')) ≤ 3
      have e : PyData.depth (planD x.1 x.2) = (PyData.depthAll (x.2.map stepD) + 1) + 1 := by simp [planD, PyData.depth, PyData.depthAll]
      omega
theorem shaped_plans (l : List (Int × List Step)) : SeqAt.shaped (.list (l.map planD')) = true := by
  obtain ⟨h1, h2⟩ := lay_plans l
  unfold SeqAt.shaped
  have e : PyData.depth (.list (l.map planD')) = PyData.depthAll (l.map planD') + 1 := by simp [PyData.depth]
  rw [show PyData.canLay0 (.list (l.map planD')) = PyData.canLayAll0 (l.map planD') by simp [PyData.canLay0], h1, e]
  simp
  omega
def RLClash (ds : List PyData) (d : PyData) : Prop := ∃ (k : Kd) (es : List Step), ds = [kindD k, .list (es.map stepD)] ∧ KOk k ∧ k.mo ≤ 2 ∧ es.length ≤ 10 ∧ d = clashD (clashF (badL k es) es.length)
section
variable {X : Cx} {M : List Addr} {σ : L2.St} {H : Hp} {a b e : Expr} {pos p1 : Pos} {k : Bool} {Q : Bool → Hp → Prop}
/-- a and b, the first of which is plain -/
theorem rt_andX (ha : XT X σ H a k) (hT : k = true → ∀ H1, Same H H1 → RT X b σ H1 Q) (hF : k = false → ∀ H1, Same H H1 → Q false H1) : RT X (.BoolOp .And [a, b] pos) σ H Q :=
  ⟨_, PW.pt rw_, _, pw_and rt_ rw_, ha H (Same.refl H) _ fun H1 s1 => by
    cases k with
    | true => exact iteT ⟨_, pw_and1 rt_, hT rfl H1 s1⟩
    | false => exact iteF (hF rfl H1 s1)⟩
theorem re_ifR {a b c : Expr} {Q : VK} (h : RT X c σ H fun k H1 => if k = true then RE X a σ H1 Q else RE X b σ H1 Q) : RE X (.IfExp c a b pos) σ H Q := ⟨_, pe_ifExp rt_ re_ re_, h⟩
/-- [..][e], things of any kind -/
theorem re_menuV {esl : List Expr} {n : Nat} {Q : VK} (hs : PlainIx b) (hn : n ≤ 1000) (h : RA X esl σ H fun vs H1 => vs.length = n ∧ ∀ l, H1 l = none → RE X b σ (upd H1 l (.lst vs)) fun y H3 => ∃ r : Int, y = .int r ∧ 0 ≤ r ∧ r < n ∧ H3 l = some (.lst vs) ∧ ∀ z, z ∈ vs → Q z H3) :
    RE X (.Subscript (.List esl p1) b pos) σ H Q :=
  ⟨_, pe_ix ix_list (pe_lst ra_) re_ hs, ra_mono h fun vs H1 ⟨e2, k⟩ => ⟨by rw [e2]; exact Nat.le_trans hn (by decide), fun l hl => re_mono (k l hl) fun y H3 ⟨r, ey, r0, r1, h3, q⟩ => by
    subst ey
    have hlt : r.toNat < vs.length := by omega
    have ha : atI vs r = some vs[r.toNat] := by
      have h : atI vs ((r.toNat : Nat) : Int) = some vs[r.toNat] := atI_nat (List.getElem?_eq_getElem hlt)
      rw [Int.toNat_of_nonneg r0] at h
      exact h
    exact ⟨l, vs, r, vs[r.toNat], rfl, rfl, SqL.of h3, ha, q _ (List.getElem_mem hlt)⟩⟩⟩
end
theorem dpa_mem {K : PySem.W.Frag} {H : Hp} {vs : List V} {ds : List PyData} (h : DqAll K H vs ds) {v : V} (hv : v ∈ vs) : ∃ d ∈ ds, Dq K H v d := by
  obtain ⟨i, hi⟩ := List.mem_iff_getElem?.mp hv
  obtain ⟨d, h1, h2⟩ := dpa_get' h hi
  exact ⟨d, List.mem_of_getElem? h1, h2⟩
def stock7 : List (List Int) := [[60, -60], [60], [-30, 45], [1], [720, -720], [60, -60, 30, -30], [45, -30, 15]]
theorem stock_ok : ∀ js ∈ stock7, okJs js := by
  intro js h
  unfold stock7 at h
  have h' : js = [60, -60] ∨ js = [60] ∨ js = [-30, 45] ∨ js = [1] ∨ js = [720, -720] ∨ js = [60, -60, 30, -30] ∨ js = [45, -30, 15] := by simpa using h
  unfold okJs okJ
  rcases h' with e | e | e | e | e | e | e <;> (rw [e]; decide)
def spLKind34 (K : PySem.W.Frag) : Sp := fun vs H Q _ => ∃ (M : List Addr) (b : Addr) (n : Nat), vs = [.ref b] ∧ Live M H ∧ BagAt H b n ∧ n ≤ 900000 ∧
  ∀ (k : Kd) v H1, KOk k → k.js ∈ stock7 → k.mo ≤ 2 → (2 < k.js.length → k.mo ≤ 1) → k.ap ≤ 5000 → SameB b H H1 → BagAt H1 b (n + 30) → Dq K (hid (b :: M) H1) v (kindD k) → Q v H1
/-- beside the steps, near them -/
def NB (c : Int) (st : List Step) (q : Int) : Prop := ∀ B : Int, 0 ≤ B → (∀ s ∈ st, -B ≤ s.1 ∧ s.1 ≤ B) → -(B + c) ≤ q ∧ q ≤ B + c
def spLLog (K : PySem.W.Frag) : Sp := fun vs H Q _ => ∃ (M : List Addr) (b : Addr) (n : Nat) (vp : V) (f : Int) (st : List Step) (N : Nat), vs = [.ref b, vp, .int (N : Int)] ∧ Live M H ∧ BagAt H b n ∧ n ≤ 900000 ∧ Dq K (hid (b :: M) H) vp (planD f st) ∧ st.length ≤ 50 ∧ 1 ≤ N ∧ N ≤ 12 ∧
  ∀ (ms : List Int) (p : Addr) (xs : List V) H1, ms.Pairwise (· < ·) → 1 ≤ ms.length → ms.length ≤ N → (∀ m ∈ ms, NB 9001 st m) → SameB b H H1 → BagAt H1 b (n + 60) → H p = none → H1 p = some (.lst xs) → DqAll K (hid (b :: M) H1) xs ((ms.map fun m => ((m, m + f + sumJ m st) : Step)).map stepD) → Q (.ref p) H1
section
variable {P : Program} {w : World} {K : PySem.W.Frag} {mg : Str → Option Value} {base : Heap} {C CK CP CZ : Addr}
end
end Zn

set_option Elab.async false
set_option linter.all false
set_option maxRecDepth 100000
set_option maxHeartbeats 8000000
namespace Zn
open PySem PySem.Spec PyProof.Rows L2 Dl
def near1 (st : List Step) : List Int := st.flatMap fun s => [s.1 - 1, s.1, s.1 + 1]
theorem near1_len : ∀ st : List Step, (near1 st).length = 3 * st.length
  | [] => rfl
  | s :: st => by
    show (_ :: _ :: _ :: near1 st).length = _
    rw [List.length_cons, List.length_cons, List.length_cons, near1_len st, List.length_cons]; omega
theorem fm_read (g : Int → Int) (ms : List Int) : (ms.map PyData.int).filterMap (fun d => match d with | .int m => some (PyData.tuple [.int m, .int (g m)]) | _ => none) = (ms.map fun m => ((m, g m) : Step)).map stepD := by
  rw [fm_map PyData.int _ (fun m => PyData.tuple [.int m, .int (g m)]) (fun _ => rfl), List.map_map]
  rfl
theorem nb_zero {st : List Step} : NB 1 st 0 := fun B h0 _ => by omega
theorem nb_near {st : List Step} {x : Int} (h : x ∈ near1 st) : NB 1 st x := fun B h0 hb => by
  obtain ⟨s, hs, hx⟩ := List.mem_flatMap.mp h
  have := hb s hs
  simp only [List.mem_cons, List.not_mem_nil, or_false] at hx
  rcases hx with e | e | e <;> omega
theorem nb_add {st : List Step} {x z far : Int} (h : NB 1 st x) (f0 : 0 ≤ far) (f1 : far < 9000) (hz : z ∈ [0, far % 9, far, -far]) : NB 9001 st (x + z) := fun B h0 hb => by
  have := h B h0 hb
  simp only [List.mem_cons, List.not_mem_nil, or_false] at hz
  rcases hz with e | e | e | e <;> omega
section
variable {P : Program} {w : World} {K : PySem.W.Frag} {mg : Str → Option Value} {base : Heap} {C CK CP CZ : Addr}
abbrev lkN : List Str := ["_law_bag_here", "_law_jumps", "_law_jump", "_law_floor", "_law_most"]
theorem scLKind : FnScope lkN ["_law_bag_here"] (defScope sLKind) := ⟨rfl, rfl, rfl, by decide +kernel, rfl, by decide +kernel, by decide +kernel⟩
theorem ok_lkind {f fT : Addr} {fd fdT : FuncData} (T : Nm mg) (FT : Df K mg "_law_take" sTake ["_law_bag_here", "_law_many"] fT fdT) (F : Df K mg "_law_kind" sLKind ["_law_bag_here"] f fd) : FnOk P w K mg base CX0 2 f fd ["_law_bag_here"] (spLKind34 K) := by
  have GT : FnOk P w K mg base CX0 1 fT fdT ["_law_bag_here", "_law_many"] spTake := ok_take FT
  refine F.F.ok scLKind (fun vs H Q E h => ?_) (fun cdv A outer s0 H vs Q E hr h => ?_)
  · obtain ⟨M, b, n, rfl, _⟩ := h; rfl
  · obtain ⟨M, b, n, rfl, L, hB, hn, q⟩ := h
    have Lb : Live (b :: M) H := live_bag L (SameB.of (Same.refl H)) hB
    refine rb_setR 1 (re_menuV (n := 7) (fun _ _ => rfl) (by decide) (XA.go (M := b :: M) (ds := stock7.map fun js => PyData.list (js.map PyData.int))
      (xa_cons (xd_lst Lb (xa_cons xd_int (xa_cons (xd_neg xd_int) xa_nil))) (xa_cons (xd_lst Lb (xa_cons xd_int xa_nil)) (xa_cons (xd_lst Lb (xa_cons (xd_neg xd_int) (xa_cons xd_int xa_nil))) (xa_cons (xd_lst Lb (xa_cons xd_int xa_nil)) (xa_cons (xd_lst Lb (xa_cons xd_int (xa_cons (xd_neg xd_int) xa_nil))) (xa_cons (xd_lst Lb (xa_cons xd_int (xa_cons (xd_neg xd_int) (xa_cons xd_int (xa_cons (xd_neg xd_int) xa_nil))))) (xa_cons (xd_lst Lb (xa_cons xd_int (xa_cons (xd_neg xd_int) (xa_cons xd_int xa_nil)))) xa_nil)))))))
      fun vs H1 s1 hvs => ⟨by rw [dpa_len hvs]; rfl, fun l hl => ?_⟩)) scLKind.nd
    have hB1 := hB.up s1 (Nat.le_refl _)
    refine re_take GT FT hr (xv_name 0 rfl) xv_int (bag_new hB1 hl) fun r H2 r0 r1 sB2 hB2 => ⟨r, rfl, r0, r1, sB2 _ _ (fun z => by subst z; exact hB1.some hl) upd_same, fun z hz => ?_⟩
    obtain ⟨dz, hdz, hz1⟩ := dpa_mem hvs hz
    obtain ⟨js, hjs, rfl⟩ := List.mem_map.mp hdz
    have sB12 : SameB b H1 H2 := (sameB_new hl).trans sB2
    have sB02 : SameB b H H2 := (SameB.of s1).trans sB12
    have kj : Dq K (hid (b :: M) H2) z (.list (js.map PyData.int)) := hz1.up (sB12.hid (List.mem_cons_self ..))
    have L2' : Live (b :: M) H2 := live_bag L sB02 hB2
    have hj2 := stock_ok js hjs
    have ne2 : js ≠ [] := okJs_ne hj2
    have ne3 : js.map ab ≠ [] := fun z => ne2 (List.map_eq_nil_iff.mp z)
    refine rb_set 3 (M := b :: M) (xd_add (xd_mul xd_int (xd_maxL T.max ne3 (XL.dd ((xl_comp (own := [("_law_jump", 2)]) (fun d => match d with | .int j => some (PyData.int (ab j)) | _ => none) L2' scLKind.nd (xd_name 1 rfl kj)
      (blkOk_by (own := [("_law_jump", 2)]) (N := lkN) (sc := defScope sLKind) (by decide +kernel)) (by rw [List.length_map]; have := hj2.2.2.2; omega) (fun q d v Hx hd hq sx Lq hv => ?cmp)).to (fm_abs _)) L2')) (.inl ⟨by decide, by decide⟩)) xd_int) (fun v3 H3 s3 hv3 => ?_) scLKind.nd
    case cmp =>
      obtain ⟨j, _, rfl⟩ := List.mem_map.mp hd
      have ej := dp_int hv
      subst ej
      intro s0 H0 C0 cl fp
      refine rg_name 2 ?_ scLKind.nd
      refine ⟨rfl, bt_nil ⟨Same.refl _, .inl ⟨rfl, _, rfl, fun s0 H0 C0 cl fp => ?_⟩⟩⟩
      exact XD.go (xd_abs T.abs (xv_name 2 rfl).int) fun v H2 s2 hv2 => ⟨s2, hv2⟩
    have e3 := dp_int hv3
    subst e3
    obtain ⟨m0, m1⟩ := mx_small hj2.1 ne2
    have hB3 := hB2.up s3 (Nat.le_refl _)
    -- most
    refine rb_setR 4 (re_menu (n := 4) (fun _ _ => rfl) (by decide) ?_) scLKind.nd
    refine ra_int xv_int fun Ha sa => ?_
    refine ra_int xv_int fun Hb sb => ?_
    refine ra_int xv_int fun Hc sc => ?_
    refine ra_1 (re_int xv_int fun Hd sd => ⟨[2, 1, 2, 0], rfl, rfl, fun l4 hl4 => ?_⟩)
    have s3d := ((sa.trans sb).trans sc).trans sd
    have hBd := hB3.up s3d (Nat.le_refl _)
    refine re_take GT FT hr (xv_name 0 rfl) xv_int (bag_new hBd hl4) fun t4 H4 t40 t41 sB4 hB4 => ⟨t4, rfl, t40, t41, sB4 _ _ (fun z => by subst z; exact hBd.some hl4) upd_same, fun mo hmo => ?_⟩
    have hmo2 : 0 ≤ mo ∧ mo ≤ 2 := by rcases mem4 hmo with e | e | e | e <;> omega
    have sB24 : SameB b H2 H4 := ((SameB.of (s3.trans s3d)).trans (sameB_new hl4)).trans sB4
    have kj4 := kj.up (sB24.hid (M := b :: M) (List.mem_cons_self ..))
    have sB04 : SameB b H H4 := sB02.trans sB24
    have hmx : 2 * mx (js.map ab) + 1 ≤ 1441 := by omega
    generalize hfl : 2 * mx (js.map ab) + 1 = fl at hmx ⊢
    -- what is returned
    have fin : ∀ (mo : Int) (H5 : Hp), 0 ≤ mo → mo ≤ 2 → (2 < js.length → mo ≤ 1) → Same H4 H5 → RB (cxOf CX0 P w K mg base lkN "_law_kind" (defScope sLKind) f cdv A outer s0 H E).nox ((defBody sLKind).drop 4) { nx := fun _ H1 => Q .non H1, rt := Q } [some (.ref b), some z, none, some (.int fl), some (.int mo)] H5 := fun mo H5 h0 h2 hjm s5 => by
      have kj5 := kj4.up (hid_mono (M := b :: M) s5)
      have hB5 := hB4.up s5 (Nat.le_refl _)
      refine rb_retR ⟨_, pe_tup ra_, ra_cons (XV.go (xv_name 1 rfl) fun H6 s6 => ra_cons ?_)⟩
      refine re_addI (re_int (xv_name 3 rfl) fun H7 s7 => ⟨_, rfl, ?_⟩)
      refine re_menu (n := 3) (fun _ _ => rfl) (by decide) ?_
      refine ra_int xv_int fun H8 s8 => ?_
      have s58 := (s6.trans s7).trans s8
      refine ra_cons (re_take GT FT hr (xv_name 0 rfl) xv_int (hB5.up s58 (Nat.le_refl _)) fun t2 H9 t20 t21 sB9 hB9 => ?_)
      refine ra_1 (re_int xv_int fun Ha sa => ⟨[0, t2, 3000], rfl, rfl, fun l hl => ?_⟩)
      have hBa := hB9.up sa (Nat.le_refl _)
      refine re_take GT FT hr (xv_name 0 rfl) xv_int (bag_new hBa hl) fun t3 Hd t30 t31 sBd hBd => ⟨t3, rfl, t30, t31, sBd _ _ (fun z => by subst z; exact hBa.some hl) upd_same, fun x hx => ⟨x, rfl, ?_⟩⟩
      have hx0 : 0 ≤ x := by
        have hx' : x = 0 ∨ x = t2 ∨ x = 3000 := by simpa using hx
        rcases hx' with e | e | e <;> omega
      have hx3 : x ≤ 3000 := by
        have hx' : x = 0 ∨ x = t2 ∨ x = 3000 := by simpa using hx
        rcases hx' with e | e | e <;> omega
      have sB5d : SameB b H5 Hd := (((SameB.of s58).trans sB9).trans (.of sa)).trans ((sameB_new hl).trans sBd)
      refine ra_1 (XV.go (xv_name 4 rfl) fun He se => ⟨by show 3 ≤ sizeLine; decide, fun t ht => ?_⟩)
      have sB5e : SameB b H5 He := sB5d.trans (.of se)
      have hBe := hBd.up se (Nat.le_refl _)
      have Le : Live (b :: M) He := live_bag L ((sB04.trans (.of s5)).trans sB5e) hBe
      refine q ⟨js, fl + x, mo⟩ _ _ ⟨hj2, by show 2 * mx (js.map ab) < fl + x; omega, h0, by show mo ≤ 3; omega⟩ hjs h2 hjm (by show fl + x ≤ 5000; omega) (((sB04.trans (.of s5)).trans sB5e).trans (sameB_new ht)) ((bag_new hBe ht).up (Same.refl _) (by omega)) ?_
      rw [hid_new Le ht]
      exact .tup (SqT.of upd_same) (DqAll.up (.cons (kj5.up (sB5e.hid (M := b :: M) (List.mem_cons_self ..))) (.cons (.int _) (.cons (.int _) .nil))) (same_new (hid_free ht)))
    refine rb_if (xt_cmpI (M := b :: M) op_gt (xd_len T.len (xd_name 1 rfl kj4)) xd_int) (fun e H5 s5 => ?_) (fun e H5 s5 => rb_nil ?_)
    · refine rb_set 4 (M := b :: M) (xd_min T.min (xa_cons (xv_name 4 rfl).int (xa_cons xd_int xa_nil))) (fun v6 H6 s6 hv6 => rb_nil ?_) scLKind.nd
      have e6 := dp_int hv6
      subst e6
      exact fin _ H6 (by split <;> omega) (by split <;> omega) (fun _ => by split <;> omega) (s5.trans s6)
    · exact fin mo H5 hmo2.1 hmo2.2 (fun z => by have := of_decide_eq_false e; rw [List.length_map] at this; omega) s5
abbrev llN : List Str := ["_law_bag_here", "_law_plan", "_law_many", "_law_points", "_law_moment", "_law_jump", "_law_moments", "_law_lap", "_law_around", "_law_far"]
theorem scLLog : FnScope llN ["_law_bag_here", "_law_plan", "_law_many"] (defScope sLLog) := ⟨rfl, rfl, rfl, by decide +kernel, rfl, by decide +kernel, by decide +kernel⟩
theorem ok_llog {f fT fE : Addr} {fd fdT fdE : FuncData} (T : Nm mg) (hS : mg "sorted" = none) (hT : mg "set" = none) (FT : Df K mg "_law_take" sTake ["_law_bag_here", "_law_many"] fT fdT) (GE : FnOk P w K mg base CX0 1 fE fdE ["_law_plan", "_law_moment"] (spR K RLRead)) (FE : Df K mg "_law_read" sLRead ["_law_plan", "_law_moment"] fE fdE)
    (F : Df K mg "_law_log" sLLog ["_law_bag_here", "_law_plan", "_law_many"] f fd) : FnOk P w K mg base CX0 2 f fd ["_law_bag_here", "_law_plan", "_law_many"] (spLLog K) := by
  have GT : FnOk P w K mg base CX0 1 fT fdT ["_law_bag_here", "_law_many"] spTake := ok_take FT
  refine F.F.ok scLLog (fun vs H Q E h => ?_) (fun cdv A outer s0 H vs Q E hr h => ?_)
  · obtain ⟨M, b, n, vp, f, st, N, rfl, _⟩ := h; rfl
  · obtain ⟨M, b, n, vp, fo, st, N, rfl, L, hB, hn, hp, hst, hN1, hN2, q⟩ := h
    have Lb : Live (b :: M) H := live_bag L (SameB.of (Same.refl H)) hB
    have c200 : (200 : Nat) < 2 ^ 200 := by decide
    refine rb_setL 3 (M := b :: M) (xl_lst Lb xa_nil) (fun g xs H1 s1 hg h1 hx => ?_) scLLog.nd
    cases hx
    have ngb : g ≠ b := fun z => by subst z; exact hB.some hg
    have Lg : Live (g :: b :: M) H1 := live_new Lb s1 (by rw [h1]; simp)
    have g1 : Same (hid (b :: M) H) (hid (g :: b :: M) H1) := hid_step hg s1
    have hp1 := hp.up g1
    refine rb_for (M := g :: b :: M) (xd_ixT (fun _ _ => rfl) (xd_name 1 rfl hp1) xd_int plan1) fun H2 s2 => ⟨fun i σ' H' => Same (hid (g :: b :: M) H2) (hid (g :: b :: M) H') ∧ Live (g :: b :: M) H' ∧ Same H H' ∧ ∃ a4 a5, σ' = [some (.ref b), some vp, some (.int (N : Int)), some (.ref g), a4, a5, none, none, none, none] ∧ H' g = some (.lst ((near1 (st.take i)).map V.int)),
      ⟨Same.refl _, Lg.mono s2, s1.trans s2, none, none, rfl, s2 _ _ h1⟩, fun i σ' H' w => w.1, fun i it hi σ' H' v w hv => ?_, fun σ' H' w => ?_⟩
    · obtain ⟨z1, L3, z2, a4, a5, rfl, hgz⟩ := w
      obtain ⟨sx, hsx, rfl⟩ := map_get hi
      obtain ⟨t, rfl, ht⟩ := step_at hv
      have hil := (List.getElem?_eq_some_iff.mp hsx).1
      refine rg_tup (same_seqT hid_le ht) (rgs_cons (rg_name 4 (rgs_cons (rg_name 5 (rgs_nil ?_) scLLog.nd)) scLLog.nd))
      refine rb_extend (M := g :: b :: M) (ds := [PyData.int (sx.1 - 1), .int sx.1, .int (sx.1 + 1)]) (List.mem_cons_self ..) (xv_name 3 rfl) hgz (xd_lst L3 (xa_cons (xd_sub (xv_name 4 rfl).int xd_int) (xa_cons (xv_name 4 rfl).int (xa_cons (xd_add (xv_name 4 rfl).int xd_int) xa_nil)))) (by
        rw [List.length_map, near1_len, List.length_take]
        show _ + 3 ≤ 100000
        omega) (fun vs H7 s7 hvs => rb_nil ?_)
      have ev := ints_v (ns := [sx.1 - 1, sx.1, sx.1 + 1]) hvs
      subst ev
      have eh : ∀ o, hid (g :: b :: M) (upd H7 g o) = hid (g :: b :: M) H7 := fun o => hid_upd_mem (List.mem_cons_self ..)
      refine ⟨by rw [eh]; exact z1.trans (hid_mono s7), (L3.mono s7).upd, same_upd (z2.trans s7) hg, _, _, rfl, ?_⟩
      have e9 : (near1 (st.take (i + 1))).map V.int = (near1 (st.take i)).map V.int ++ [sx.1 - 1, sx.1, sx.1 + 1].map V.int := by
        rw [take_snoc hsx, ← List.map_append]
        unfold near1
        rw [List.flatMap_append]
        rfl
      rw [e9]
      exact upd_same
    · obtain ⟨z1, L3, z2, a4, a5, rfl, hgz⟩ := w
      rw [List.length_map, List.take_length] at hgz
      generalize hps : near1 st = ps at hgz
      have hpl : ps.length ≤ 150 := by rw [← hps, near1_len]; omega
      have LbM : Live (b :: M) H' := Live.tail L3
      refine rb_setL 6 (M := b :: M) (xl_lst LbM xa_nil) (fun g2 xs H4 s4 hg2 h4 hx => ?_) scLLog.nd
      cases hx
      have s04 := z2.trans s4
      have hg20 : H g2 = none := z2.free hg2
      have ng2b : g2 ≠ b := fun z => by subst z; exact hB.some hg20
      have ng2 : g2 ≠ g := fun z => by rw [z, hgz] at hg2; cases hg2
      have hB4 := hB.up s04 (Nat.le_refl _)
      refine rb_range T.rng (XV.go (xv_name 2 rfl) fun H5 s5 => ?_)
      refine ⟨N, rfl, by omega, fun i σ' H6 => SameB b H H6 ∧ BagAt H6 b (n + 4 * i) ∧ H6 g = some (.lst (ps.map V.int)) ∧ ∃ (qs : List Int) (a7 a8 a9 : Option V), H6 g2 = some (.lst (qs.map V.int)) ∧ qs.length = i ∧ (∀ q ∈ qs, NB 9001 st q) ∧ σ' = [some (.ref b), some vp, some (.int (N : Int)), some (.ref g), a4, a5, some (.ref g2), a7, a8, a9],
        ⟨.of (s04.trans s5), hB4.up s5 (by omega), s5 _ _ (s4 _ _ hgz), [], none, none, none, s5 _ _ h4, rfl, (fun q hq => by cases hq), rfl⟩, fun i σ' H6 hi w => ?_, fun σ' H6 w => ?_⟩
      · obtain ⟨sB, hBi, hg6, qs, a7, a8, a9, hq6, hql, hqb, rfl⟩ := w
        refine rg_name 7 ?_ scLLog.nd
        refine rb_setR 8 (re_mono (Q := fun v H7 => ∃ x : Int, v = .int x ∧ NB 1 st x ∧ SameB b H6 H7 ∧ BagAt H7 b (n + 4 * i + 2)) ?_ fun v H7 w => ?_) scLLog.nd
        · have kps : Dq K (hid [] H6) (.ref g) (.list (ps.map PyData.int)) := .lst (by rw [hid_nil]; exact hg6) (ints_dq _)
          refine re_ifR (rt_andX (k := !decide (ps = [])) ((xt_neD (M := []) hr.units (xd_name 3 rfl kps) (xd_lst Live.nil xa_nil) (shaped_ints _) shaped_nil).to (by rw [eqv_ints_nil])) (fun e H7 s7 => ?_) (fun e H7 s7 => ?_))
          · have ne : ps ≠ [] := fun z => by rw [decide_eq_true z] at e; cases e
            have hpos := List.length_pos_iff.mpr ne
            refine rt_eqI (re_take GT FT hr (xv_name 0 rfl) xv_int (hBi.up s7 (Nat.le_refl _)) fun t1 H8 t10 t11 sB8 hB8 => ⟨t1, rfl, re_int xv_int fun H9 s9 => ⟨0, rfl, ?_⟩⟩)
            have sB9 : SameB b H6 H9 := ((SameB.of s7).trans sB8).trans (.of s9)
            have hB9 := hB8.up s9 (Nat.le_refl _)
            have hg9 := sB9 _ _ ngb hg6
            cases ec : decide (t1 = 0) with
            | false =>
              rw [if_neg Bool.false_ne_true]
              exact re_int xv_int fun Ha sa => ⟨0, rfl, nb_zero, sB9.trans (.of sa), hB9.up sa (by omega)⟩
            | true =>
              rw [if_pos rfl]
              refine ⟨_, pe_ix ix_list re_ re_ (fun _ _ => rfl), XV.go (xv_name 3 rfl) fun Ha sa => ?_⟩
              have hlen : ((ps.map V.int).length : Int) = (ps.length : Int) := by rw [List.length_map]
              refine re_take GT FT hr (xv_name 0 rfl) (xv_lenS T.len (xv_name 3 rfl) (SqL.of (sa _ _ hg9))) (hB9.up sa (Nat.le_refl _)) (fun r Hb r0 r1 sBb hBb => ?_) (by rw [hlen]; omega) (by rw [hlen]; omega)
              rw [hlen] at r1
              have hrl : r.toNat < ps.length := by omega
              exact ⟨g, _, r, _, rfl, rfl, SqL.of (sBb _ _ ngb (sa _ _ hg9)), at_menu r0 hrl, _, rfl, nb_near (by rw [hps]; exact List.getElem_mem hrl), (sB9.trans (.of sa)).trans sBb, hBb.up (Same.refl _) (by omega)⟩
          · rw [if_neg Bool.false_ne_true]
            exact re_int xv_int fun Ha sa => ⟨0, rfl, nb_zero, .of (s7.trans sa), hBi.up (s7.trans sa) (by omega)⟩
        · obtain ⟨x, rfl, hxb, sB7, hB7⟩ := w
          have hg7 := sB7 _ _ ngb hg6
          have hq7 := sB7 _ _ ng2b hq6
          refine rb_setR 9 (re_take GT FT hr (xv_name 0 rfl) xv_int hB7 fun far H8 f0 f1 sB8 hB8 => ?_) scLLog.nd
          have sB68 := sB7.trans sB8
          refine rb_appendE (xv_name 6 rfl) (sB68 _ _ ng2b hq6) (by rw [List.length_map]; omega) fun H9 s9 => ?_
          refine re_addI (re_int (xv_name 8 rfl) fun Ha sa => ⟨x, rfl, ?_⟩)
          refine re_menu (n := 4) (fun _ _ => rfl) (by decide) ?_
          refine ra_int xv_int fun Hb sb => ?_
          refine ra_int (xd_mod (M := []) (xv_name 9 rfl).int xd_int (by decide)).vint fun Hc sc => ?_
          refine ra_int (xv_name 9 rfl) fun Hd sd => ?_
          refine ra_1 (re_int (xd_neg (M := []) (xv_name 9 rfl).int).vint fun He se => ⟨[0, far % 9, far, -far], rfl, rfl, fun l hl => ?_⟩)
          have s8e := ((((s9.trans sa).trans sb).trans sc).trans sd).trans se
          have hBe := hB8.up s8e (Nat.le_refl _)
          refine re_take GT FT hr (xv_name 0 rfl) xv_int (bag_new hBe hl) fun t4 Hf t40 t41 sBf hBf => ⟨t4, rfl, t40, t41, sBf _ _ (fun z => by subst z; exact hBe.some hl) upd_same, fun z hz => ⟨z, rfl, ?_⟩⟩
          have sB6f : SameB b H6 Hf := (sB68.trans (.of s8e)).trans ((sameB_new hl).trans sBf)
          refine ⟨sB6f _ _ ng2b hq6, rb_nil ⟨fun a o na e => ?_, ?_, ?_, qs ++ [x + z], _, _, _, ?_, by rw [List.length_append, hql]; rfl, (fun q hq => (List.mem_append.mp hq).elim (hqb q) fun e => by rw [List.mem_singleton.mp e]; exact nb_add hxb f0 f1 hz), rfl⟩⟩
          · rw [upd_ne (ne_of_none e hg20)]
            exact sB6f a o na (sB a o na e)
          · obtain ⟨gg, m, c, e1, e2, e3, e4, e5⟩ := hBf
            exact ⟨gg, m, c, by rw [upd_ne (Ne.symm ng2b)]; exact e1, e2, e3, e4, by omega⟩
          · rw [upd_ne (Ne.symm ng2)]
            exact sB6f _ _ ngb hg6
          · rw [List.map_append]
            exact upd_same
      · obtain ⟨sB, hBi, hg6, qs, a7, a8, a9, hq6, hql, hqb, rfl⟩ := w
        have L6 : Live (b :: M) H6 := live_bag L sB hBi
        have hp6 := hp.up (sB.hid (M := b :: M) (List.mem_cons_self ..))
        have ngM : g2 ∉ b :: M := fun z => by
          rcases List.mem_cons.mp z with e | z
          · exact ng2b e
          · exact L g2 z hg20
        have kq : Dq K (hid (b :: M) H6) (.ref g2) (.list (qs.map PyData.int)) := .lst (by rw [hid_of ngM]; exact hq6) (ints_dq _)
        have hsl : (srt qs).length ≤ N := by have := srt_len qs; omega
        have hs1 : 1 ≤ (srt qs).length := by
          cases qs with
          | nil => simp at hql; omega
          | cons x xs =>
            have hm : x ∈ srt (x :: xs) := srt_mem.mpr (List.mem_cons_self ..)
            cases hh : srt (x :: xs) with
            | nil => rw [hh] at hm; cases hm
            | cons _ _ => exact Nat.succ_le_succ (Nat.zero_le _)
        refine rb_retR (XL.go (M := b :: M) ((xl_comp (own := [("_law_moment", 4)]) (fun d => match d with | .int m => some (PyData.tuple [.int m, .int (m + fo + sumJ m st)]) | _ => none) L6 scLLog.nd (XL.dd (xl_sortedOf (ks := qs) (ns := srt qs) qs hS hT L6 (xd_name 6 rfl kq) (by omega) (by omega) (fun _ h => h) (srt_asc _) (fun _ => srt_mem)) L6)
          (blkOk_by (own := [("_law_moment", 4)]) (N := llN) (sc := defScope sLLog) (by decide +kernel)) (by rw [List.length_map]; omega) (fun p d v H7 hd hpp s7 L7 hv => ?cmp)).to (fm_read (fun m => m + fo + sumJ m st) (srt qs))) fun p xs H7 s7 hpn h7 hx => q (srt qs) p xs H7 (srt_asc _) hs1 hsl (fun m hm => hqb m (srt_mem.mp hm)) (sB.trans (.of s7)) (hBi.up s7 (by omega)) (by
          cases z : H p with
          | none => rfl
          | some o => rw [sB p o (fun e => hBi.some (e ▸ hpn)) z] at hpn; cases hpn) h7 hx)
        obtain ⟨m, _, rfl⟩ := List.mem_map.mp hd
        have em := dp_int hv
        subst em
        have hp7 : Dq K (hid (p :: b :: M) H7) vp (planD fo st) := hp6.up (hid_step (M := b :: M) hpp s7)
        intro s0 H0 C0 cl fp
        refine rg_name 4 ?_ scLLog.nd
        refine ⟨rfl, bt_nil ⟨Same.refl _, .inl ⟨rfl, _, rfl, fun s0 H0 C0 cl fp => ?_⟩⟩⟩
        exact XD.go (xd_tup L7 (xa_cons (xv_name 4 rfl).int (xa_cons (xd_call L7 GE hr FE.g FE.F.kp FE.b (xa_cons (xd_name 1 rfl hp7) (xa_cons (xv_name 4 rfl).int xa_nil)) ⟨fo, st, m, rfl, by omega, rfl⟩) xa_nil))) fun v H2 s2 hv2 => ⟨s2, hv2⟩
end
end Zn

set_option Elab.async false
set_option linter.all false
set_option maxRecDepth 100000
set_option maxHeartbeats 8000000
namespace Zn
open PySem PySem.Spec PyProof.Rows L2 Dl
open Pm (Pl Pt pt withC longN over upto allP nextM)
/-! what the law asks of the told answers: rules and reasons -/
/-! ### data that can be shown -/
structure Sm (k W : Nat) (d : PyData) : Prop where
  ls : d.leavesShort 20 = true
  sh : d.showable = true
  nd : d.hasDict = false
  dp : d.depth ≤ k
  wt : d.weight ≤ W
theorem sm_int {i : Int} (h : i.natAbs < 10 ^ 13) : Sm 0 64 (.int i) := by
  have e := int_text_length_le10 (k := 13) (by decide) h
  have hl : i.natAbs.log2 < 50 := by
    by_cases z : i.natAbs = 0
    · rw [z]; decide
    · rw [Nat.log2_lt z]
      exact Nat.lt_trans h (by decide)
  refine ⟨?_, ?_, rfl, Nat.le_refl _, ?_⟩
  · simp only [PyData.leavesShort, decide_eq_true_eq]
    show (Str.ofString (toString i)).length ≤ 20
    rw [PySem.ofString_length]; omega
  · simp only [PyData.showable, decide_eq_true_eq]; omega
  · simp only [PyData.weight]
    split <;> omega
theorem sm_all {k W : Nat} : ∀ {xs : List PyData}, (∀ x ∈ xs, Sm k W x) → PyData.leavesShortAll 20 xs = true ∧ PyData.showableAll xs = true ∧ PyData.hasDictAll xs = false ∧ PyData.depthAll xs ≤ k ∧ PyData.weightAll xs ≤ (W + 1) * xs.length
  | [], _ => ⟨rfl, rfl, rfl, Nat.zero_le _, Nat.zero_le _⟩
  | x :: xs, h => by
    have a := h x (List.mem_cons_self ..)
    obtain ⟨b1, b2, b3, b4, b5⟩ := sm_all (xs := xs) fun y hy => h y (List.mem_cons_of_mem _ hy)
    refine ⟨?_, ?_, ?_, ?_, ?_⟩
    · simp only [PyData.leavesShortAll, a.ls, b1, Bool.and_self]
    · simp only [PyData.showableAll, a.sh, b2, Bool.and_self]
    · simp only [PyData.hasDictAll, a.nd, b3, Bool.or_self]
    · simp only [PyData.depthAll]; have := a.dp; omega
    · simp only [PyData.weightAll, List.length_cons, Nat.mul_add]; have := a.wt; omega
theorem sm_list {k W n : Nat} {xs : List PyData} (h : ∀ x ∈ xs, Sm k W x) (hn : xs.length ≤ n) : Sm (k + 1) ((W + 1) * n) (.list xs) := by
  obtain ⟨b1, b2, b3, b4, b5⟩ := sm_all h
  refine ⟨by simpa only [PyData.leavesShort] using b1, by simpa only [PyData.showable] using b2, by simpa only [PyData.hasDict] using b3, by simp only [PyData.depth]; omega, ?_⟩
  simp only [PyData.weight]
  exact Nat.le_trans b5 (Nat.mul_le_mul_left _ hn)
theorem sm_tup {k W n : Nat} {xs : List PyData} (h : ∀ x ∈ xs, Sm k W x) (hn : xs.length ≤ n) : Sm (k + 1) ((W + 1) * n) (.tuple xs) := by
  obtain ⟨b1, b2, b3, b4, b5⟩ := sm_all h
  refine ⟨by simpa only [PyData.leavesShort] using b1, by simpa only [PyData.showable] using b2, by simpa only [PyData.hasDict] using b3, by simp only [PyData.depth]; omega, ?_⟩
  simp only [PyData.weight]
  exact Nat.le_trans b5 (Nat.mul_le_mul_left _ hn)
theorem Sm.up {k W k' W' : Nat} {d : PyData} (h : Sm k W d) (h1 : k ≤ k') (h2 : W ≤ W') : Sm k' W' d := ⟨h.ls, h.sh, h.nd, Nat.le_trans h.dp h1, Nat.le_trans h.wt h2⟩
theorem Sm.fit {k W : Nat} {d : PyData} (h : Sm k W d) (hW : W ≤ 500000) : d.shown.length ≤ sizeLine := by
  have e := PyData.shown_le 20 (by decide) d h.ls
  have := h.wt
  rw [sizeLine_eq]
  omega
theorem sm_pair {a b : Int} (h1 : a.natAbs < 10 ^ 13) (h2 : b.natAbs < 10 ^ 13) : Sm 1 130 (.tuple [.int a, .int b]) := sm_tup (k := 0) (W := 64) (n := 2) (fun x hx => by
  simp only [List.mem_cons, List.not_mem_nil, or_false] at hx
  rcases hx with e | e
  · rw [e]; exact sm_int h1
  · rw [e]; exact sm_int h2) (by simp)
/-- the offsets of a plan's rows are small -/
def gZs : PyData → PyData → PyData
  | .tuple [x, _], y => .tuple [x, y]
  | _, _ => .none
theorem zs_rows : ∀ (f : Int) (st : List Step), List.zipWith gZs ((rowsP f st).map chD) ((rowsP f st).map fun r => PyData.int (jmp r)) = st.map stepD
  | _, [] => rfl
  | f, s :: st => by
    rw [rowsP_cons, List.map_cons, List.map_cons, List.zipWith_cons_cons, zs_rows (f + s.2) st, List.map_cons]
    have e : f + s.2 - f = s.2 := by omega
    show PyData.tuple [.int s.1, .int (f + s.2 - f)] :: _ = stepD s :: _
    rw [e]
    rfl
section
variable {X : Cx} {M : List Addr} {σ : L2.St} {H : Hp} {a b e o elt : Expr} {v : V} {pos p1 p2 p3 tpos py spos apos : Pos} {D : Ends} {rest : List Stmt} {x : Str} {scope : Scope} {own : List (Str × Nat)} {ds ds2 : List PyData} {C f : Addr} {fd : FuncData} {rs : List Row} {off : Int} {k1 k2 : Bool}
/-- x = [.. for (x, y) in zip(a, b)], on one line -/
theorem rb_setZip (i : Nat) {elts : List Expr} {kk : Nat} (g : PyData → PyData → PyData) (hm : X.mg "zip" = none) (L : Live M H) (hN : X.N.Nodup) (ha : XD X M σ H a (.list ds)) (hb : XD X M σ H b (.list ds2)) (ok : BlkOk X.N X.env.scope scope own) (hz : ds.length ≤ 100000)
    (hst : ∀ p (i : Nat) d d2 T y z H1, ds[i]? = some d → ds2[i]? = some d2 → H p = none → Same H H1 → Live (p :: M) H1 → Dq X.K (hid (p :: M) H1) y d → Dq X.K (hid (p :: M) H1) z d2 → H1 T = some (.tup [y, z]) → BG X scope (.Tuple elts kk tpos) (.ref T) (wipe σ (own.map (·.2))) H1 fun τ H2 => wipe τ (own.map (·.2)) = wipe σ (own.map (·.2)) ∧ Same H1 H2 ∧
      BE X scope elt τ H2 fun u H3 => Same H2 H3 ∧ Dq X.K (hid (p :: M) H3) u (g d d2))
    (q : ∀ p xs H2, Same H H2 → H p = none → H2 p = some (.lst xs) → DqAll X.K (hid M H2) xs (List.zipWith g ds ds2) → RB X rest D (σ.set i (some (.ref p))) H2)
    (hi : X.N[i]? = some x := by rfl) (hx : X.env.scope.names.lookup x = some .local := by rfl) (hsw : swapsWith (.ListComp elt [⟨.Tuple elts kk tpos, .Call (.Name "zip" p1) [a, b] [] p2, [], 0⟩] scope pos) (some (.Name x py)) spos.line X.env = pure true := by exact sw_true rfl rfl rfl rfl)
    (hc : X.calm = true := by rfl) (hs : ∀ x, foldedSetIterable (.Call (.Name "zip" p1) [a, b] [] p2) X.env x = pure x := by intro _; rfl) (hg : Gl X "zip" := by rfl) (he : starEach [a, b] X.env = (false, eval a X.env) :: starEach [b] X.env := by rfl) (he2 : starEach [b] X.env = (false, eval b X.env) :: starEach [] X.env := by rfl) (hpl : (backTo p2 (starEach [b] X.env)).any (·.1) = false := by rfl) :
    RB X (.Assign [.Name x py] (.ListComp elt [⟨.Tuple elts kk tpos, .Call (.Name "zip" p1) [a, b] [] p2, [], 0⟩] scope pos) spos :: rest) D σ H :=
  ⟨_, pss_cons (ps_setLc (own := own) hc hN hi hx hsw (pi_zip hg hm ra_ he hpl) ok (fun _ _ _ _ _ => bg_) (fun _ _ _ _ _ => bt_) (fun _ _ _ _ _ => be_) hs) rb_,
    lc_zip (own := own) (Q := fun v H1 => RB X rest D (σ.set i (some v)) H1) g L ha hb hz hst q he he2⟩
theorem xd_first {pp : Addr} (L : Live M H) (hc : Cls X.K C) (hp : PropOf X.K C "first" pp f) (F : FnOk X.prog X.w X.K X.mg X.base CX0 1 f fd ["self"] (spMD X.K C fun off _ => .int off)) (hr : Room 2 X.A) (hb : Binds X.K fd ["self"] [])
    {pa : Addr} (ho : XV X σ H o (.ref pa)) (hz : ZAt X.K C (hid M H) pa off rs) (hlen : rs.length ≤ 1000) (hab : attributeBase o "first" X.env (eval o X.env) = eval o X.env := by rfl) : XD X M σ H (.Attribute o "first" pos) (.int off) := fun H1 s Q q => by
  have hz0 := hz
  obtain ⟨dx, r, e1, e2⟩ := hz
  exact re_prop (ho.up s) (s _ _ (hid_le _ _ e1)) hc hp F hr hb (fun H2 s2 => ⟨M, pa, off, rs, rfl, L.mono (s.trans s2), hz0.up (hid_mono (s.trans s2)), hlen, fun v H3 s3 hv => q v H3 (s2.trans s3) hv⟩) hab
theorem xd_notNoneV {j} (ha : XV X σ H a v) (hm : behindInMarks .IsNot (.Constant .none j p1) = false := by rfl) : XD X M σ H (.Compare a [.IsNot] [.Constant .none j p1] pos) (.bool (!decide (v = .non))) := fun H1 s Q q =>
  ⟨_, pe_cmpR op_notN re_ re_ hm, ha H1 s _ fun H2 s2 => (xd_non (M := M)) H2 (Same.refl _) _ fun w H3 s3 hw => ⟨dp_non hw, q _ H3 (s2.trans s3) (.bl _)⟩⟩
theorem xd_isNoneV {j} (ha : XV X σ H a v) (hm : behindInMarks .Is (.Constant .none j p1) = false := by rfl) : XD X M σ H (.Compare a [.Is] [.Constant .none j p1] pos) (.bool (decide (v = .non))) := fun H1 s Q q =>
  ⟨_, pe_cmpR op_isN re_ re_ hm, ha H1 s _ fun H2 s2 => (xd_non (M := M)) H2 (Same.refl _) _ fun w H3 s3 hw => ⟨dp_non hw, q _ H3 (s2.trans s3) (.bl _)⟩⟩
theorem xt_isNoneV {j} (ha : XV X σ H a v) (hm : behindInMarks .Is (.Constant .none j p1) = false := by rfl) : XT X σ H (.Compare a [.Is] [.Constant .none j p1] pos) (decide (v = .non)) := fun H1 s Q q =>
  ⟨_, pt_cmpR op_isN re_ re_ hm, ha H1 s _ fun H2 s2 => (xd_non (M := [])) H2 (Same.refl _) _ fun w H3 s3 hw => ⟨dp_non hw, _, rfl, q H3 (s2.trans s3)⟩⟩
theorem xt_neBB (ha : XD X M σ H a (.bool k1)) (hb : XD X M σ H b (.bool k2)) : XT X σ H (.Compare a [.NotEq] [b] pos) (!decide (k1 = k2)) :=
  xt_cmp op_ne ha hb fun H1 v w s hv hw Q q => by
    rw [dp_bl hv, dp_bl hw]
    refine ⟨rfl, ?_⟩
    have e : decide (V.bl k1 = V.bl k2) = decide (k1 = k2) := by
      by_cases z : k1 = k2
      · subst z; simp
      · rw [decide_eq_false z, decide_eq_false fun q => z (V.bl.inj q)]
    rw [e]
    exact q H1 (Same.refl _)
/-- repr of a pair of numbers, of None -/
def txC (d : PyData) : Str := match d with
  | .tuple ds => (PyData.tuple ds).shown
  | d => txt d
theorem xd_reprC {c : Option (Nat × Nat)} (hA : X.A.guards = some []) (hu : X.A.units + 64 < cLine) (hm : X.mg "repr" = none) (hc : ∀ a d, c = some (a, d) → a + d < 1000) (ha : XD X M σ H e (clashD c)) (hg : Gl X "repr" := by rfl)
    (he : starEach [e] X.env = (false, eval e X.env) :: starEach [] X.env := by rfl) (hpl : (backTo p2 (starEach [] X.env)).any (·.1) = false := by rfl) : XD X M σ H (.Call (.Name "repr" p1) [e] [] p2) (.str (txC (clashD c))) := by
  cases c with
  | none => exact xd_reprP hm (.inl rfl) ha hg he hpl
  | some y =>
    obtain ⟨a, d⟩ := y
    have hlt := hc a d rfl
    have sm := sm_pair (a := (a : Int)) (b := (a : Int) + (d : Int)) (by omega) (by omega)
    exact fun H1 s Q q => re_B (call_reprD hA hu) (ra_1 (ha H1 s _ fun v H2 s2 hv => by
      obtain ⟨p, xs, rfl, hp, hx⟩ := dp_tup hv
      exact ⟨p, _, rfl, (hv.up hid_le).dp, sm.sh, sm.nd, Nat.le_trans sm.dp (by decide), sm.fit (by decide), q _ H2 s2 (.str _)⟩) he) hm (by decide +kernel) hg (by decide) (by decide) he hpl
end
theorem first_lt {p : Nat → Bool} : ∀ {n i : Nat}, first p n = some i → i < n ∧ p i = true
  | 0, i, h => by unfold first at h; cases h
  | n + 1, i, h => by
    unfold first at h
    cases e : first p n with
    | some j =>
      rw [e] at h
      cases h
      have := first_lt e
      exact ⟨by omega, this.2⟩
    | none =>
      rw [e] at h
      simp only at h
      split at h
      · cases h; exact ⟨by omega, by assumption⟩
      · cases h
theorem clashF_lt {bad : Nat → Nat → Bool} {N a d : Nat} (h : clashF bad N = some (a, d)) : a + d < N := by
  unfold clashF at h
  cases e : first (fun d => (inn bad N d).isSome) N with
  | none => rw [e] at h; cases h
  | some j =>
    rw [e] at h
    simp only at h
    cases e2 : inn bad N j with
    | none => rw [e2] at h; cases h
    | some i =>
      rw [e2] at h
      cases h
      have h1 := (first_lt e).1
      have h2 := (first_lt e2).1
      omega
/-! zones and their logs -/
theorem fz_plan {k : Kd} {es : List Step} {f : Int} {st : List Step} (ko : KOk k) (ha : Ascd es) (h1 : 1 ≤ es.length) (h : Fz k es f st) : allP (isort k.js) k.ap k.mo (ptsOf es) (es.length - 1) ≠ [] := fun z => by
  obtain ⟨p, hp, _⟩ := zone_plan ko (asc_pts ha) h.of h.len (fun i hi o ho => by
    have hei : es[i]? = some (es[i]'(by omega)) := List.getElem?_eq_getElem (by omega)
    rw [pts_at hei] at ho ⊢
    cases ho
    exact h.at_ _ (List.mem_of_getElem? hei))
  rw [z] at hp
  cases hp
theorem sub_mem {es : List Step} {a d : Nat} {e : Step} (h : e ∈ sub es a d) : e ∈ es := List.mem_of_mem_drop (List.mem_of_mem_take h)
theorem fz_sub {k : Kd} {es : List Step} {f : Int} {st : List Step} (h : Fz k es f st) (a d : Nat) : Fz k (sub es a d) f st := ⟨h.of, h.len, fun e he => h.at_ e (sub_mem he)⟩
theorem fz_good {k : Kd} {es : List Step} {f : Int} {st : List Step} (ko : KOk k) (ha : Ascd es) {a d : Nat} (hl : a + d < es.length) (h : Fz k (sub es a d) f st) : badP k es a d = false := by
  unfold badP
  have e : allP (isort k.js) k.ap k.mo (ptsOf (sub es a d)) d ≠ [] := by
    have := fz_plan ko (sub_asc ha a d) (by rw [sub_len hl]; omega) h
    rw [sub_len hl] at this
    exact this
  cases z : allP (isort k.js) k.ap k.mo (ptsOf (sub es a d)) d with
  | nil => exact absurd z e
  | cons _ _ => rfl
theorem fz_clash {k : Kd} {es : List Step} {f : Int} {st : List Step} (ko : KOk k) (ha : Ascd es) (h : Fz k es f st) : clashF (badP k es) es.length = none := by
  unfold clashF
  have e : first (fun d => (inn (badP k es) es.length d).isSome) es.length = none := first_none fun d hd => by
    have e2 : inn (badP k es) es.length d = none := first_none fun a ha2 => fz_good ko ha (by omega) (fz_sub h a d)
    rw [e2]
    rfl
  rw [e]
theorem fit_reads (f : Int) (st es : List Step) : fitB f st es = readsB es f st := by
  have h : fitB f st es = true ↔ readsB es f st = true := by
    rw [reads_iff]
    unfold fitB
    rw [List.all_eq_true]
    constructor
    · intro h e he
      have := of_decide_eq_true (h e he)
      omega
    · intro h e he
      have := h e he
      exact decide_eq_true (by omega)
  cases e1 : fitB f st es <;> cases e2 : readsB es f st <;> rw [e1, e2] at h <;> simp at h ⊢
theorem good_fits {k : Kd} {es : List Step} {p : Pl} {f : Int} (h : PGood k es p f) : fitB f (Pm.steps p) es = true := by
  rw [fit_reads, reads_iff]
  exact h.at_
/-! the log of twelve entries -/
def longA : List Step := (List.range 11).map fun i : Nat => ((10 * (i : Int), 10 * (i : Int) + 5) : Step)
def longE : List Step := longA ++ [(110, 116)]
theorem long_asc : Ascd longE := by unfold Ascd longE longA; decide
theorem long_len : longE.length = 12 := by decide
theorem sumJ_dvd {m : Int} : ∀ {st : List Step}, (∀ s ∈ st, (15 : Int) ∣ s.2) → (15 : Int) ∣ sumJ m st
  | [], _ => ⟨0, rfl⟩
  | s :: st, h => by
    obtain ⟨c, hc⟩ := sumJ_dvd (m := m) (st := st) fun t ht => h t (List.mem_cons_of_mem _ ht)
    obtain ⟨d, hd⟩ := h s (List.mem_cons_self ..)
    unfold sumJ
    split
    · exact ⟨d + c, by omega⟩
    · exact ⟨c, by omega⟩
theorem stock_dvd : ∀ js ∈ stock7, (1 : Int) ∉ js → ∀ j ∈ js, (15 : Int) ∣ j := by
  intro js h n
  unfold stock7 at h
  have h' : js = [60, -60] ∨ js = [60] ∨ js = [-30, 45] ∨ js = [1] ∨ js = [720, -720] ∨ js = [60, -60, 30, -30] ∨ js = [45, -30, 15] := by simpa using h
  rcases h' with e | e | e | e | e | e | e
  · rw [e]; decide
  · rw [e]; decide
  · rw [e]; decide
  · rw [e] at n; simp at n
  · rw [e]; decide
  · rw [e]; decide
  · rw [e]; decide
theorem long_not {k : Kd} (hs : k.js ∈ stock7) (hn : ¬((1 : Int) ∈ k.js ∧ 0 < k.mo)) {es : List Step} {f : Int} {st : List Step} (h : Fz k es f st) (h1 : ((100, 105) : Step) ∈ es) (h2 : ((110, 116) : Step) ∈ es) : False := by
  have hd : ∀ s ∈ st, (15 : Int) ∣ s.2 := by
    by_cases z : (1 : Int) ∈ k.js
    · have hl := h.len
      have : st = [] := by
        cases st with
        | nil => rfl
        | cons s st =>
          rw [List.length_cons] at hl
          exact absurd ⟨z, by omega⟩ hn
      rw [this]
      intro s hs
      cases hs
    · exact fun s hs2 => stock_dvd _ hs z _ (h.of.js s hs2)
  obtain ⟨c, hc⟩ := sumJ_dvd (m := 100) hd
  obtain ⟨d, hd⟩ := sumJ_dvd (m := 110) hd
  have a1 := h.at_ _ h1
  have a2 := h.at_ _ h2
  simp only at a1 a2
  omega
theorem long_one {k : Kd} (h1 : (1 : Int) ∈ k.js) (h2 : 0 < k.mo) : Fz k longE 5 [(110, 1)] := by
  refine ⟨⟨fun s hs => ?_, fun i s t a b => ?_⟩, ?_, by decide⟩
  · rw [List.mem_singleton.mp hs]; exact h1
  · have := (List.getElem?_eq_some_iff.mp b).1
    simp at this
  · show ((1 : Nat) : Int) ≤ k.mo
    omega
theorem fz_const {k : Kd} (h0 : 0 ≤ k.mo) {es : List Step} {c : Int} (h : ∀ e ∈ es, e.2 - e.1 = c) : Fz k es c [] := ⟨ofK_nil k, h0, fun e he => by have := h e he; unfold sumJ; omega⟩
theorem long_none {k : Kd} (ko : KOk k) (hs : k.js ∈ stock7) (hn : ¬((1 : Int) ∈ k.js ∧ 0 < k.mo)) : allP (isort k.js) k.ap k.mo (ptsOf longE) (longE.length - 1) = [] := by
  cases e : allP (isort k.js) k.ap k.mo (ptsOf longE) (longE.length - 1) with
  | nil => rfl
  | cons p ps =>
    obtain ⟨f, g⟩ := plan_good ko long_asc (by decide) (show p ∈ allP (isort k.js) k.ap k.mo (ptsOf longE) (longE.length - 1) by rw [e]; exact List.mem_cons_self ..)
    exact (long_not hs hn ⟨g.of, g.len, g.at_⟩ (by decide) (by decide)).elim
theorem long_clash {k : Kd} (ko : KOk k) (hs : k.js ∈ stock7) (hn : ¬((1 : Int) ∈ k.js ∧ 0 < k.mo)) : clashF (badP k longE) longE.length = some (10, 1) := by
  have i0 : inn (badP k longE) longE.length 0 = none := first_none fun a ha => by
    refine fz_good (f := ((longE[a]?).getD (0, 0)).2 - ((longE[a]?).getD (0, 0)).1) (st := []) ko long_asc (by omega) (fz_const ko.m0 fun e he => ?_)
    have hal : a < longE.length := by omega
    unfold sub at he
    rw [List.drop_eq_getElem_cons hal] at he
    change e ∈ longE[a] :: List.take 0 _ at he
    rw [List.take_zero] at he
    rw [List.mem_singleton.mp he, List.getElem?_eq_getElem hal]
    rfl
  have b10 : badP k longE 10 1 = true := by
    unfold badP
    cases e : allP (isort k.js) k.ap k.mo (ptsOf (sub longE 10 1)) 1 with
    | nil => rfl
    | cons p ps =>
      obtain ⟨f, g⟩ := plan_good ko (sub_asc long_asc 10 1) (by decide) (show p ∈ allP (isort k.js) k.ap k.mo (ptsOf (sub longE 10 1)) ((sub longE 10 1).length - 1) by
        have e2 : (sub longE 10 1).length - 1 = 1 := by decide
        rw [e2, e]; exact List.mem_cons_self ..)
      exact (long_not hs hn ⟨g.of, g.len, g.at_⟩ (by decide) (by decide)).elim
  have c10 : ∀ a, a < 10 → ∀ e ∈ sub longE a 1, e.2 - e.1 = 5 := by decide
  have i1 : inn (badP k longE) longE.length 1 = some 10 := first_hit (first_none fun a ha => fz_good (f := 5) (st := []) ko long_asc (by rw [long_len]; omega) (fz_const ko.m0 (c10 a ha))) b10 (by rw [long_len]; decide)
  unfold clashF
  have e : first (fun d => (inn (badP k longE) longE.length d).isSome) longE.length = some 1 := first_hit (k := 1) (first_none fun d hd => by
    have : d = 0 := by omega
    subst this
    rw [i0]
    rfl) (by rw [i1]; rfl) (by rw [long_len]; decide)
  rw [e]
  show (inn (badP k longE) longE.length 1).map _ = _
  rw [i1]
  rfl
end Zn

set_option Elab.async false
set_option linter.all false
set_option maxRecDepth 100000
set_option maxHeartbeats 8000000
/-! k35: the offset of a plan at a point -/
namespace Pm
section
variable {js : List Int} {ap mo : Int} {pts : List Pt}
def SlotOk (pts : List Pt) (s : Nat) (p : Pl) : Prop := p.sl.length = p.ea.length ∧ ∀ (i : Nat) (m z : Int), p.ea[i]? = some m → p.sl[i]? = some z → ∃ r : Nat, z = (r : Int) ∧ r < s ∧ (pt pts r).1 < m ∧ m ≤ (pt pts (r + 1)).1
theorem withC_slot {s : Nat} {p q : Pl} (h : SlotOk pts (s + 1) p) (hq : q ∈ withC js ap pts s p) : SlotOk pts (s + 1) q := by
  obtain ⟨hl, h⟩ := h
  unfold withC at hq
  split at hq
  · cases hq
  · rename_i hn
    obtain ⟨j, _, rfl⟩ := List.mem_map.mp hq
    refine ⟨by simp [hl], fun i m z h1 h2 => ?_⟩
    simp only at h1 h2
    by_cases hi : i < p.ea.length
    · rw [List.getElem?_append_left hi] at h1
      rw [List.getElem?_append_left (by omega)] at h2
      exact h i m z h1 h2
    · have hlt := (List.getElem?_eq_some_iff.mp h1).1
      rw [List.length_append, List.length_singleton] at hlt
      have e : i = p.ea.length := by omega
      subst e
      rw [List.getElem?_append_right (Nat.le_refl _), Nat.sub_self] at h1
      rw [List.getElem?_append_right (by omega), hl, Nat.sub_self] at h2
      cases h1
      cases h2
      have := (next_ge (ap := ap) (pts := pts) (s := s) (p := p)).1
      exact ⟨s, rfl, by omega, by omega, by omega⟩
theorem long_slot {s : Nat} {p : Pl} (h : SlotOk pts (s + 1) p) : ∀ (c : Nat) (q : Pl), q ∈ longN js ap pts s p c → SlotOk pts (s + 1) q
  | 0, q, hq => by rw [List.mem_singleton.mp hq]; exact h
  | c + 1, q, hq => by
    obtain ⟨x, hx, hw⟩ := List.mem_flatMap.mp hq
    exact withC_slot (long_slot h c x hx) hw
theorem all_slot : ∀ (s : Nat) (p : Pl), p ∈ allP js ap mo pts s → SlotOk pts s p
  | 0, p, hp => by
    rw [List.mem_singleton.mp hp]
    exact ⟨rfl, fun i m z h => by simp at h⟩
  | s + 1, p, hp => by
    obtain ⟨x, hx, hp⟩ := List.mem_flatMap.mp hp
    obtain ⟨y, hy, hx⟩ := List.mem_flatMap.mp hx
    obtain ⟨c, hc, hx⟩ := List.mem_flatMap.mp hx
    obtain ⟨l, hs⟩ := all_slot s y hy
    obtain ⟨l2, h2⟩ := long_slot (js := js) (ap := ap) (p := y) ⟨l, fun i m z a b => by
      obtain ⟨r, e, hr, h⟩ := hs i m z a b
      exact ⟨r, e, by omega, h⟩⟩ c x hx
    obtain ⟨_, e2, e3⟩ := upto_hp hp
    exact ⟨by rw [e2, e3]; exact l2, by rw [e2, e3]; exact h2⟩
/-- the jumps of the slots before one -/
def offB (idx : Nat) (sl hp : List Int) : Int := (((sl.zip hp).filter fun x => decide (x.1 < (idx : Int))).map (·.2)).sum
theorem slot_sum {idx : Nat} {M : Int} : ∀ (ea sl hp : List Int), sl.length = ea.length → hp.length = ea.length → (∀ (i : Nat) (m z : Int), ea[i]? = some m → sl[i]? = some z → (m ≤ M ↔ z < (idx : Int))) → sumLe (ea.zip hp) M = offB idx sl hp
  | [], [], [], _, _, _ => rfl
  | m :: ea, z :: sl, j :: hp, h1, h2, h => by
    have e := slot_sum (idx := idx) (M := M) ea sl hp (by simpa using h1) (by simpa using h2) fun i m z a b => h (i + 1) m z (by simpa using a) (by simpa using b)
    have h0 := h 0 m z rfl rfl
    rw [List.zip_cons_cons, sumLe_cons, e]
    unfold offB
    rw [List.zip_cons_cons, List.filter_cons]
    by_cases g : m ≤ M
    · rw [if_pos g, if_pos (decide_eq_true (h0.mp g)), List.map_cons, List.sum_cons]
    · rw [if_neg g, if_neg (by simpa using fun q => g (h0.mpr q)), Int.zero_add]
  | [], _ :: _, _, h1, _, _ => by simp at h1
  | _ :: _, [], _, h1, _, _ => by simp at h1
  | [], [], _ :: _, _, h2, _ => by simp at h2
  | _ :: _, _ :: _, [], _, h2, _ => by simp at h2
theorem asc_le {n i j : Nat} (hA : Asc pts n) (h : i ≤ j) (hj : j ≤ n) : (pt pts i).1 ≤ (pt pts j).1 := by
  by_cases e : i = j
  · rw [e]; exact Int.le_refl _
  · exact Int.le_of_lt (hA i j (by omega) hj)
theorem slot_iff {n idx r : Nat} {m : Int} (hA : Asc pts n) (hi : idx ≤ n) (hr : r < n) (h1 : (pt pts r).1 < m) (h2 : m ≤ (pt pts (r + 1)).1) : m ≤ (pt pts idx).1 ↔ (r : Int) < (idx : Int) := by
  constructor
  · intro h
    by_cases g : r < idx
    · omega
    · have := asc_le hA (show idx ≤ r by omega) (by omega)
      omega
  · intro h
    have := asc_le hA (show r + 1 ≤ idx by omega) hi
    omega
end
end Pm
namespace Zn
open PySem PySem.Spec PyProof.Rows L2 Dl
open Pm (Pl Pt pt withC longN over upto allP nextM offB)
/-! the points of a log and a moment -/
def idxOf (es : List Step) (m : Int) : Nat := (es.filter fun e => decide (e.1 < m)).length
def gapB (es : List Step) (m : Int) : Bool := match es[idxOf es m]? with
  | none => true
  | some e => decide (e.1 > m)
def around (es : List Step) (m : Int) : List Pt := if gapB es m = true then (ptsOf es).take (idxOf es m) ++ [(m, none)] ++ (ptsOf es).drop (idxOf es m) else ptsOf es
theorem idx_le (es : List Step) (m : Int) : idxOf es m ≤ es.length := List.length_filter_le ..
theorem idx_pre {m : Int} : ∀ {es : List Step}, Ascd es → (∀ e ∈ es.take (idxOf es m), e.1 < m) ∧ ∀ e ∈ es.drop (idxOf es m), m ≤ e.1
  | [], _ => ⟨fun e h => by simp at h, fun e h => by simp at h⟩
  | a :: es, h => by
    obtain ⟨h1, h2⟩ := List.pairwise_cons.mp h
    obtain ⟨i1, i2⟩ := idx_pre (m := m) h2
    by_cases g : a.1 < m
    · have e : idxOf (a :: es) m = idxOf es m + 1 := by unfold idxOf; rw [List.filter_cons_of_pos (by simpa using g), List.length_cons]
      rw [e, List.take_succ_cons, List.drop_succ_cons]
      refine ⟨fun x hx => ?_, i2⟩
      rcases List.mem_cons.mp hx with z | z
      · rw [z]; exact g
      · exact i1 x z
    · have e : idxOf (a :: es) m = 0 := by
        unfold idxOf
        rw [List.filter_cons_of_neg (by simpa using g), List.filter_eq_nil_iff.mpr fun x hx => by have := h1 x hx; simp; omega]
        rfl
      rw [e, List.take_zero, List.drop_zero]
      refine ⟨fun x hx => by simp at hx, fun x hx => ?_⟩
      rcases List.mem_cons.mp hx with z | z
      · rw [z]; omega
      · have := h1 x z; omega
theorem gap_gt {es : List Step} {m : Int} (ha : Ascd es) (hg : gapB es m = true) : ∀ e ∈ es.drop (idxOf es m), m < e.1 := fun e he => by
  unfold gapB at hg
  cases z : es[idxOf es m]? with
  | none =>
    have := List.getElem?_eq_none_iff.mp z
    rw [List.drop_of_length_le this] at he
    cases he
  | some x =>
    rw [z] at hg
    have hx : x.1 > m := of_decide_eq_true hg
    obtain ⟨hl, hx2⟩ := List.getElem?_eq_some_iff.mp z
    have hp : Ascd (es.drop (idxOf es m)) := List.Pairwise.sublist (List.drop_sublist _ _) ha
    rw [List.drop_eq_getElem_cons hl, hx2] at he hp
    rcases List.mem_cons.mp he with q | q
    · rw [q]; exact hx
    · have := (List.pairwise_cons.mp hp).1 e q
      omega
theorem around_pw {es : List Step} {m : Int} (ha : Ascd es) : (around es m).Pairwise fun a b => a.1 < b.1 := by
  have hp : (ptsOf es).Pairwise fun a b => a.1 < b.1 := List.pairwise_map.mpr ha
  unfold around
  split
  · rename_i hg
    have h1 := (idx_pre (m := m) ha).1
    have h2 := gap_gt ha hg
    have e1 : (ptsOf es).take (idxOf es m) = ptsOf (es.take (idxOf es m)) := by unfold ptsOf; rw [List.map_take]
    have e2 : (ptsOf es).drop (idxOf es m) = ptsOf (es.drop (idxOf es m)) := by unfold ptsOf; rw [List.map_drop]
    have m1 : ∀ x ∈ (ptsOf es).take (idxOf es m), x.1 < m := fun x hx => by
      rw [e1] at hx
      obtain ⟨e, he, rfl⟩ := List.mem_map.mp hx
      exact h1 e he
    have m2 : ∀ x ∈ (ptsOf es).drop (idxOf es m), m < x.1 := fun x hx => by
      rw [e2] at hx
      obtain ⟨e, he, rfl⟩ := List.mem_map.mp hx
      exact h2 e he
    rw [List.append_assoc, List.singleton_append, List.pairwise_append]
    refine ⟨hp.sublist (List.take_sublist _ _), List.pairwise_cons.mpr ⟨m2, hp.sublist (List.drop_sublist _ _)⟩, fun x hx y hy => ?_⟩
    rcases List.mem_cons.mp hy with z | z
    · rw [z]; exact m1 x hx
    · have := m1 x hx; have := m2 y z; omega
  · exact hp
theorem around_len (es : List Step) (m : Int) : (around es m).length = if gapB es m = true then es.length + 1 else es.length := by
  have := idx_le es m
  have := pts_len es
  unfold around
  split
  · rw [List.length_append, List.length_append, List.length_take, List.length_drop, List.length_singleton]; omega
  · assumption
theorem around_mem {es : List Step} {m : Int} {x : Pt} : x ∈ around es m ↔ x ∈ ptsOf es ∨ (gapB es m = true ∧ x = (m, none)) := by
  unfold around
  split
  · rename_i hg
    rw [List.append_assoc, List.singleton_append, List.mem_append, List.mem_cons]
    constructor
    · rintro (h | h | h)
      · exact .inl (List.mem_of_mem_take h)
      · exact .inr ⟨hg, h⟩
      · exact .inl (List.mem_of_mem_drop h)
    · rintro (h | ⟨_, h⟩)
      · rw [← List.take_append_drop (idxOf es m) (ptsOf es), List.mem_append] at h
        rcases h with h | h
        · exact .inl h
        · exact .inr (.inr h)
      · exact .inr (.inl h)
  · rename_i hg
    exact ⟨.inl, fun h => h.elim id fun z => absurd z.1 hg⟩
theorem around_idx {es : List Step} {m : Int} (ha : Ascd es) : ∃ o, (around es m)[idxOf es m]? = some (m, o) := by
  have hl := idx_le es m
  have hp := pts_len es
  unfold around
  split
  · refine ⟨none, ?_⟩
    rw [List.append_assoc, List.singleton_append, List.getElem?_append_right (by rw [List.length_take]; omega), List.length_take, show idxOf es m - min (idxOf es m) (ptsOf es).length = 0 by omega]
    rfl
  · rename_i hg
    unfold gapB at hg
    cases z : es[idxOf es m]? with
    | none => rw [z] at hg; exact absurd rfl hg
    | some x =>
      rw [z] at hg
      have hx : ¬ x.1 > m := fun q => hg (decide_eq_true q)
      obtain ⟨hl2, hx2⟩ := List.getElem?_eq_some_iff.mp z
      have hmem : x ∈ es.drop (idxOf es m) := by rw [List.drop_eq_getElem_cons hl2, hx2]; exact List.mem_cons_self ..
      have := (idx_pre (m := m) ha).2 x hmem
      refine ⟨some (x.2 - x.1), ?_⟩
      unfold ptsOf
      rw [List.getElem?_map, z]
      show some (x.1, _) = some (m, _)
      rw [show x.1 = m by omega]
structure Arnd (es : List Step) (m : Int) (n : Nat) : Prop where
  len : (around es m).length = n + 1
  asc : Pm.Asc (around es m) n
  idx : idxOf es m ≤ n
  at_ : (pt (around es m) (idxOf es m)).1 = m
  has : ∀ e ∈ es, ∃ i, i ≤ n ∧ pt (around es m) i = (e.1, some (e.2 - e.1))
  known : ∀ i, i ≤ n → ∀ o, (pt (around es m) i).2 = some o → ∃ e ∈ es, (pt (around es m) i).1 = e.1 ∧ o = e.2 - e.1
  mom : ∀ i, i ≤ n → (pt (around es m) i).1 ∈ es.map (·.1) ++ [m]
theorem arnd {es : List Step} {m : Int} (ha : Ascd es) (h1 : 1 ≤ es.length) : Arnd es m ((around es m).length - 1) := by
  have hl := around_len es m
  have hl1 : 1 ≤ (around es m).length := by rw [hl]; split <;> omega
  obtain ⟨o, ho⟩ := around_idx (m := m) ha
  have hil := (List.getElem?_eq_some_iff.mp ho).1
  have get : ∀ i, i ≤ (around es m).length - 1 → pt (around es m) i ∈ around es m := fun i hi => by
    have hi' : i < (around es m).length := by omega
    unfold pt
    rw [List.getElem?_eq_getElem hi']
    exact List.getElem_mem hi'
  refine ⟨by omega, fun i j hij hj => ?_, by omega, ?_, fun e he => ?_, fun i hi o ho => ?_, fun i hi => ?_⟩
  · have hjl : j < (around es m).length := by omega
    have hil : i < (around es m).length := by omega
    unfold pt
    rw [List.getElem?_eq_getElem hil, List.getElem?_eq_getElem hjl]
    exact List.pairwise_iff_getElem.mp (around_pw ha) i j hil hjl hij
  · unfold pt; rw [ho]; rfl
  · have hm : ((e.1, some (e.2 - e.1)) : Pt) ∈ around es m := around_mem.mpr (.inl (List.mem_map.mpr ⟨e, he, rfl⟩))
    obtain ⟨i, hi⟩ := List.mem_iff_getElem?.mp hm
    have := (List.getElem?_eq_some_iff.mp hi).1
    exact ⟨i, by omega, by unfold pt; rw [hi]; rfl⟩
  · rcases around_mem.mp (get i hi) with h | ⟨_, h⟩
    · obtain ⟨e, he, q⟩ := List.mem_map.mp h
      rw [← q] at ho ⊢
      cases ho
      exact ⟨e, he, rfl, rfl⟩
    · rw [h] at ho; cases ho
  · rcases around_mem.mp (get i hi) with h | ⟨_, h⟩
    · obtain ⟨e, he, q⟩ := List.mem_map.mp h
      rw [← q]
      exact List.mem_append_left _ (List.mem_map.mpr ⟨e, he, rfl⟩)
    · rw [h]; exact List.mem_append_right _ (List.mem_singleton.mpr rfl)
def plansAt (k : Kd) (es : List Step) (m : Int) : List Pl := allP (isort k.js) k.ap k.mo (around es m) ((around es m).length - 1)
def offIn (p : Pl) (idx : Nat) : Int := p.base.getD 0 + offB idx p.sl p.hp
structure PAt (k : Kd) (es : List Step) (m : Int) (p : Pl) (f : Int) : Prop where
  base : p.base = some f
  fz : Fz k es f (Pm.steps p)
  sm : PlSm p
  ok : okS (Pm.steps p)
  off : offIn p (idxOf es m) = f + sumJ m (Pm.steps p)
  lens : p.sl.length = p.hp.length
  few : (p.hp.length : Int) ≤ k.mo
theorem plan_at {k : Kd} {es : List Step} {m : Int} {p : Pl} (ko : KOk k) (ha : Ascd es) (h1 : 1 ≤ es.length) (hp : p ∈ plansAt k es m) : ∃ f, PAt k es m p f ∧ (f, Pm.steps p) ∈ fitL k es [m] := by
  have ar := arnd (m := m) ha h1
  have hmm : k.mo = (k.mo.toNat : Int) := (Int.toNat_of_nonneg ko.m0).symm
  obtain ⟨g1, g2, g3⟩ := Pm.all_ok (Int.le_of_lt (floor_pos ko)) ko.m0 _ ar.asc p hp
  obtain ⟨s1, s2⟩ := Pm.all_slot _ p hp
  obtain ⟨e0, he0⟩ : ∃ e, e ∈ es := ⟨es[0]'(by omega), List.getElem_mem _⟩
  obtain ⟨i0, hi0, hp0⟩ := ar.has e0 he0
  obtain ⟨f, hb, _⟩ := g2 i0 hi0 _ (by rw [hp0])
  have of := of_ofK g1
  have l1 := g1.l1
  have l2 := g1.l2
  have fz : Fz k es f (Pm.steps p) := ⟨of, by unfold Pm.steps; rw [List.length_zip, g1.l1]; have := g1.len; omega, fun e he => by
    obtain ⟨i, hi, hpi⟩ := ar.has e he
    obtain ⟨b, hb2, hs⟩ := g2 i hi _ (by rw [hpi])
    rw [hb] at hb2
    cases hb2
    rw [hpi, sum_eq] at hs
    exact hs⟩
  have hoff : Pm.sumLe (Pm.steps p) m = offB (idxOf es m) p.sl p.hp := Pm.slot_sum p.ea p.sl p.hp s1 (by omega) fun i mm z a b => by
    obtain ⟨r, e, hr, q1, q2⟩ := s2 i mm z a b
    rw [e, ← Pm.slot_iff ar.asc ar.idx hr q1 q2, ar.at_]
  have sm := all_sm hmm (by have := ko.m1; omega) _ p hp
  refine ⟨f, ⟨hb, fz, sm, ofK_ok ko of, ?_, l2, g1.len⟩, fitL_has ko h1 sm.l1 fz fun mm hm => ?_⟩
  · unfold offIn
    rw [hb, ← hoff, sum_eq]
    rfl
  · obtain ⟨i, hi⟩ := List.mem_iff_getElem?.mp hm
    have li := (List.getElem?_eq_some_iff.mp hi).1
    obtain ⟨r, c, hr, hc, e⟩ := g1.anc i mm hi
    refine ⟨_, ar.mom r (by omega), c, ?_, e⟩
    have := g1.len
    omega
theorem zone_at {k : Kd} {es : List Step} {m f : Int} {st : List Step} (ko : KOk k) (ha : Ascd es) (h1 : 1 ≤ es.length) (h : Fz k es f st) : ∃ p ∈ plansAt k es m, offIn p (idxOf es m) = f + sumJ m st := by
  have ar := arnd (m := m) ha h1
  obtain ⟨p, hp, c1, c2, c3, c4, c5⟩ := zone_plan ko ar.asc h.of h.len fun i hi o ho => by
    obtain ⟨e, he, q1, q2⟩ := ar.known i hi o ho
    rw [q1, q2]
    exact h.at_ e he
  refine ⟨p, hp, ?_⟩
  obtain ⟨e0, he0⟩ : ∃ e, e ∈ es := ⟨es[0]'(by omega), List.getElem_mem _⟩
  obtain ⟨i0, hi0, hp0⟩ := ar.has e0 he0
  have hb : p.base = some (f + sumJ (pt (around es m) 0).1 st) := by
    rcases c5 with q | ⟨_, q⟩
    · exact q
    · have := q i0 hi0
      rw [hp0] at this
      cases this
  have hle : (pt (around es m) 0).1 ≤ m := by have := Pm.asc_le ar.asc (Nat.zero_le _) ar.idx; rwa [ar.at_] at this
  have hge : m ≤ (pt (around es m) ((around es m).length - 1)).1 := by have := Pm.asc_le ar.asc ar.idx (Nat.le_refl _); rwa [ar.at_] at this
  generalize hmd : mid (pt (around es m) 0).1 (pt (around es m) ((around es m).length - 1)).1 st = md at c1 c2 c3 c4
  have hz : md = (md.map (·.1)).zip (md.map (·.2)) := by
    rw [List.zip_map']
    simp
  have hoff : Pm.sumLe md m = offB (idxOf es m) p.sl p.hp := by
    rw [hz, c1]
    refine Pm.slot_sum _ p.sl _ (by rw [List.length_map]; exact c4) (by simp) fun i mm z a b => ?_
    rw [List.getElem?_map] at a
    cases et : md[i]? with
    | none => rw [et] at a; cases a
    | some t =>
      rw [et] at a
      cases a
      have hil := (List.getElem?_eq_some_iff.mp et).1
      have hea : p.ea[i]? = some (p.ea[i]'(by omega)) := List.getElem?_eq_getElem (by omega)
      obtain ⟨q1, r, hr, q2, q3, q4⟩ := c3 i _ t hea et
      rw [q2] at b
      cases b
      rw [← Pm.slot_iff ar.asc ar.idx hr (by omega) q4, ar.at_]
  unfold offIn
  rw [hb, ← hoff, sum_eq, ← hmd]
  have := sum_mid hle hge st
  show f + sumJ _ st + _ = _
  omega
/-- the offsets of the plans -/
def offsL (k : Kd) (es : List Step) (m : Int) : List Int := srt ((plansAt k es m).map fun p => offIn p (idxOf es m))
/-- the offsets of the law's zones -/
def dueL (k : Kd) (es : List Step) (m : Int) : List Int := srt ((fitL k es [m]).map fun x => x.1 + sumJ m x.2)
theorem offs_due {k : Kd} {es : List Step} {m : Int} (ko : KOk k) (ha : Ascd es) (h1 : 1 ≤ es.length) : offsL k es m = dueL k es m := by
  refine asc_eq (srt_asc _) (srt_asc _) fun o => ?_
  unfold offsL dueL
  rw [srt_mem, srt_mem, List.mem_map, List.mem_map]
  constructor
  · rintro ⟨p, hp, rfl⟩
    obtain ⟨f, pa, hm⟩ := plan_at ko ha h1 hp
    exact ⟨_, hm, pa.off.symm⟩
  · rintro ⟨⟨f, st⟩, hx, rfl⟩
    obtain ⟨p, hp, e⟩ := zone_at (m := m) ko ha h1 (fitL_sound ko hx)
    exact ⟨p, hp, e⟩
theorem offsL_mem {k : Kd} {es : List Step} {m o : Int} : o ∈ offsL k es m ↔ ∃ p ∈ plansAt k es m, offIn p (idxOf es m) = o := by
  unfold offsL
  rw [srt_mem, List.mem_map]
end Zn

set_option Elab.async false
set_option linter.all false
set_option maxRecDepth 100000
set_option maxHeartbeats 8000000
/-! k36: where the changes of a plan can lie -/
namespace Zn
open PySem PySem.Spec PyProof.Rows L2 Dl
open Pm (Pl Pt pt withC longN over upto allP nextM offB)
/-! a log with two more moments -/
def insP (m : Int) : List Pt → List Pt
  | [] => [(m, none)]
  | x :: xs => if m < x.1 then (m, none) :: x :: xs else if m = x.1 then x :: xs else x :: insP m xs
theorem insP_mem {m : Int} {x : Pt} : ∀ {pts : List Pt}, x ∈ insP m pts → x ∈ pts ∨ x = (m, none)
  | [], h => .inr (List.mem_singleton.mp h)
  | y :: ys, h => by
    unfold insP at h
    split at h
    · rcases List.mem_cons.mp h with z | z
      · exact .inr z
      · exact .inl z
    · split at h
      · exact .inl h
      · rcases List.mem_cons.mp h with z | z
        · exact .inl (by rw [z]; exact List.mem_cons_self ..)
        · exact (insP_mem z).imp (List.mem_cons_of_mem _) id
theorem insP_sub {m : Int} {x : Pt} : ∀ {pts : List Pt}, x ∈ pts → x ∈ insP m pts
  | y :: ys, h => by
    unfold insP
    split
    · exact List.mem_cons_of_mem _ h
    · split
      · exact h
      · rcases List.mem_cons.mp h with z | z
        · rw [z]; exact List.mem_cons_self ..
        · exact List.mem_cons_of_mem _ (insP_sub z)
theorem insP_has (m : Int) : ∀ pts : List Pt, ∃ x ∈ insP m pts, x.1 = m
  | [] => ⟨_, List.mem_singleton.mpr rfl, rfl⟩
  | y :: ys => by
    unfold insP
    split
    · exact ⟨_, List.mem_cons_self .., rfl⟩
    · split
      · rename_i h; exact ⟨y, List.mem_cons_self .., h.symm⟩
      · obtain ⟨x, hx, e⟩ := insP_has m ys
        exact ⟨x, List.mem_cons_of_mem _ hx, e⟩
theorem insP_pw {m : Int} : ∀ {pts : List Pt}, pts.Pairwise (fun a b => a.1 < b.1) → (insP m pts).Pairwise fun a b => a.1 < b.1
  | [], _ => List.pairwise_singleton _ _
  | y :: ys, h => by
    obtain ⟨h1, h2⟩ := List.pairwise_cons.mp h
    unfold insP
    split
    · rename_i g
      refine List.pairwise_cons.mpr ⟨fun x hx => ?_, h⟩
      rcases List.mem_cons.mp hx with z | z
      · rw [z]; exact g
      · have := h1 x z; show m < x.1; omega
    · split
      · exact h
      · rename_i g1 g2
        refine List.pairwise_cons.mpr ⟨fun x hx => ?_, insP_pw h2⟩
        rcases insP_mem hx with z | z
        · exact h1 x z
        · rw [z]; show y.1 < m; omega
structure Cov (es : List Step) (more : List Int) (pts : List Pt) (n : Nat) : Prop where
  asc : Pm.Asc pts n
  has : ∀ e ∈ es, ∃ i, i ≤ n ∧ pt pts i = (e.1, some (e.2 - e.1))
  known : ∀ i, i ≤ n → ∀ o, (pt pts i).2 = some o → ∃ e ∈ es, (pt pts i).1 = e.1 ∧ o = e.2 - e.1
  mom : ∀ i, i ≤ n → (pt pts i).1 ∈ es.map (·.1) ++ more
  all : ∀ m ∈ more, ∃ i, i ≤ n ∧ (pt pts i).1 = m
theorem cov_of {es : List Step} {more : List Int} {pts : List Pt} (hp : pts.Pairwise fun a b => a.1 < b.1) (h1 : 1 ≤ pts.length) (hs : ∀ x ∈ ptsOf es, x ∈ pts) (hm : ∀ x ∈ pts, x ∈ ptsOf es ∨ (x.2 = none ∧ x.1 ∈ more)) (ha : ∀ m ∈ more, ∃ x ∈ pts, x.1 = m) : Cov es more pts (pts.length - 1) := by
  have get : ∀ i, i ≤ pts.length - 1 → pt pts i ∈ pts := fun i hi => by
    have hi' : i < pts.length := by omega
    unfold pt
    rw [List.getElem?_eq_getElem hi']
    exact List.getElem_mem hi'
  have at_ : ∀ x ∈ pts, ∃ i, i ≤ pts.length - 1 ∧ pt pts i = x := fun x hx => by
    obtain ⟨i, hi⟩ := List.mem_iff_getElem?.mp hx
    have := (List.getElem?_eq_some_iff.mp hi).1
    exact ⟨i, by omega, by unfold pt; rw [hi]; rfl⟩
  refine ⟨fun i j hij hj => ?_, fun e he => at_ _ (hs _ (List.mem_map.mpr ⟨e, he, rfl⟩)), fun i hi o ho => ?_, fun i hi => ?_, fun m hmm => ?_⟩
  · have hjl : j < pts.length := by omega
    have hil : i < pts.length := by omega
    unfold pt
    rw [List.getElem?_eq_getElem hil, List.getElem?_eq_getElem hjl]
    exact List.pairwise_iff_getElem.mp hp i j hil hjl hij
  · rcases hm _ (get i hi) with h | ⟨h, _⟩
    · obtain ⟨e, he, q⟩ := List.mem_map.mp h
      rw [← q] at ho ⊢
      cases ho
      exact ⟨e, he, rfl, rfl⟩
    · rw [h] at ho; cases ho
  · rcases hm _ (get i hi) with h | ⟨_, h⟩
    · obtain ⟨e, he, q⟩ := List.mem_map.mp h
      rw [← q]
      exact List.mem_append_left _ (List.mem_map.mpr ⟨e, he, rfl⟩)
    · exact List.mem_append_right _ h
  · obtain ⟨x, hx, e⟩ := ha m hmm
    obtain ⟨i, hi, q⟩ := at_ x hx
    exact ⟨i, hi, by rw [q]; exact e⟩
theorem pts_pw {es : List Step} (ha : Ascd es) : (ptsOf es).Pairwise fun a b => a.1 < b.1 := List.pairwise_map.mpr ha
theorem cov0 {es : List Step} (ha : Ascd es) (h1 : 1 ≤ es.length) : Cov es [] (ptsOf es) (es.length - 1) := by
  have := cov_of (es := es) (more := []) (pts := ptsOf es) (pts_pw ha) (by rw [pts_len]; exact h1) (fun x h => h) (fun x h => .inl h) (fun m h => by cases h)
  rwa [pts_len] at this
theorem cov2 {es : List Step} (ha : Ascd es) (t u : Int) : Cov es [t, u] (insP t (insP u (ptsOf es))) ((insP t (insP u (ptsOf es))).length - 1) := by
  have h0 : 1 ≤ (insP t (insP u (ptsOf es))).length := by
    obtain ⟨x, hx, _⟩ := insP_has t (insP u (ptsOf es))
    exact List.length_pos_of_mem hx
  refine cov_of (insP_pw (insP_pw (pts_pw ha))) h0 (fun x h => insP_sub (insP_sub h)) (fun x h => ?_) (fun m h => ?_)
  · rcases insP_mem h with z | z
    · rcases insP_mem z with z | z
      · exact .inl z
      · exact .inr (by rw [z]; exact ⟨rfl, by simp⟩)
    · exact .inr (by rw [z]; exact ⟨rfl, by simp⟩)
  · rcases List.mem_cons.mp h with z | z
    · rw [z]; exact insP_has t _
    · rw [List.mem_singleton.mp z]
      obtain ⟨x, hx, e⟩ := insP_has u (ptsOf es)
      exact ⟨x, insP_sub hx, e⟩
/-- what a plan over such points is good for -/
structure PGd (k : Kd) (es : List Step) (more : List Int) (pts : List Pt) (n : Nat) (p : Pl) (f : Int) : Prop where
  base : p.base = some f
  fz : Fz k es f (Pm.steps p)
  fit : (f, Pm.steps p) ∈ fitL k es more
  slot : Pm.SlotOk pts n p
  l1 : p.ea.length = p.hp.length
  gap : Chain k.ap p.ea
  js : ∀ j ∈ p.hp, j ∈ k.js
  few : (p.hp.length : Int) ≤ k.mo
  sm : PlSm p
theorem pw_chain {ap : Int} {l : List Int} (h : l.Pairwise fun a b => ap ≤ b - a) : Chain ap l := fun i a b ha hb => by
  obtain ⟨l1, e1⟩ := List.getElem?_eq_some_iff.mp ha
  obtain ⟨l2, e2⟩ := List.getElem?_eq_some_iff.mp hb
  have := List.pairwise_iff_getElem.mp h i (i + 1) l1 l2 (by omega)
  rw [e1, e2] at this
  exact this
theorem plan_pts {k : Kd} {es : List Step} {more : List Int} {pts : List Pt} {n : Nat} {p : Pl} (ko : KOk k) (c : Cov es more pts n) (h1 : 1 ≤ es.length) (hp : p ∈ allP (isort k.js) k.ap k.mo pts n) : ∃ f, PGd k es more pts n p f := by
  have hmm : k.mo = (k.mo.toNat : Int) := (Int.toNat_of_nonneg ko.m0).symm
  obtain ⟨g1, g2, g3⟩ := Pm.all_ok (Int.le_of_lt (floor_pos ko)) ko.m0 _ c.asc p hp
  have hs := Pm.all_slot _ p hp
  obtain ⟨e0, he0⟩ : ∃ e, e ∈ es := ⟨es[0]'(by omega), List.getElem_mem _⟩
  obtain ⟨i0, hi0, hp0⟩ := c.has e0 he0
  obtain ⟨f, hb, _⟩ := g2 i0 hi0 _ (by rw [hp0])
  have of := of_ofK g1
  have fz : Fz k es f (Pm.steps p) := ⟨of, by unfold Pm.steps; rw [List.length_zip, g1.l1]; have := g1.len; omega, fun e he => by
    obtain ⟨i, hi, hpi⟩ := c.has e he
    obtain ⟨b, hb2, hs⟩ := g2 i hi _ (by rw [hpi])
    rw [hb] at hb2
    cases hb2
    rw [hpi, sum_eq] at hs
    exact hs⟩
  have sm := all_sm hmm (by have := ko.m1; omega) _ p hp
  refine ⟨f, hb, fz, fitL_has ko h1 sm.l1 fz fun mm hm => ?_, hs, g1.l1, pw_chain g1.gap, fun j hj => (mem_isort _ _).mp (g1.js j hj), g1.len, sm⟩
  obtain ⟨i, hi⟩ := List.mem_iff_getElem?.mp hm
  have li := (List.getElem?_eq_some_iff.mp hi).1
  have := g1.l1
  obtain ⟨r, cc, hr, hc, e⟩ := g1.anc i mm hi
  refine ⟨_, c.mom r (by omega), cc, ?_, e⟩
  have := g1.len
  omega
/-- a zone with a change just at t is found by the law -/
theorem zone_hit {k : Kd} {es : List Step} {t f : Int} {st : List Step} (ko : KOk k) (ha : Ascd es) (h1 : 1 ≤ es.length) (h : Fz k es f st) (ht : t ∈ st.map (·.1)) (hlo : ∃ e ∈ es, e.1 < t) (hhi : ∃ e ∈ es, t ≤ e.1) : ∃ x ∈ fitL k es [t, t - 1], t ∈ x.2.map (·.1) := by
  have c := cov2 ha t (t - 1)
  generalize hP : insP t (insP (t - 1) (ptsOf es)) = pts at c
  generalize hn : pts.length - 1 = n at c
  obtain ⟨p, hp, c1, c2, c3, c4, c5⟩ := zone_plan ko c.asc h.of h.len fun i hi o ho => by
    obtain ⟨e, he, q1, q2⟩ := c.known i hi o ho
    rw [q1, q2]
    exact h.at_ e he
  obtain ⟨fp, g⟩ := plan_pts ko c h1 hp
  refine ⟨_, g.fit, ?_⟩
  obtain ⟨a, ha1, ha2⟩ := c.all (t - 1) (by simp)
  obtain ⟨b, hb1, hb2⟩ := c.all t (by simp)
  obtain ⟨s, hs, hst⟩ := List.mem_map.mp ht
  have hle : (pt pts 0).1 ≤ t - 1 := by have := Pm.asc_le c.asc (Nat.zero_le _) ha1; rwa [ha2] at this
  have hge : t ≤ (pt pts n).1 := by have := Pm.asc_le c.asc hb1 (Nat.le_refl _); rwa [hb2] at this
  have hmid : s ∈ mid (pt pts 0).1 (pt pts n).1 st := mid_mem.mpr ⟨hs, by omega, by omega⟩
  obtain ⟨i, hi⟩ := List.mem_iff_getElem?.mp hmid
  have hil := (List.getElem?_eq_some_iff.mp hi).1
  have hea : p.ea[i]? = some (p.ea[i]'(by omega)) := List.getElem?_eq_getElem (by omega)
  obtain ⟨q1, r, hr, q2, q3, q4⟩ := c3 i _ s hea hi
  have hrt : (pt pts r).1 = t - 1 := by
    by_cases g1 : r < a
    · have := Pm.asc_le c.asc (show r + 1 ≤ a by omega) ha1
      omega
    · by_cases g2 : a < r
      · have := c.asc a r g2 (by omega)
        by_cases g3 : b ≤ r
        · have := Pm.asc_le c.asc g3 (by omega); omega
        · omega
      · have : r = a := by omega
        rw [this]; exact ha2
  have e : p.ea[i]'(by omega) = t := by omega
  have hl1 := g.l1
  unfold Pm.steps
  rw [List.map_fst_zip (by omega)]
  rw [← e]
  exact List.getElem_mem _
end Zn

set_option Elab.async false
set_option linter.all false
set_option maxRecDepth 100000
set_option maxHeartbeats 8000000
/-! k36: stretches -/
namespace Zn
open PySem PySem.Spec PyProof.Rows L2 Dl
open Pm (Pl Pt pt withC longN over upto allP nextM offB)
/-! the latest moments -/
def latH (ap h : Int) : List Int → Int
  | [] => h
  | l :: _ => if l - ap < h then l - ap else h
def lat (ap : Int) : List Int → List Int
  | [] => []
  | h :: hs => latH ap h (lat ap hs) :: lat ap hs
def Le2 : List Int → List Int → Prop
  | [], [] => True
  | a :: as, b :: bs => a ≤ b ∧ Le2 as bs
  | _, _ => False
theorem le2_len : ∀ {as bs : List Int}, Le2 as bs → as.length = bs.length
  | [], [], _ => rfl
  | a :: as, b :: bs, h => by rw [List.length_cons, List.length_cons, le2_len h.2]
  | [], _ :: _, h => h.elim
  | _ :: _, [], h => h.elim
theorem le2_get : ∀ {as bs : List Int} {i : Nat} {a b : Int}, Le2 as bs → as[i]? = some a → bs[i]? = some b → a ≤ b
  | a :: as, b :: bs, 0, x, y, h, h1, h2 => by cases h1; cases h2; exact h.1
  | a :: as, b :: bs, i + 1, x, y, h, h1, h2 => le2_get h.2 (by simpa using h1) (by simpa using h2)
  | [], [], _, _, _, _, h1, _ => by simp at h1
  | [], _ :: _, _, _, _, h, _, _ => h.elim
  | _ :: _, [], _, _, _, h, _, _ => h.elim
theorem le2_trans : ∀ {as bs cs : List Int}, Le2 as bs → Le2 bs cs → Le2 as cs
  | [], [], [], _, _ => trivial
  | a :: as, b :: bs, c :: cs, h, g => ⟨Int.le_trans h.1 g.1, le2_trans h.2 g.2⟩
  | [], _ :: _, _, h, _ => h.elim
  | _ :: _, [], _, h, _ => h.elim
  | [], [], _ :: _, _, g => g.elim
  | _ :: _, _ :: _, [], _, g => g.elim
theorem le2_of : ∀ {as bs : List Int}, as.length = bs.length → (∀ (i : Nat) a b, as[i]? = some a → bs[i]? = some b → a ≤ b) → Le2 as bs
  | [], [], _, _ => trivial
  | a :: as, b :: bs, h, g => ⟨g 0 a b rfl rfl, le2_of (by simpa using h) fun i x y h1 h2 => g (i + 1) x y (by simpa using h1) (by simpa using h2)⟩
  | [], _ :: _, h, _ => by simp at h
  | _ :: _, [], h, _ => by simp at h
theorem chain_cons {ap a : Int} {l : List Int} : Chain ap (a :: l) ↔ (∀ b, l.head? = some b → ap ≤ b - a) ∧ Chain ap l := by
  constructor
  · intro h
    refine ⟨fun b hb => h 0 a b rfl ?_, fun i x y h1 h2 => h (i + 1) x y (by simpa using h1) (by simpa using h2)⟩
    cases l with
    | nil => cases hb
    | cons c l => simpa using hb
  · rintro ⟨h1, h2⟩ i x y hx hy
    cases i with
    | zero =>
      simp at hx
      subst hx
      cases l with
      | nil => simp at hy
      | cons c l => simp at hy; subst hy; exact h1 c rfl
    | succ i => exact h2 i x y (by simpa using hx) (by simpa using hy)
theorem lat_len (ap : Int) : ∀ hs : List Int, (lat ap hs).length = hs.length
  | [] => rfl
  | h :: hs => by unfold lat; rw [List.length_cons, List.length_cons, lat_len]
theorem latH_le (ap h : Int) (l : List Int) : latH ap h l ≤ h ∧ ∀ b, l.head? = some b → ap ≤ b - latH ap h l := by
  cases l with
  | nil => exact ⟨Int.le_refl _, fun b hb => by cases hb⟩
  | cons x l =>
    by_cases g : x - ap < h
    · have e : latH ap h (x :: l) = x - ap := if_pos g
      rw [e]
      exact ⟨by omega, fun b hb => by cases hb; omega⟩
    · have e : latH ap h (x :: l) = h := if_neg g
      rw [e]
      exact ⟨by omega, fun b hb => by cases hb; omega⟩
theorem lat_le (ap : Int) : ∀ hs : List Int, Le2 (lat ap hs) hs
  | [] => trivial
  | h :: hs => ⟨(latH_le ap h _).1, lat_le ap hs⟩
theorem lat_chain (ap : Int) : ∀ hs : List Int, Chain ap (lat ap hs)
  | [] => fun i a b h => by simp [lat] at h
  | h :: hs => chain_cons.mpr ⟨(latH_le ap h _).2, lat_chain ap hs⟩
theorem lat_max {ap : Int} : ∀ {xs hs : List Int}, Le2 xs hs → Chain ap xs → Le2 xs (lat ap hs)
  | [], [], _, _ => trivial
  | x :: xs, h :: hs, h1, h2 => by
    obtain ⟨g1, g2⟩ := chain_cons.mp h2
    have ih := lat_max h1.2 g2
    refine ⟨?_, ih⟩
    have hx := h1.1
    cases hl : lat ap hs with
    | nil => exact hx
    | cons l ls =>
      rw [hl] at ih
      cases xs with
      | nil => exact ih.elim
      | cons y ys =>
        have := g1 y rfl
        have := ih.1
        by_cases g : l - ap < h
        · rw [show latH ap h (l :: ls) = l - ap from if_pos g]; omega
        · rw [show latH ap h (l :: ls) = h from if_neg g]; exact hx
  | [], _ :: _, h, _ => h.elim
  | _ :: _, [], h, _ => h.elim
theorem push_tail {ap : Int} : ∀ {ea hs : List Int} {x : Int}, Le2 ea (lat ap hs) → Chain ap ea → (∀ l, (lat ap hs).head? = some l → x + ap ≤ l) → ∃ ys, Le2 ea ys ∧ Le2 ys hs ∧ Chain ap ys ∧ ∀ y, ys.head? = some y → x + ap ≤ y
  | [], [], x, _, _, _ => ⟨[], trivial, trivial, fun i a b h => by simp at h, fun y h => by cases h⟩
  | e :: ea, h :: hs, x, h1, h2, h3 => by
    obtain ⟨g1, g2⟩ := chain_cons.mp h2
    have hx := h3 _ rfl
    have he := h1.1
    obtain ⟨l1, l2⟩ := latH_le ap h (lat ap hs)
    obtain ⟨y, hy1, hy2, hy3⟩ : ∃ y, e ≤ y ∧ x + ap ≤ y ∧ y ≤ latH ap h (lat ap hs) := by
      by_cases g : e ≤ x + ap
      · exact ⟨x + ap, g, Int.le_refl _, hx⟩
      · exact ⟨e, Int.le_refl _, by omega, he⟩
    obtain ⟨ys, i1, i2, i3, i4⟩ := push_tail (x := y) h1.2 g2 fun l hl => by have := l2 l hl; omega
    exact ⟨y :: ys, ⟨hy1, i1⟩, ⟨by omega, i2⟩, chain_cons.mpr ⟨fun b hb => by have := i4 b hb; omega, i3⟩, fun z hz => by cases hz; exact hy2⟩
  | [], _ :: _, _, h, _, _ => h.elim
  | _ :: _, [], _, h, _, _ => h.elim
theorem push_at {ap : Int} : ∀ {ea hs : List Int} {i : Nat} {t e l : Int}, Le2 ea (lat ap hs) → Chain ap ea → ea[i]? = some e → (lat ap hs)[i]? = some l → e ≤ t → t ≤ l → ∃ xs, Le2 ea xs ∧ Le2 xs hs ∧ Chain ap xs ∧ xs[i]? = some t
  | e0 :: ea, h :: hs, 0, t, e, l, h1, h2, h3, h4, h5, h6 => by
    obtain ⟨g1, g2⟩ := chain_cons.mp h2
    cases h3
    have hl : latH ap h (lat ap hs) = l := Option.some.inj h4
    obtain ⟨l1, l2⟩ := latH_le ap h (lat ap hs)
    obtain ⟨ys, i1, i2, i3, i4⟩ := push_tail (x := t) h1.2 g2 fun l' hl' => by have := l2 l' hl'; omega
    exact ⟨t :: ys, ⟨h5, i1⟩, ⟨by omega, i2⟩, chain_cons.mpr ⟨fun b hb => by have := i4 b hb; omega, i3⟩, rfl⟩
  | e0 :: ea, h :: hs, i + 1, t, e, l, h1, h2, h3, h4, h5, h6 => by
    obtain ⟨g1, g2⟩ := chain_cons.mp h2
    obtain ⟨ys, i1, i2, i3, i4⟩ := push_at (i := i) h1.2 g2 (by simpa using h3) (by simpa [lat] using h4) h5 h6
    have := (latH_le ap h (lat ap hs)).1
    have := h1.1
    refine ⟨e0 :: ys, ⟨Int.le_refl _, i1⟩, ⟨by omega, i2⟩, chain_cons.mpr ⟨fun b hb => ?_, i3⟩, by simpa using i4⟩
    cases ea with
    | nil => cases ys with
      | nil => cases hb
      | cons _ _ => exact i1.elim
    | cons e1 ea => cases ys with
      | nil => exact i1.elim
      | cons y ys =>
        cases hb
        have := g1 e1 rfl
        have := i1.1
        omega
  | [], [], _, _, _, _, _, _, h3, _, _, _ => by simp at h3
  | [], _ :: _, _, _, _, _, h, _, _, _, _, _ => h.elim
  | _ :: _, [], _, _, _, _, h, _, _, _, _, _ => h.elim
/-- the ends of a plan's slots -/
def hisOf (pts : List Pt) (sl : List Int) : List Int := sl.map fun z => (pt pts (z.toNat + 1)).1
theorem plan_le {k : Kd} {es : List Step} {more : List Int} {pts : List Pt} {n : Nat} {p : Pl} {f : Int} (g : PGd k es more pts n p f) : Le2 p.ea (hisOf pts p.sl) := by
  obtain ⟨s1, s2⟩ := g.slot
  refine le2_of (by unfold hisOf; rw [List.length_map]; omega) fun i a b ha hb => ?_
  unfold hisOf at hb
  rw [List.getElem?_map] at hb
  cases hz : p.sl[i]? with
  | none => rw [hz] at hb; cases hb
  | some z =>
    rw [hz] at hb
    cases hb
    obtain ⟨r, e, hr, q1, q2⟩ := s2 i a z ha hz
    rw [e]
    show a ≤ (pt pts (((r : Nat) : Int).toNat + 1)).1
    rw [Int.toNat_natCast]
    exact q2
theorem plan_lat {k : Kd} {es : List Step} {more : List Int} {pts : List Pt} {n : Nat} {p : Pl} {f : Int} (g : PGd k es more pts n p f) : Le2 p.ea (lat k.ap (hisOf pts p.sl)) := lat_max (plan_le g) g.gap
/-- changes elsewhere in their slots: the same readings -/
theorem plan_move {k : Kd} {es : List Step} {more : List Int} {pts : List Pt} {n : Nat} {p : Pl} {f : Int} {xs : List Int} (c : Cov es more pts n) (g : PGd k es more pts n p f) (h1 : Le2 p.ea xs) (h2 : Le2 xs (hisOf pts p.sl)) (h3 : Chain k.ap xs) : Fz k es f (xs.zip p.hp) := by
  obtain ⟨s1, s2⟩ := g.slot
  have l1 := g.l1
  have lx := le2_len h1
  have slot : ∀ (i : Nat) (m z : Int), xs[i]? = some m → p.sl[i]? = some z → ∃ r : Nat, z = (r : Int) ∧ r < n ∧ (pt pts r).1 < m ∧ m ≤ (pt pts (r + 1)).1 := fun i m z hm hz => by
    have hil := (List.getElem?_eq_some_iff.mp hm).1
    have hea : p.ea[i]? = some (p.ea[i]'(by omega)) := List.getElem?_eq_getElem (by omega)
    obtain ⟨r, e, hr, q1, q2⟩ := s2 i _ z hea hz
    have a1 := le2_get h1 hea hm
    have hh : (hisOf pts p.sl)[i]? = some (pt pts (z.toNat + 1)).1 := by unfold hisOf; rw [List.getElem?_map, hz]; rfl
    have a2 := le2_get h2 hm hh
    rw [e, Int.toNat_natCast] at a2
    exact ⟨r, e, hr, by omega, a2⟩
  refine ⟨⟨fun s hs => g.js _ (List.of_mem_zip hs).2, fun i a b ha hb => ?_⟩, ?_, fun e he => ?_⟩
  · rw [List.getElem?_zip_eq_some] at ha hb
    exact h3 i a.1 b.1 ha.1 hb.1
  · rw [List.length_zip]
    have := g.few
    omega
  · obtain ⟨i, hi, hpi⟩ := c.has e he
    have e1 : Pm.sumLe (xs.zip p.hp) (pt pts i).1 = offB i p.sl p.hp := Pm.slot_sum xs p.sl p.hp (by omega) (by omega) fun j m z hm hz => by
      obtain ⟨r, ez, hr, q1, q2⟩ := slot j m z hm hz
      rw [ez]
      exact Pm.slot_iff c.asc hi hr q1 q2
    have e2 : Pm.sumLe (Pm.steps p) (pt pts i).1 = offB i p.sl p.hp := Pm.slot_sum p.ea p.sl p.hp s1 (by omega) fun j m z hm hz => by
      obtain ⟨r, ez, hr, q1, q2⟩ := s2 j m z hm hz
      rw [ez]
      exact Pm.slot_iff c.asc hi hr q1 q2
    have := g.fz.at_ e he
    rw [hpi] at e1 e2
    rw [sum_eq] at e1 e2
    simp only at e1 e2
    omega
def plans0 (k : Kd) (es : List Step) : List Pl := allP (isort k.js) k.ap k.mo (ptsOf es) (es.length - 1)
/-- the stretches of a plan, the last first -/
def strP (k : Kd) (es : List Step) (p : Pl) : List (Int × Int) := (p.ea.zip (lat k.ap (hisOf (ptsOf es) p.sl))).reverse
def strAll (k : Kd) (es : List Step) : List (Int × Int) := (plans0 k es).flatMap (strP k es)
def Covd (L : List (Int × Int)) (t : Int) : Prop := ∃ x ∈ L, x.1 ≤ t ∧ t ≤ x.2
/-- a change can lie at t -/
def Can (k : Kd) (es : List Step) (t : Int) : Prop := ∃ f st, Fz k es f st ∧ t ∈ st.map (·.1) ∧ (∃ e ∈ es, e.1 < t) ∧ ∃ e ∈ es, t ≤ e.1
theorem str_ok {k : Kd} {es : List Step} (ko : KOk k) (ha : Ascd es) (h1 : 1 ≤ es.length) {x : Int × Int} (hx : x ∈ strAll k es) : x.1 ≤ x.2 := by
  obtain ⟨p, hp, hx⟩ := List.mem_flatMap.mp hx
  obtain ⟨f, g⟩ := plan_pts ko (cov0 ha h1) h1 hp
  unfold strP at hx
  rw [List.mem_reverse] at hx
  obtain ⟨i, hi⟩ := List.mem_iff_getElem?.mp hx
  rw [List.getElem?_zip_eq_some] at hi
  exact le2_get (plan_lat g) hi.1 hi.2
theorem cov_can {k : Kd} {es : List Step} (ko : KOk k) (ha : Ascd es) (h1 : 1 ≤ es.length) (t : Int) : Covd (strAll k es) t ↔ Can k es t := by
  have c := cov0 ha h1
  constructor
  · rintro ⟨x, hx, x1, x2⟩
    obtain ⟨p, hp, hx⟩ := List.mem_flatMap.mp hx
    obtain ⟨f, g⟩ := plan_pts ko c h1 hp
    unfold strP at hx
    rw [List.mem_reverse] at hx
    obtain ⟨i, hi⟩ := List.mem_iff_getElem?.mp hx
    rw [List.getElem?_zip_eq_some] at hi
    obtain ⟨xs, a1, a2, a3, a4⟩ := push_at (plan_lat g) g.gap hi.1 hi.2 x1 x2
    obtain ⟨s1, s2⟩ := g.slot
    have l1 := g.l1
    have lx := le2_len a1
    have hil := (List.getElem?_eq_some_iff.mp hi.1).1
    have hsl : p.sl[i]? = some (p.sl[i]'(by omega)) := List.getElem?_eq_getElem (by omega)
    obtain ⟨r, e, hr, q1, q2⟩ := s2 i _ _ hi.1 hsl
    have hhi : (hisOf (ptsOf es) p.sl)[i]? = some (pt (ptsOf es) (r + 1)).1 := by unfold hisOf; rw [List.getElem?_map, hsl, e]; rfl
    have b1 := le2_get a1 hi.1 a4
    have b2 := le2_get a2 a4 hhi
    have er : es[r]? = some (es[r]'(by omega)) := List.getElem?_eq_getElem (by omega)
    have er1 : es[r + 1]? = some (es[r + 1]'(by omega)) := List.getElem?_eq_getElem (by omega)
    rw [pts_at er] at q1
    rw [pts_at er1] at b2
    refine ⟨f, _, plan_move c g a1 a2 a3, ?_, ⟨_, List.mem_of_getElem? er, by show _ < t; simp only at q1; omega⟩, ⟨_, List.mem_of_getElem? er1, b2⟩⟩
    rw [List.map_fst_zip (by omega)]
    exact List.mem_of_getElem? a4
  · rintro ⟨f, st, fz, ht, ⟨e1, he1, g1⟩, ⟨e2, he2, g2⟩⟩
    obtain ⟨p, hp, c1, c2, c3, c4, c5⟩ := zone_plan ko c.asc fz.of fz.len fun i hi o ho => by
      obtain ⟨e, he, q1, q2⟩ := c.known i hi o ho
      rw [q1, q2]
      exact fz.at_ e he
    obtain ⟨fp, g⟩ := plan_pts ko c h1 hp
    obtain ⟨i1, hi1, hp1⟩ := c.has e1 he1
    obtain ⟨i2, hi2, hp2⟩ := c.has e2 he2
    have hle : (pt (ptsOf es) 0).1 < t := by have := Pm.asc_le c.asc (Nat.zero_le _) hi1; rw [hp1] at this; simp only at this; omega
    have hge : t ≤ (pt (ptsOf es) (es.length - 1)).1 := by have := Pm.asc_le c.asc hi2 (Nat.le_refl _); rw [hp2] at this; simp only at this; omega
    generalize hmd : mid (pt (ptsOf es) 0).1 (pt (ptsOf es) (es.length - 1)).1 st = md at c1 c2 c3 c4
    have hch : Chain k.ap (md.map (·.1)) := by
      rw [← hmd]
      refine pw_chain (List.pairwise_map.mpr ?_)
      exact (ofK_pw ko fz.of).sublist (List.filter_sublist)
    have hlm : Le2 (md.map (·.1)) (hisOf (ptsOf es) p.sl) := by
      refine le2_of (by unfold hisOf; rw [List.length_map, List.length_map]; exact c4.symm) fun i a b hai hbi => ?_
      rw [List.getElem?_map] at hai
      cases et : md[i]? with
      | none => rw [et] at hai; cases hai
      | some s =>
        rw [et] at hai
        cases hai
        have hil := (List.getElem?_eq_some_iff.mp et).1
        have hea : p.ea[i]? = some (p.ea[i]'(by omega)) := List.getElem?_eq_getElem (by omega)
        obtain ⟨_, r, hr, q2, q3, q4⟩ := c3 i _ s hea et
        unfold hisOf at hbi
        rw [List.getElem?_map, q2] at hbi
        cases hbi
        show s.1 ≤ (pt (ptsOf es) (((r : Nat) : Int).toNat + 1)).1
        rw [Int.toNat_natCast]
        exact q4
    have hll := lat_max hlm hch
    obtain ⟨s, hs, hst⟩ := List.mem_map.mp ht
    have hmem : s ∈ md := by rw [← hmd]; exact mid_mem.mpr ⟨hs, by omega, by omega⟩
    obtain ⟨i, hi⟩ := List.mem_iff_getElem?.mp hmem
    have hil := (List.getElem?_eq_some_iff.mp hi).1
    have hea : p.ea[i]? = some (p.ea[i]'(by omega)) := List.getElem?_eq_getElem (by omega)
    obtain ⟨q1, _⟩ := c3 i _ s hea hi
    have hll2 := lat_len k.ap (hisOf (ptsOf es) p.sl)
    have hhl : (hisOf (ptsOf es) p.sl).length = p.sl.length := by unfold hisOf; rw [List.length_map]
    have hla : (lat k.ap (hisOf (ptsOf es) p.sl))[i]? = some ((lat k.ap (hisOf (ptsOf es) p.sl))[i]'(by omega)) := List.getElem?_eq_getElem (by omega)
    have b2 := le2_get hll (show (md.map (·.1))[i]? = some s.1 by rw [List.getElem?_map, hi]; rfl) hla
    refine ⟨(p.ea[i]'(by omega), (lat k.ap (hisOf (ptsOf es) p.sl))[i]'(by omega)), List.mem_flatMap.mpr ⟨p, hp, ?_⟩, by show p.ea[i]'(by omega) ≤ t; omega, by show t ≤ (lat k.ap (hisOf (ptsOf es) p.sl))[i]'(by omega); omega⟩
    unfold strP
    rw [List.mem_reverse]
    exact List.mem_of_getElem? (List.getElem?_zip_eq_some.mpr ⟨hea, hla⟩)
end Zn

set_option Elab.async false
set_option linter.all false
set_option maxRecDepth 100000
set_option maxHeartbeats 8000000
/-! k36: what the law asks of stretches; joined stretches; numbers of changes -/
namespace Zn
open PySem PySem.Spec PyProof.Rows L2 Dl
open Pm (Pl Pt pt withC longN over upto allP nextM offB)
def hitB (t : Int) (x : Int × List Step) : Bool := decide (t ∈ x.2.map (·.1))
def canB (k : Kd) (es : List Step) (e0 eL : Step) (t : Int) : Bool := decide (e0.1 < t) && decide (t ≤ eL.1) && !((fitL k es [t, t - 1]).filter (hitB t)).isEmpty
theorem first_le {es : List Step} {e0 e : Step} (ha : Ascd es) (h0 : es[0]? = some e0) (h : e ∈ es) : e0.1 ≤ e.1 := by
  cases es with
  | nil => simp at h0
  | cons x xs =>
    simp at h0
    subst h0
    rcases List.mem_cons.mp h with z | z
    · rw [z]; exact Int.le_refl _
    · exact Int.le_of_lt ((List.pairwise_cons.mp ha).1 e z)
theorem last_ge {es : List Step} {eL e : Step} (ha : Ascd es) (h0 : es.getLast? = some eL) (h : e ∈ es) : e.1 ≤ eL.1 := by
  obtain ⟨ys, rfl⟩ := List.getLast?_eq_some_iff.mp h0
  rcases List.mem_append.mp h with z | z
  · exact Int.le_of_lt ((List.pairwise_append.mp ha).2.2 e z eL (List.mem_singleton.mpr rfl))
  · rw [List.mem_singleton.mp z]; exact Int.le_refl _
theorem can_iff {k : Kd} {es : List Step} {e0 eL : Step} (ko : KOk k) (ha : Ascd es) (h0 : es[0]? = some e0) (hL : es.getLast? = some eL) (t : Int) : canB k es e0 eL t = true ↔ Can k es t := by
  have h1 : 1 ≤ es.length := by have := (List.getElem?_eq_some_iff.mp h0).1; omega
  unfold canB
  rw [Bool.and_eq_true, Bool.and_eq_true, decide_eq_true_eq, decide_eq_true_eq, Bool.not_eq_true']
  constructor
  · rintro ⟨⟨a, b⟩, c⟩
    obtain ⟨x, hx⟩ : ∃ x, x ∈ (fitL k es [t, t - 1]).filter (hitB t) := by
      cases z : (fitL k es [t, t - 1]).filter (hitB t) with
      | nil => rw [z] at c; cases c
      | cons x xs => exact ⟨x, List.mem_cons_self ..⟩
    obtain ⟨hx1, hx2⟩ := List.mem_filter.mp hx
    exact ⟨x.1, x.2, fitL_sound ko (show (x.1, x.2) ∈ fitL k es [t, t - 1] from hx1), of_decide_eq_true hx2, ⟨e0, List.mem_of_getElem? h0, a⟩, ⟨eL, List.mem_of_getLast? hL, b⟩⟩
  · rintro ⟨f, st, fz, ht, ⟨e1, he1, g1⟩, ⟨e2, he2, g2⟩⟩
    have a1 := first_le ha h0 he1
    have a2 := last_ge ha hL he2
    obtain ⟨x, hx, hxt⟩ := zone_hit ko ha h1 fz ht ⟨e1, he1, g1⟩ ⟨e2, he2, g2⟩
    refine ⟨⟨by omega, by omega⟩, ?_⟩
    have hm : x ∈ (fitL k es [t, t - 1]).filter (hitB t) := List.mem_filter.mpr ⟨hx, decide_eq_true hxt⟩
    cases z : (fitL k es [t, t - 1]).filter (hitB t) with
    | nil => rw [z] at hm; cases hm
    | cons _ _ => rfl
/-! joined -/
def jn : List (Int × Int) → List (Int × Int) → List (Int × Int)
  | acc, [] => acc
  | [], x :: xs => jn [x] xs
  | a :: acc, x :: xs => if x.1 ≤ a.2 + 1 then jn ((a.1, if x.2 > a.2 then x.2 else a.2) :: acc) xs else jn (x :: a :: acc) xs
def joinL (L : List (Int × Int)) : List (Int × Int) := (jn [] L).reverse
def Good (acc : List (Int × Int)) : Prop := (∀ a ∈ acc, a.1 ≤ a.2) ∧ acc.Pairwise fun a b => b.2 + 1 < a.1
theorem covd_cons {a : Int × Int} {L : List (Int × Int)} {t : Int} : Covd (a :: L) t ↔ (a.1 ≤ t ∧ t ≤ a.2) ∨ Covd L t := by
  constructor
  · rintro ⟨x, hx, h⟩
    rcases List.mem_cons.mp hx with z | z
    · rw [z] at h; exact .inl h
    · exact .inr ⟨x, z, h⟩
  · rintro (h | ⟨x, hx, h⟩)
    · exact ⟨a, List.mem_cons_self .., h⟩
    · exact ⟨x, List.mem_cons_of_mem _ hx, h⟩
theorem jn_ok : ∀ (L acc : List (Int × Int)), (∀ x ∈ L, x.1 ≤ x.2) → L.Pairwise (fun a b => a.1 ≤ b.1) → (∀ a ∈ acc, ∀ x ∈ L, a.1 ≤ x.1) → Good acc → Good (jn acc L) ∧ ∀ t, Covd (jn acc L) t ↔ Covd acc t ∨ Covd L t
  | [], acc, _, _, _, g => ⟨by unfold jn; exact g, fun t => ⟨fun h => .inl (by unfold jn at h; exact h), fun h => by
      unfold jn
      rcases h with h | ⟨x, hx, _⟩
      · exact h
      · cases hx⟩⟩
  | x :: xs, [], h1, h2, h3, g => by
    obtain ⟨p1, p2⟩ := List.pairwise_cons.mp h2
    obtain ⟨r1, r2⟩ := jn_ok xs [x] (fun y hy => h1 y (List.mem_cons_of_mem _ hy)) p2 (fun a ha y hy => by rw [List.mem_singleton.mp ha]; exact p1 y hy) ⟨fun a ha => by rw [List.mem_singleton.mp ha]; exact h1 x (List.mem_cons_self ..), List.pairwise_singleton _ _⟩
    refine ⟨by unfold jn; exact r1, fun t => ?_⟩
    unfold jn
    rw [r2 t, covd_cons (a := x) (L := xs), covd_cons (a := x) (L := [])]
    constructor
    · rintro ((h | h) | h)
      · exact .inr (.inl h)
      · exact .inl h
      · exact .inr (.inr h)
    · rintro (h | h | h)
      · exact .inl (.inr h)
      · exact .inl (.inl h)
      · exact .inr h
  | x :: xs, a :: acc, h1, h2, h3, g => by
    obtain ⟨p1, p2⟩ := List.pairwise_cons.mp h2
    obtain ⟨g1, g2⟩ := g
    obtain ⟨q1, q2⟩ := List.pairwise_cons.mp g2
    have hx := h1 x (List.mem_cons_self ..)
    have hax := h3 a (List.mem_cons_self ..) x (List.mem_cons_self ..)
    have haa := g1 a (List.mem_cons_self ..)
    have h1' : ∀ y ∈ xs, y.1 ≤ y.2 := fun y hy => h1 y (List.mem_cons_of_mem _ hy)
    unfold jn
    by_cases c : x.1 ≤ a.2 + 1
    · rw [if_pos c]
      have hm : a.2 ≤ (if x.2 > a.2 then x.2 else a.2) ∧ x.2 ≤ (if x.2 > a.2 then x.2 else a.2) ∧ ((if x.2 > a.2 then x.2 else a.2) = x.2 ∨ (if x.2 > a.2 then x.2 else a.2) = a.2) := by
        by_cases d : x.2 > a.2
        · rw [if_pos d]; omega
        · rw [if_neg d]; omega
      generalize (if x.2 > a.2 then x.2 else a.2) = mx at hm
      obtain ⟨r1, r2⟩ := jn_ok xs ((a.1, mx) :: acc) h1' p2 (fun b hb y hy => by
        rcases List.mem_cons.mp hb with z | z
        · rw [z]; exact h3 a (List.mem_cons_self ..) y (List.mem_cons_of_mem _ hy)
        · exact h3 b (List.mem_cons_of_mem _ z) y (List.mem_cons_of_mem _ hy)) ⟨fun b hb => by
          rcases List.mem_cons.mp hb with z | z
          · rw [z]; show a.1 ≤ mx; omega
          · exact g1 b (List.mem_cons_of_mem _ z), List.pairwise_cons.mpr ⟨fun b hb => q1 b hb, q2⟩⟩
      refine ⟨r1, fun t => ?_⟩
      rw [r2 t, covd_cons, covd_cons, covd_cons]
      simp only
      constructor
      · rintro ((h | h) | h)
        · by_cases d : t ≤ a.2
          · exact .inl (.inl ⟨h.1, d⟩)
          · exact .inr (.inl ⟨by omega, by omega⟩)
        · exact .inl (.inr h)
        · exact .inr (.inr h)
      · rintro ((h | h) | h | h)
        · exact .inl (.inl ⟨h.1, by omega⟩)
        · exact .inl (.inr h)
        · exact .inl (.inl ⟨by omega, by omega⟩)
        · exact .inr h
    · rw [if_neg c]
      obtain ⟨r1, r2⟩ := jn_ok xs (x :: a :: acc) h1' p2 (fun b hb y hy => by
        rcases List.mem_cons.mp hb with z | z
        · rw [z]; exact p1 y hy
        · exact h3 b z y (List.mem_cons_of_mem _ hy)) ⟨fun b hb => by
          rcases List.mem_cons.mp hb with z | z
          · rw [z]; exact hx
          · exact g1 b z, List.pairwise_cons.mpr ⟨fun b hb => by
            rcases List.mem_cons.mp hb with z | z
            · rw [z]; omega
            · have := q1 b z; omega, g2⟩⟩
      refine ⟨r1, fun t => ?_⟩
      rw [r2 t, covd_cons (a := x) (L := a :: acc), covd_cons (a := x) (L := xs)]
      constructor
      · rintro ((h | h) | h)
        · exact .inr (.inl h)
        · exact .inl h
        · exact .inr (.inr h)
      · rintro (h | h | h)
        · exact .inl (.inr h)
        · exact .inl (.inl h)
        · exact .inr h
/-- what is told: ascending stretches that do not touch, over just these moments -/
structure Told36 (L : List (Int × Int)) (C : Int → Prop) : Prop where
  le : ∀ x ∈ L, x.1 ≤ x.2
  pw : L.Pairwise fun a b => a.2 + 1 < b.1
  cov : ∀ t, Covd L t ↔ C t
theorem join_told {L : List (Int × Int)} {C : Int → Prop} (h1 : ∀ x ∈ L, x.1 ≤ x.2) (h2 : L.Pairwise fun a b => a.1 ≤ b.1) (h3 : ∀ t, Covd L t ↔ C t) : Told36 (joinL L) C := by
  obtain ⟨⟨g1, g2⟩, c⟩ := jn_ok L [] h1 h2 (fun a ha => by cases ha) ⟨fun a ha => (by cases ha), List.Pairwise.nil⟩
  refine ⟨fun x hx => g1 x (List.mem_reverse.mp hx), List.pairwise_reverse.mpr g2, fun t => ?_⟩
  rw [← h3 t]
  have e : Covd (joinL L) t ↔ Covd (jn [] L) t := ⟨fun ⟨x, hx, h⟩ => ⟨x, List.mem_reverse.mp hx, h⟩, fun ⟨x, hx, h⟩ => ⟨x, List.mem_reverse.mpr hx, h⟩⟩
  rw [e, c t]
  exact ⟨fun h => h.elim (fun ⟨x, hx, _⟩ => by cases hx) id, .inr⟩
/-- beside a stretch no change can lie -/
theorem told_beside {L : List (Int × Int)} {C : Int → Prop} (h : Told36 L C) {x : Int × Int} (hx : x ∈ L) : ¬C (x.1 - 1) ∧ ¬C (x.2 + 1) := by
  have hxx := h.le x hx
  have key : ∀ y ∈ L, y = x ∨ y.2 + 1 < x.1 ∨ x.2 + 1 < y.1 := fun y hy => by
    obtain ⟨i, hi⟩ := List.mem_iff_getElem?.mp hx
    obtain ⟨j, hj⟩ := List.mem_iff_getElem?.mp hy
    obtain ⟨li, ei⟩ := List.getElem?_eq_some_iff.mp hi
    obtain ⟨lj, ej⟩ := List.getElem?_eq_some_iff.mp hj
    by_cases g : i = j
    · subst g; rw [hi] at hj; exact .inl (Option.some.inj hj).symm
    · by_cases g2 : i < j
      · have := List.pairwise_iff_getElem.mp h.pw i j li lj g2
        rw [ei, ej] at this
        exact .inr (.inr this)
      · have := List.pairwise_iff_getElem.mp h.pw j i lj li (by omega)
        rw [ei, ej] at this
        exact .inr (.inl this)
  constructor
  · intro z
    obtain ⟨y, hy, y1, y2⟩ := (h.cov _).mpr z
    rcases key y hy with e | e | e
    · rw [e] at y1; omega
    · omega
    · have := h.le y hy; omega
  · intro z
    obtain ⟨y, hy, y1, y2⟩ := (h.cov _).mpr z
    rcases key y hy with e | e | e
    · rw [e] at y2; omega
    · omega
    · omega
/-! numbers of changes -/
def cntZ (a b : Int) (st : List Step) : Int := ((st.filter fun s => decide (a < s.1) && decide (s.1 ≤ b)).length : Int)
def cntP (s : Nat) (p : Pl) : Int := ((p.sl.filter fun z => decide (z = (s : Int))).length : Int)
theorem cnt_zip {s : Nat} {a b : Int} : ∀ (xs sl hp : List Int), sl.length = xs.length → hp.length = xs.length → (∀ (i : Nat) m z, xs[i]? = some m → sl[i]? = some z → ((a < m ∧ m ≤ b) ↔ z = (s : Int))) → cntZ a b (xs.zip hp) = ((sl.filter fun z => decide (z = (s : Int))).length : Int)
  | [], [], [], _, _, _ => rfl
  | m :: xs, z :: sl, j :: hp, h1, h2, h => by
    have ih := cnt_zip (s := s) (a := a) (b := b) xs sl hp (by simpa using h1) (by simpa using h2) fun i m z hm hz => h (i + 1) m z (by simpa using hm) (by simpa using hz)
    have h0 := h 0 m z rfl rfl
    unfold cntZ at ih ⊢
    rw [List.zip_cons_cons, List.filter_cons, List.filter_cons]
    by_cases g : z = (s : Int)
    · have g' := h0.mpr g
      rw [if_pos (by simp [g'.1, g'.2]), if_pos (by simpa using g), List.length_cons, List.length_cons]
      omega
    · have g' : ¬(a < m ∧ m ≤ b) := fun q => g (h0.mp q)
      rw [if_neg (by simp; intro q; omega), if_neg (by simpa using g)]
      exact ih
  | [], _ :: _, _, h1, _, _ => by simp at h1
  | _ :: _, [], _, h1, _, _ => by simp at h1
  | [], [], _ :: _, _, h2, _ => by simp at h2
  | _ :: _, _ :: _, [], _, h2, _ => by simp at h2
theorem slot_eq {pts : List Pt} {n s r : Nat} {m : Int} (hA : Pm.Asc pts n) (hs : s < n) (hr : r < n) (h1 : (pt pts r).1 < m) (h2 : m ≤ (pt pts (r + 1)).1) : ((pt pts s).1 < m ∧ m ≤ (pt pts (s + 1)).1) ↔ (r : Int) = (s : Int) := by
  have a := Pm.slot_iff (idx := s) hA (by omega) hr h1 h2
  have b := Pm.slot_iff (idx := s + 1) hA (by omega) hr h1 h2
  omega
theorem cnt_plan {k : Kd} {es : List Step} {more : List Int} {pts : List Pt} {n s : Nat} {p : Pl} {f : Int} (c : Cov es more pts n) (g : PGd k es more pts n p f) (hs : s < n) : cntZ (pt pts s).1 (pt pts (s + 1)).1 (Pm.steps p) = cntP s p := by
  obtain ⟨s1, s2⟩ := g.slot
  have l1 := g.l1
  refine cnt_zip p.ea p.sl p.hp s1 (by omega) fun i m z hm hz => ?_
  obtain ⟨r, e, hr, q1, q2⟩ := s2 i m z hm hz
  rw [e]
  exact slot_eq c.asc hs hr q1 q2
theorem cnt_zone {k : Kd} {es : List Step} {s : Nat} {f : Int} {st : List Step} (ko : KOk k) (ha : Ascd es) (h1 : 1 ≤ es.length) (hs : s < es.length - 1) (h : Fz k es f st) : ∃ p ∈ plans0 k es, cntP s p = cntZ (pt (ptsOf es) s).1 (pt (ptsOf es) (s + 1)).1 st := by
  have c := cov0 ha h1
  obtain ⟨p, hp, c1, c2, c3, c4, c5⟩ := zone_plan ko c.asc h.of h.len fun i hi o ho => by
    obtain ⟨e, he, q1, q2⟩ := c.known i hi o ho
    rw [q1, q2]
    exact h.at_ e he
  refine ⟨p, hp, ?_⟩
  have hlo := Pm.asc_le c.asc (Nat.zero_le s) (by omega)
  have hhi := Pm.asc_le c.asc (show s + 1 ≤ es.length - 1 by omega) (Nat.le_refl _)
  have hmid : cntZ (pt (ptsOf es) s).1 (pt (ptsOf es) (s + 1)).1 (mid (pt (ptsOf es) 0).1 (pt (ptsOf es) (es.length - 1)).1 st) = cntZ (pt (ptsOf es) s).1 (pt (ptsOf es) (s + 1)).1 st := by
    unfold cntZ mid
    rw [List.filter_filter]
    refine congrArg (fun l : List Step => ((l.length : Nat) : Int)) (List.filter_congr fun x _ => ?_)
    by_cases g : (pt (ptsOf es) s).1 < x.1 ∧ x.1 ≤ (pt (ptsOf es) (s + 1)).1
    · simp [g.1, g.2]; omega
    · have : (decide ((pt (ptsOf es) s).1 < x.1) && decide (x.1 ≤ (pt (ptsOf es) (s + 1)).1)) = false := by simp; intro q; omega
      rw [this, Bool.false_and]
  rw [← hmid]
  generalize hmd : mid (pt (ptsOf es) 0).1 (pt (ptsOf es) (es.length - 1)).1 st = md at c1 c2 c3 c4
  have hz : md = (md.map (·.1)).zip (md.map (·.2)) := by
    rw [List.zip_map']
    simp
  rw [hz]
  unfold cntP
  refine (cnt_zip _ p.sl _ (by rw [List.length_map]; exact c4) (by simp) fun i mm z a b => ?_).symm
  rw [List.getElem?_map] at a
  cases et : md[i]? with
  | none => rw [et] at a; cases a
  | some t =>
    rw [et] at a
    cases a
    have hil := (List.getElem?_eq_some_iff.mp et).1
    have hea : p.ea[i]? = some (p.ea[i]'(by omega)) := List.getElem?_eq_getElem (by omega)
    obtain ⟨q1, r, hr, q2, q3, q4⟩ := c3 i _ t hea et
    rw [q2] at b
    cases b
    have := slot_eq (m := t.1) c.asc hs hr (by omega) q4
    exact this
end Zn

set_option Elab.async false
set_option linter.all false
set_option maxRecDepth 100000
set_option maxHeartbeats 8000000
/-! Data layer: sorted of pairs of whole numbers, min of a list, xs.count(n), for x in reversed(xs) -/
namespace Dl
open PySem PySem.Spec PyProof.Rows L2
def encP (b : Int × Int) : PyData := .tuple [.int b.1, .int b.2]
theorem each_ofP {K : PySem.W.Frag} {H : Hp} : ∀ {xs : List V} {us : List Value} (bs : List (Int × Int)), Vals xs us → DqAll K H xs (bs.map encP) → PySem.W.EachIs (fun (u : Value) b => ∃ x, RelV x u ∧ Dq K H x (encP b)) us bs
  | _, _, [], r, h => by
    cases h
    cases r
    exact .nil
  | _, _, b :: bs, r, h => by
    cases h with
    | cons h1 h2 =>
      cases r with
      | cons r1 r2 => exact .cons ⟨_, r1, h1⟩ (each_ofP bs r2 h2)
theorem each_backP {K : PySem.W.Frag} {H : Hp} : ∀ {us : List Value} {bs : List (Int × Int)}, PySem.W.EachIs (fun (u : Value) b => ∃ x, RelV x u ∧ Dq K H x (encP b)) us bs → ∃ ys, Vals ys us ∧ DqAll K H ys (bs.map encP)
  | _, _, .nil => ⟨[], .nil, .nil⟩
  | _, _, .cons ⟨x, r, d⟩ t => by
    obtain ⟨ys, h1, h2⟩ := each_backP t
    exact ⟨x :: ys, .cons r h1, .cons d h2⟩
theorem le_firstP {a b : Int × Int} (h : PySem.W.dataLe false encP a b = true) : a.1 ≤ b.1 := by
  have h' : (!PySem.W.dataLt (encP b) (encP a)) = true := h
  refine Classical.byContradiction fun n => ?_
  have e : PySem.W.dataLt (encP b) (encP a) = true := by
    show PySem.W.dataLt (.tuple [.int b.1, .int b.2]) (.tuple [.int a.1, .int a.2]) = true
    rw [PySem.W.dataLt_pair (by simp [PySem.W.alike]) (by simp [PySem.W.alike])]
    have z : PyData.eqv (.int b.1) (.int a.1) = false := by
      simp only [PyData.eqv, beq_eq_false_iff_ne]
      omega
    rw [z, if_neg Bool.false_ne_true, PySem.W.dataLt_int]
    exact decide_eq_true (by omega)
  rw [e] at h'
  cases h'
section
variable {X : Cx} {M : List Addr} {σ : L2.St} {H : Hp} {e a o elt tg : Expr} {p1 p2 pos : Pos} {scope : Scope} {own : List (Str × Nat)} {D : Ends} {rest : List Stmt} {x : Str} {ds : List PyData}
theorem alike_isP (b b' : Int × Int) : PySem.W.alike (encP b) (encP b') = true := by simp [encP, PySem.W.alike, PySem.W.alikeAll]
theorem cr_sortedP (hu : X.A.units + 64 < cLine) : CallR X (.builtin "sorted") (fun vs H Q => ∃ (a : Addr) (xs : List V) (bs : List (Int × Int)) (M : List Addr), vs = [V.ref a] ∧ SqL X.K H a xs ∧ DqAll X.K (hid M H) xs (bs.map encP) ∧ bs.length ≤ 1000 ∧
    ∀ ys p, DqAll X.K (hid M H) ys ((bs.mergeSort (PySem.W.dataLe false encP)).map encP) → H p = none → Q (.ref p) (upd H p (.lst ys))) := by
  intro pins s σ H vs us Q I r h
  obtain ⟨a, xs, bs, M, rfl, hs, hx, hlen, q⟩ := h
  obtain ⟨its, rv, hl, hz⟩ := I.list hs
  obtain ⟨u, rfl, ru⟩ := vals1 r
  obtain rfl : u = Value.ref a := ru
  have e1 := each_ofP bs rv hx
  refine PySem.W.sorted_data hl.isList e1 (e1.mono fun v b ⟨x, rx, hd⟩ => Dp.reads I (encP b) x v ((hd.up hid_le).dp) rx) (.of alike_isP) (.tuples fun b => ⟨_, _, rfl⟩) (Nat.le_trans hlen (by decide)) (fun b _ => ?_) fun out ho h2 => ?_
  · have z : (encP b).depth = 1 := by simp [encP, PyData.depth, PyData.depthAll]
    rw [z]
    omega
  · obtain ⟨ys, y1, y2⟩ := each_backP h2
    obtain ⟨n, hn⟩ := sortedAll_at s.heap its out.toArray
    have hyl : ys.length ≤ sizeLine := by
      rw [y1.length, ho]
      exact Nat.le_trans hlen (by decide)
    exact ⟨.ref (s.heap.objs.size + 1), upd H (s.heap.objs.size + 1) (.lst ys), I.laid (t' := s.toks) (fun b o k => sortedAll_old k) (Nat.le_succ _) ⟨hyl, out, n, y1, hn⟩, rfl, q ys _ y2 (I.hok.fresh (Nat.le_succ _))⟩
def srtP (bs : List (Int × Int)) : List (Int × Int) := bs.mergeSort (PySem.W.dataLe false encP)
theorem srtP_mem {bs : List (Int × Int)} {x : Int × Int} : x ∈ srtP bs ↔ x ∈ bs := (List.mergeSort_perm _ _).mem_iff
theorem srtP_pw (bs : List (Int × Int)) : (srtP bs).Pairwise fun a b => a.1 ≤ b.1 := (PySem.W.sort_pairwise (PySem.W.sortLe_total _ false _) bs).imp fun h => le_firstP h
/-- sorted(l), pairs of whole numbers -/
theorem xl_sortedP {bs : List (Int × Int)} (hu : X.A.units + 64 < cLine) (hm : X.mg "sorted" = none) (L : Live M H) (ha : XD X M σ H e (.list (bs.map encP))) (hlen : bs.length ≤ 1000) (hg : Gl X "sorted" := by rfl)
    (he : starEach [e] X.env = (false, eval e X.env) :: starEach [] X.env := by rfl) (hpl : (backTo p2 (starEach [] X.env)).any (·.1) = false := by rfl) : XL X M σ H (.Call (.Name "sorted" p1) [e] [] p2) ((srtP bs).map encP) := fun H1 s1 Q q =>
  re_B (cr_sortedP hu) (ra_1 (ha H1 s1 _ fun v H2 s2 hv => by
    obtain ⟨a, xs, rfl, ha, hx⟩ := dp_lst hv
    refine ⟨a, xs, bs, M, rfl, SqL.of (hid_le _ _ ha), hx, hlen, fun ys l h1 hl => ?_⟩
    refine q l ys _ (s2.trans (same_new hl)) (s2.free hl) upd_same ?_
    rw [hid_new (L.mono (s1.trans s2)) hl]
    exact h1.up (same_new (hid_free hl))) he) hm (by decide +kernel) hg (by decide) (by decide) he hpl
/-- for tg in reversed(a), a a list -/
theorem rb_forRev {body : List Stmt} (hm : X.mg "reversed" = none) (hit : XD X M σ H a (.list ds))
    (h : ∀ H1, Same H H1 → ∃ Pv : Nat → L2.St → Hp → Prop, Pv 0 σ H1 ∧ (∀ k σ' H', Pv k σ' H' → Same (hid M H1) (hid M H')) ∧
      (∀ k d, k < ds.length → ds[ds.length - 1 - k]? = some d → ∀ σ' H' v, Pv k σ' H' → Dq X.K (hid M H') v d → RG X tg v σ' H' fun σ2 H2 => RB X body { D with nx := Pv (k + 1), ct := Pv (k + 1), bk := RB X rest D } σ2 H2) ∧ ∀ σ' H', Pv ds.length σ' H' → RB X rest D σ' H')
    (hp : PassesOwn (model X.prog X.w) X.A X.env X.xe := by exact PassesOwn.never) (hc : X.calm = true := by rfl) (hg : Gl X "reversed" := by rfl) (he : starEach [a] X.env = [(false, eval a X.env)] := by rfl) (he2 : starEach [a] X.env = (false, eval a X.env) :: starEach [] X.env := by rfl) (hs : ∀ x, foldedSetIterable (.Call (.Name "reversed" p1) [a] [] p2) X.env x = pure x := by intro _; rfl) :
    RB X (.For tg (.Call (.Name "reversed" p1) [a] [] p2) body [] pos :: rest) D σ H :=
  ⟨_, pss_cons (ps_for hp hc (pi_reversed hg hm ra_ he) rg_ rb_ hs) rb_, ra_1 (hit H (Same.refl H) _ fun v H1 s1 hv => by
    obtain ⟨a, xs, rfl, ha, hx⟩ := dp_lst hv
    have hl := dpa_len hx
    obtain ⟨Pv, h0, hk, hst, hd⟩ := h H1 s1
    refine ⟨a, xs, rfl, SqL.of (hid_le _ _ ha), RT.for_Itv Pv h0 (fun i σ' H' p => SqL.of (hid_le _ _ (hk i σ' H' p _ _ ha))) (fun i x σ' H' hi hxi p => ?_) (by rw [hl]; exact hd)⟩
    obtain ⟨d, h1, h2⟩ := dpa_get' hx hxi
    exact hst i d (by omega) (by rw [← hl]; exact h1) σ' H' x p (h2.up (hk i σ' H' p))) he2⟩
/-- e.count(i), whole numbers -/
theorem xd_countI {ns : List Int} {k : Int} {i : Expr} (ho : XD X M σ H o (.list (ns.map PyData.int))) (hi : XV X σ H i (.int k))
    (hbase : attributeBase o "count" X.env (eval o X.env) = eval o X.env := by rfl)
    (hfew : ((backTo p2 (starEach [i] X.env)).all (fun x => !x.1) && (backToKw p2 (keywordEach [] X.env)).all (fun x => x.1.isSome) && decide ([i].length + ([] : List Keyword).length + (if ([] : List Keyword).isEmpty then 0 else 1) < 30)) = true := by rfl)
    (hline : (p1.endLine == p2.line) = true := by rfl) (hs : starEach [i] X.env = (false, eval i X.env) :: starEach [] X.env := by rfl) (hplain : (backTo p2 (starEach [] X.env)).any (·.1) = false := by rfl) :
    XD X M σ H (.Call (.Attribute o "count" p1) [i] [] p2) (.int (ns.count k : Int)) := fun H1 s Q q =>
  ⟨_, pe_bm PySem.F.plainAttrs_list PySem.F.slot_list_count PySem.F.type_list_count mt_lcount re_ ra_ hbase hfew hline hs hplain,
    ho H1 s _ fun v H2 s2 hv => by
      obtain ⟨a, xs, rfl, ha, hx⟩ := dp_lst hv
      have ex := ints_v hx
      subst ex
      exact ⟨.inl ⟨rfl, _, SqL.of (hid_le _ _ ha)⟩, ra_1 (hi H2 (s.trans s2) _ fun H3 s3 => ⟨a, ns, k, rfl, rfl, SqL.of (s3 _ _ (hid_le _ _ ha)), q _ H3 (s2.trans s3) (.int _)⟩) hs⟩⟩
end
end Dl
namespace Zn
open PySem PySem.Spec PyProof.Rows L2 Dl
/-- the least of some -/
def mn : List Int → Int
  | [] => 0
  | [x] => x
  | x :: y :: r => if x ≤ mn (y :: r) then x else mn (y :: r)
theorem mn_ok : ∀ {ns : List Int}, ns ≠ [] → mn ns ∈ ns ∧ ∀ y ∈ ns, mn ns ≤ y
  | [], h => absurd rfl h
  | [x], _ => ⟨List.mem_cons_self .., fun y hy => by rw [List.mem_singleton.mp hy]; exact Int.le_refl _⟩
  | x :: y :: r, _ => by
    obtain ⟨a, b⟩ := mn_ok (ns := y :: r) (by simp)
    unfold mn
    split
    · rename_i z
      refine ⟨List.mem_cons_self .., fun u hu => ?_⟩
      rcases List.mem_cons.mp hu with e | hu
      · rw [e]; exact Int.le_refl _
      · exact Int.le_trans z (b u hu)
    · rename_i z
      refine ⟨List.mem_cons_of_mem _ a, fun u hu => ?_⟩
      rcases List.mem_cons.mp hu with e | hu
      · rw [e]; omega
      · exact b u hu
theorem mn_same {ns ms : List Int} (h : ∀ k, k ∈ ns ↔ k ∈ ms) (hn : ns ≠ []) (hm : ms ≠ []) : mn ns = mn ms := by
  obtain ⟨a1, b1⟩ := mn_ok hn
  obtain ⟨a2, b2⟩ := mn_ok hm
  have := b2 _ ((h _).mp a1)
  have := b1 _ ((h _).mpr a2)
  omega
section
variable {X : Cx} {M : List Addr} {σ : L2.St} {H : Hp} {e : Expr} {p1 p2 : Pos}
theorem xd_minL {ns : List Int} (hm : X.mg "min" = none) (hn : ns ≠ []) (ha : XD X M σ H e (.list (ns.map PyData.int))) (hc : X.calm = true := by rfl) (hg : Gl X "min" := by rfl)
    (he : starEach [e] X.env = (false, eval e X.env) :: starEach [] X.env := by rfl) (hpl : (backTo p2 (starEach [] X.env)).any (·.1) = false := by rfl) : XD X M σ H (.Call (.Name "min" p1) [e] [] p2) (.int (mn ns)) := fun H1 s1 Q q =>
  re_B (cr_min hc) (ra_1 (ha H1 s1 _ fun v H2 s2 hv => by
    obtain ⟨a, xs, rfl, ha, hx⟩ := dp_lst hv
    have ex := ints_v hx
    subst ex
    refine ⟨a, ns, rfl, SqL.of (hid_le _ _ ha), by have := List.length_pos_iff.mpr hn; omega, fun m h1 h2 => ?_⟩
    obtain ⟨a1, b1⟩ := mn_ok hn
    have e : m = mn ns := by
      have := h2 _ a1
      have := b1 _ h1
      omega
    rw [e]
    exact q _ H2 s2 (.int _)) he) hm (by decide +kernel) hg (by decide) (by decide) he hpl
end
theorem count_cnt (sl : List Int) (s : Nat) : ((sl.count (s : Int) : Nat) : Int) = ((sl.filter fun z => decide (z = (s : Int))).length : Int) := by
  rw [List.count_eq_length_filter]
  refine congrArg (fun l : List Int => ((l.length : Nat) : Int)) (List.filter_congr fun x _ => ?_)
  by_cases h : x = (s : Int)
  · simp [h]
  · simp [h]
end Zn

set_option Elab.async false
set_option linter.all false
set_option maxRecDepth 100000
set_option maxHeartbeats 8000000
namespace Zn
open PySem PySem.Spec PyProof.Rows L2 Dl
open Pm (Pl Pt pt withC longN over upto allP nextM offB)
/-! k36: stretches_in, joined -/
abbrev sStrIn : Stmt := top 42
abbrev sJoined : Stmt := top 44
def strOf (ap : Int) (pts : List Pt) (p : Pl) : List (Int × Int) := (p.ea.zip (lat ap (hisOf pts p.sl))).reverse
theorem lat_get {ap : Int} : ∀ {hs : List Int} {i : Nat} {h : Int}, hs[i]? = some h → (lat ap hs)[i]? = some (latH ap h ((lat ap hs).drop (i + 1)))
  | h0 :: hs, 0, h, e => by
    have e' : h0 = h := Option.some.inj e
    subst e'
    rfl
  | h0 :: hs, i + 1, h, e => by
    have := lat_get (ap := ap) (hs := hs) (i := i) (h := h) (by simpa using e)
    show (latH ap h0 (lat ap hs) :: lat ap hs)[i + 1]? = _
    rw [List.getElem?_cons_succ, this]
    rfl
  | [], _, _, e => by simp at e
/-- one more, from behind -/
theorem rev_drop {α : Type} {l : List α} {i : Nat} {x : α} (hi : i < l.length) (h : l[l.length - 1 - i]? = some x) : (l.drop (l.length - (i + 1))).reverse = (l.drop (l.length - i)).reverse ++ [x] := by
  obtain ⟨hl, e⟩ := List.getElem?_eq_some_iff.mp h
  have e2 : l.length - (i + 1) = l.length - 1 - i := by omega
  rw [e2, List.drop_eq_getElem_cons hl, e, List.reverse_cons]
  rw [show l.length - 1 - i + 1 = l.length - i by omega]
def spStrIn (K : PySem.W.Frag) (CK CP : Addr) : Sp := fun vs H Q _ => ∃ (M : List Addr) (ka : Addr) (vp vq : V) (k : Kd) (p : Pl) (pts : List Pt), vs = [.ref ka, vp, vq] ∧ Live M H ∧ KAt K CK (hid M H) ka k ∧ (RPl K CP).r (hid M H) vp p ∧ Dq K (hid M H) vq (.list (pts.map ptD)) ∧ p.sl.length = p.ea.length ∧ p.ea.length ≤ 1000 ∧ (∀ z ∈ p.sl, ∃ r : Nat, z = (r : Int) ∧ r + 1 < pts.length) ∧
  ∀ y xs H1, Same H H1 → H y = none → H1 y = some (.lst xs) → DqAll K (hid M H1) xs ((strOf k.ap pts p).map stepD) → Q (.ref y) H1
theorem jn_snoc : ∀ (L acc : List (Int × Int)) (x : Int × Int), jn acc (L ++ [x]) = jn (jn acc L) [x]
  | [], acc, x => by
    show jn acc [x] = jn (jn acc []) [x]
    have : jn acc [] = acc := by unfold jn; rfl
    rw [this]
  | y :: L, [], x => by
    rw [List.cons_append]
    show jn [] (y :: (L ++ [x])) = jn (jn [] (y :: L)) [x]
    have e1 : jn [] (y :: (L ++ [x])) = jn [y] (L ++ [x]) := by conv => lhs; unfold jn
    have e2 : jn [] (y :: L) = jn [y] L := by conv => lhs; unfold jn
    rw [e1, e2, jn_snoc L [y] x]
  | y :: L, a :: acc, x => by
    rw [List.cons_append]
    by_cases c : y.1 ≤ a.2 + 1
    · have e1 : jn (a :: acc) (y :: (L ++ [x])) = jn ((a.1, if y.2 > a.2 then y.2 else a.2) :: acc) (L ++ [x]) := by
        conv => lhs; unfold jn
        exact if_pos c
      have e2 : jn (a :: acc) (y :: L) = jn ((a.1, if y.2 > a.2 then y.2 else a.2) :: acc) L := by
        conv => lhs; unfold jn
        exact if_pos c
      rw [e1, e2, jn_snoc L _ x]
    · have e1 : jn (a :: acc) (y :: (L ++ [x])) = jn (y :: a :: acc) (L ++ [x]) := by
        conv => lhs; unfold jn
        exact if_neg c
      have e2 : jn (a :: acc) (y :: L) = jn (y :: a :: acc) L := by
        conv => lhs; unfold jn
        exact if_neg c
      rw [e1, e2, jn_snoc L _ x]
theorem jn_len : ∀ (L acc : List (Int × Int)), (jn acc L).length ≤ acc.length + L.length
  | [], acc => by unfold jn; omega
  | y :: L, [] => by
    have e2 : jn [] (y :: L) = jn [y] L := by conv => lhs; unfold jn
    rw [e2]
    have := jn_len L [y]
    simp at this ⊢
    omega
  | y :: L, a :: acc => by
    by_cases c : y.1 ≤ a.2 + 1
    · have e2 : jn (a :: acc) (y :: L) = jn ((a.1, if y.2 > a.2 then y.2 else a.2) :: acc) L := by
        conv => lhs; unfold jn
        exact if_pos c
      rw [e2]
      have := jn_len L ((a.1, if y.2 > a.2 then y.2 else a.2) :: acc)
      simp at this ⊢
      omega
    · have e2 : jn (a :: acc) (y :: L) = jn (y :: a :: acc) L := by
        conv => lhs; unfold jn
        exact if_neg c
      rw [e2]
      have := jn_len L (y :: a :: acc)
      simp at this ⊢
      omega
def RJoin (ds es' : List PyData) : Prop := ∃ bs : List (Int × Int), ds = [.list (bs.map stepD)] ∧ bs.length ≤ 1000 ∧ es' = (joinL (srtP bs)).map stepD
section
variable {X : Cx} {M : List Addr} {σ : L2.St} {H : Hp} {o a b : Expr} {D : Ends} {rest : List Stmt} {pos p1 p2 p3 : Pos} {g : Addr} {zs : List V} {ds : List PyData} {m h : Int} {c : Int}
/-- found.append((a, b)) -/
theorem rb_appPair {x1} (ho : XV X σ H o (.ref g)) (hgz : H g = some (.lst zs)) (hz : zs.length < 100000) (ha : XV X σ H a (.int m)) (hb : XV X σ H b (.int h)) (hzs : DqAll X.K (hid (g :: M) H) zs ds) (Lg : Live (g :: M) H)
    (k : ∀ v H1, Same (hid (g :: M) H) (hid (g :: M) H1) → (∀ u q, u ≠ g → H u = some q → H1 u = some q) → Live (g :: M) H1 → H1 g = some (.lst (zs ++ [v])) → DqAll X.K (hid (g :: M) H1) (zs ++ [v]) (ds ++ [.tuple [.int m, .int h]]) → RB X rest D σ H1)
    (hbase : attributeBase o "append" X.env (eval o X.env) = eval o X.env := by rfl)
    (hfew : ((backTo p2 (starEach [.Tuple [a, b] x1 p3] X.env)).all (fun x => !x.1) && (backToKw p2 (keywordEach [] X.env)).all (fun x => x.1.isSome) && decide ([Expr.Tuple [a, b] x1 p3].length + ([] : List Keyword).length + (if ([] : List Keyword).isEmpty then 0 else 1) < 30)) = true := by rfl)
    (hline : (p1.endLine == p2.line) = true := by rfl) (hs : starEach [.Tuple [a, b] x1 p3] X.env = (false, eval (.Tuple [a, b] x1 p3) X.env) :: starEach [] X.env := by rfl) (hplain : (backTo p2 (starEach [] X.env)).any (·.1) = false := by rfl)
    (hsw : swapsWith (.Call (.Attribute o "append" p1) [.Tuple [a, b] x1 p3] [] p2) none pos.line X.env = pure false := by rfl)
    (s1 : starEach [a, b] X.env = (false, eval a X.env) :: starEach [b] X.env := by rfl) (s2 : starEach [b] X.env = (false, eval b X.env) :: starEach [] X.env := by rfl) :
    RB X (.Expr (.Call (.Attribute o "append" p1) [.Tuple [a, b] x1 p3] [] p2) pos :: rest) D σ H := by
  refine rb_appendE ho hgz hz (fun H1 t1 => ⟨_, pe_tup ra_, ra_cons (ha H1 t1 _ fun Ha ta => ra_1 (hb Ha (t1.trans ta) _ fun Hb tb => ⟨by show 2 ≤ sizeLine; decide, fun t ht => ?_⟩) s2) s1⟩) hbase hfew hline hs hplain hsw
  have s0b := (t1.trans ta).trans tb
  have ntg : g ≠ t := fun e => by rw [← e] at ht; rw [s0b _ _ hgz] at ht; cases ht
  refine ⟨by rw [upd_ne ntg]; exact s0b _ _ hgz, ?_⟩
  have Lb : Live (g :: M) Hb := Lg.mono s0b
  have ntM : t ∉ g :: M := fun z => Lb t z ht
  have hx : DqAll X.K (hid (g :: M) (upd (upd Hb t (.tup [V.int m, V.int h])) g (.lst (zs ++ [.ref t])))) (zs ++ [.ref t]) (ds ++ [.tuple [.int m, .int h]]) := by
    rw [hid_cons_upd]
    refine dpa_app ((hzs.up (hid_mono s0b)).up (hid_mono (same_new ht))) (.cons ?_ .nil)
    exact .tup (SqT.of (xs := [V.int m, V.int h]) (by rw [hid_of ntM]; exact upd_same)) (.cons (.int _) (.cons (.int _) .nil))
  refine k (.ref t) _ (fun u q hu => ?_) (fun u q nu hu => ?_) ((Lb.mono (same_new ht)).upd) upd_same hx
  · rw [hid_cons_upd]
    exact (hid_mono (s0b.trans (same_new ht))) u q hu
  · rw [upd_ne nu]
    exact same_new ht u q (s0b u q hu)
end
section
variable {P : Program} {w : World} {K : PySem.W.Frag} {mg : Str → Option Value} {base : Heap} {C CK CP CZ : Addr}
abbrev siN : List Str := ["kind", "plan", "points", "found", "slot", "low", "high"]
theorem scStrIn : FnScope siN ["kind", "plan", "points"] (defScope sStrIn) := ⟨rfl, rfl, rfl, by decide +kernel, rfl, by decide +kernel, by decide +kernel⟩
theorem zip_steps2 : ∀ sl ea : List Int, List.zipWith (fun d e => PyData.tuple [d, e]) (sl.map PyData.int) (ea.map PyData.int) = (sl.zip ea).map stepD
  | [], _ => rfl
  | _ :: _, [] => rfl
  | s :: sl, e :: ea => by rw [List.map_cons, List.map_cons, List.zipWith_cons_cons, zip_steps2 sl ea]; rfl
theorem ok_strIn {f fA pA : Addr} {fd fdA : FuncData} (T : Nm mg) (hz : mg "zip" = none) (hv : mg "reversed" = none) (Y : KT K mg CK) (W : PT K mg CP) (KA : KPr P w K mg base CK "apart" (fun k => .int k.ap) pA fA fdA)
    (F : Df K mg "stretches_in" sStrIn ["kind", "plan", "points"] f fd) : FnOk P w K mg base CX0 3 f fd ["kind", "plan", "points"] (spStrIn K CK CP) := by
  refine F.F.ok scStrIn (fun vs H Q E h => ?_) (fun cdv A outer s0 H vs Q E hr h => ?_)
  · obtain ⟨M, ka, vp, vq, k, p, pts, rfl, _⟩ := h; rfl
  · obtain ⟨M, ka, vp, vq, k, p, pts, rfl, L, hk, ⟨pa, rfl, hp⟩, hq, hls, hle, hsl, q⟩ := h
    refine rb_setL 3 (M := M) (xl_lst L xa_nil) (fun g xs H1 s1 hg h1 hx => ?_) scStrIn.nd
    cases hx
    have L1 := L.mono s1
    have Lg : Live (g :: M) H1 := live_new L s1 (by rw [h1]; simp)
    have ngM : g ∉ M := fun z => L g z hg
    have g1 : Same (hid M H) (hid (g :: M) H1) := hid_step hg s1
    have hk1 := hk.up g1
    have hp1 := hp.up g1
    have hq1 := hq.up g1
    have hll := lat_len k.ap (hisOf pts p.sl)
    have hhl : (hisOf pts p.sl).length = p.sl.length := by unfold hisOf; rw [List.length_map]
    generalize hlt : lat k.ap (hisOf pts p.sl) = lt at hll
    have hN : (p.ea.zip lt).length = p.ea.length := by rw [List.length_zip]; omega
    have hN2 : ((p.sl.zip p.ea).map stepD).length = p.ea.length := by rw [List.length_map, List.length_zip]; omega
    refine rb_forRev (M := g :: M) (ds := (p.sl.zip p.ea).map stepD) hv ((XL.dd (xl_listZip T.lst hz Lg (xd_pslots (p := p) ⟨_, W⟩ hp1 (xv_name 1 rfl)) (xd_pearly (p := p) ⟨_, W⟩ hp1 (xv_name 1 rfl)) (by rw [List.length_map, List.length_map]; omega)) Lg).to (congrArg PyData.list (zip_steps2 _ _))) fun H2 s2 =>
      ⟨fun i σ' H' => Same (hid (g :: M) H2) (hid (g :: M) H') ∧ Live (g :: M) H' ∧ Same H H' ∧ ∃ zs a4 a5 a6, σ' = [some (.ref ka), some (.ref pa), some vq, some (.ref g), a4, a5, a6] ∧ H' g = some (.lst zs) ∧ DqAll K (hid (g :: M) H') zs (((p.ea.zip lt).drop (p.ea.length - i)).reverse.map stepD),
        ⟨Same.refl _, Lg.mono s2, s1.trans s2, [], none, none, none, rfl, s2 _ _ h1, by rw [Nat.sub_zero, List.drop_of_length_le (by omega)]; exact .nil⟩, fun i σ' H' w => w.1, fun i d hi hd σ' H' v w hv => ?_, fun σ' H' w => ?_⟩
    · obtain ⟨y1, L3, y2, zs, a4, a5, a6, rfl, hgz, hzs⟩ := w
      rw [hN2] at hi hd
      have gk := (hid_mono (M := g :: M) s2).trans y1
      have hk3 := hk1.up gk
      have hq3 := hq1.up gk
      rw [List.getElem?_map] at hd
      cases ez : (p.sl.zip p.ea)[p.ea.length - 1 - i]? with
      | none => rw [ez] at hd; cases hd
      | some zm =>
        rw [ez] at hd
        cases hd
        obtain ⟨z, m⟩ := zm
        obtain ⟨ez1, ez2⟩ := List.getElem?_zip_eq_some.mp ez
        obtain ⟨r, er, hr1⟩ := hsl z (List.mem_of_getElem? ez1)
        subst er
        obtain ⟨t, rfl, ht⟩ := step_at hv
        have hhi : (hisOf pts p.sl)[p.ea.length - 1 - i]? = some (pt pts (r + 1)).1 := by unfold hisOf; rw [List.getElem?_map, ez1]; rfl
        have hlg := lat_get (ap := k.ap) hhi
        rw [hlt] at hlg
        have hdz : (p.ea.zip lt)[p.ea.length - 1 - i]? = some (m, latH k.ap (pt pts (r + 1)).1 (lt.drop (p.ea.length - 1 - i + 1))) := List.getElem?_zip_eq_some.mpr ⟨ez2, hlg⟩
        have hrv := rev_drop (l := p.ea.zip lt) (i := i) (by omega) (by rw [hN]; exact hdz)
        rw [hN] at hrv
        refine rg_tup (same_seqT hid_le ht) (rgs_cons (rg_name 4 (rgs_cons (rg_name 5 (rgs_nil ?_) scStrIn.nd)) scStrIn.nd))
        have hpt1 : atI (pts.map ptD) ((r : Int) + 1) = some (.tuple [.int (pt pts (r + 1)).1, baseD (pt pts (r + 1)).2]) := pt_at hr1 rfl
        refine rb_set 6 (M := g :: M) (xd_ixT (fun _ _ => rfl) (xd_ixL (fun _ _ => rfl) (xd_name 2 rfl hq3) (xd_add (xv_name 4 rfl).int xd_int) hpt1) xd_int pt0) (fun v4 H4 s4 hv4 => ?_) scStrIn.nd
        have ev4 := dp_int hv4
        subst ev4
        have hzs4 := hzs.up (hid_mono (M := g :: M) s4)
        have hgz4 := s4 _ _ hgz
        have kf4 : Dq K (hid M H4) (.ref g) (.list (((p.ea.zip lt).drop (p.ea.length - i)).reverse.map stepD)) := .lst (by rw [hid_of ngM]; exact hgz4) (hzs4.up hid_weak)
        have hzl : zs.length ≤ 1000 := by rw [dpa_len hzs, List.length_map, List.length_reverse, List.length_drop]; omega
        have hk4 : KAt K CK (hid M H4) ka k := (hk3.up (hid_mono (M := g :: M) s4)).up hid_weak
        have nx : ∀ (v : V) H5 H6, Same H4 H5 → Same (hid (g :: M) H5) (hid (g :: M) H6) → (∀ u q, u ≠ g → H5 u = some q → H6 u = some q) → Live (g :: M) H6 → H6 g = some (.lst (zs ++ [v])) → DqAll K (hid (g :: M) H6) (zs ++ [v]) ((((p.ea.zip lt).drop (p.ea.length - i)).reverse.map stepD) ++ [.tuple [.int m, .int (latH k.ap (pt pts (r + 1)).1 (lt.drop (p.ea.length - 1 - i + 1)))]]) →
            Same (hid (g :: M) H2) (hid (g :: M) H6) ∧ Same H H6 ∧ DqAll K (hid (g :: M) H6) (zs ++ [v]) (((p.ea.zip lt).drop (p.ea.length - (i + 1))).reverse.map stepD) := fun v H5 H6 s5 s6 n6 _ _ hz6 =>
          ⟨(y1.trans (hid_mono (s4.trans s5))).trans s6, fun u q hu => n6 u q (ne_of_none hu hg) (((y2.trans s4).trans s5) u q hu), by rw [hrv, List.map_append]; exact hz6⟩
        refine rb_if (xt_list (M := M) (xd_name 3 rfl kf4)) (fun e H5 s5 => ?_) (fun e H5 s5 => rb_nil ?_)
        · have hdn : lt.drop (p.ea.length - 1 - i + 1) ≠ [] := fun z => by
            have hzz : (p.ea.zip lt).drop (p.ea.length - i) = [] := List.drop_of_length_le (by
              have := congrArg List.length z
              rw [List.length_drop] at this
              simp at this
              omega)
            rw [hzz] at e
            cases e
          cases hdl : lt.drop (p.ea.length - 1 - i + 1) with
          | nil => exact absurd hdl hdn
          | cons l ls =>
            have hll2 := congrArg List.length hdl
            rw [List.length_drop, List.length_cons] at hll2
            have hi0 : 1 ≤ i := by omega
            have hlg2 : lt[p.ea.length - i]? = some l := by
              have : (lt.drop (p.ea.length - 1 - i + 1))[0]? = some l := by rw [hdl]; rfl
              rw [List.getElem?_drop] at this
              rw [← this]
              congr 1
              omega
            obtain ⟨m2, hm2⟩ : ∃ m2, p.ea[p.ea.length - i]? = some m2 := ⟨p.ea[p.ea.length - i]'(by omega), List.getElem?_eq_getElem (by omega)⟩
            have hz2 : (p.ea.zip lt)[p.ea.length - i]? = some (m2, l) := List.getElem?_zip_eq_some.mpr ⟨hm2, hlg2⟩
            obtain ⟨hz2l, hz2e⟩ := List.getElem?_eq_some_iff.mp hz2
            have hlast : (((p.ea.zip lt).drop (p.ea.length - i)).reverse).getLast? = some (m2, l) := by
              rw [List.getLast?_reverse, List.head?_drop, hz2]
            have kf5 := kf4.up (hid_mono (M := M) s5)
            refine rb_set 6 (M := M) (xd_min T.min (xa_cons (xv_name 6 rfl).int (xa_cons (xd_sub (xd_ixT (fun _ _ => rfl) (xd_ixL (fun _ _ => rfl) (xd_name 3 rfl kf5) (xd_neg xd_int) (last_step hlast)) xd_int step1) (xd_kprop (g := fun k => .int k.ap) (k := k) (L.mono (((y2.trans s4).trans s5))) Y.cl KA.h KA.G hr KA.b (xv_name 0 rfl) (hk4.up (hid_mono (M := M) s5)))) xa_nil))) (fun v6 H6 s6 hv6 => rb_nil ?_) scStrIn.nd
            have ev6 := dp_int hv6
            have ev7 : v6 = .int (latH k.ap (pt pts (r + 1)).1 (l :: ls)) := ev6
            subst ev7
            rw [hdl] at nx
            refine rb_appPair (M := M) (xv_name 3 rfl) ((s5.trans s6) _ _ hgz4) (by omega) (xv_name 5 rfl) (xv_name 6 rfl) (hzs4.up (hid_mono (s5.trans s6))) (L3.mono ((s4.trans s5).trans s6)) (fun v H7 a1 a2 a3 a4 a5 => rb_nil ?_)
            obtain ⟨b1, b2, b3⟩ := nx v H6 H7 (s5.trans s6) a1 a2 a3 a4 a5
            exact ⟨b1, a3, b2, _, _, _, _, rfl, a4, b3⟩
        · have hdn : lt.drop (p.ea.length - 1 - i + 1) = [] := by
            have hzz : ((p.ea.zip lt).drop (p.ea.length - i)).length = 0 := by
              cases hq : (p.ea.zip lt).drop (p.ea.length - i) with
              | nil => rfl
              | cons x xs => rw [hq, List.reverse_cons, List.map_append] at e; simp at e
            rw [List.length_drop] at hzz
            exact List.drop_of_length_le (by omega)
          rw [hdn] at nx
          refine rb_appPair (M := M) (xv_name 3 rfl) (s5 _ _ hgz4) (by omega) (xv_name 5 rfl) (xv_name 6 rfl) (hzs4.up (hid_mono s5)) (L3.mono (s4.trans s5)) (fun v H7 a1 a2 a3 a4 a5 => rb_nil ?_)
          obtain ⟨b1, b2, b3⟩ := nx v H5 H7 s5 a1 a2 a3 a4 a5
          exact ⟨b1, a3, b2, _, _, _, _, rfl, a4, b3⟩
    · obtain ⟨y1, L3, y2, zs, a4, a5, a6, rfl, hgz, hzs⟩ := w
      refine rb_retR (XV.go (xv_name 3 rfl) fun H5 s5 => q g zs H5 (y2.trans s5) hg (s5 _ _ hgz) ?_)
      have e0 : strOf k.ap pts p = ((p.ea.zip lt).drop 0).reverse := by unfold strOf; rw [hlt]; rfl
      rw [hN2, Nat.sub_self] at hzs
      rw [e0]
      exact (hzs.up (hid_mono s5)).up hid_weak
end
end Zn

set_option Elab.async false
set_option linter.all false
set_option maxRecDepth 100000
set_option maxHeartbeats 8000000
namespace Zn
open PySem PySem.Spec PyProof.Rows L2 Dl
open Pm (Pl Pt pt withC longN over upto allP nextM offB)
/-! k36: joined -/
/-- a point is no list -/
theorem dq_pt_hide {K : PySem.W.Frag} {M : List Addr} {H : Hp} {p : Addr} {ys : List V} (hp : H p = some (.lst ys)) {v : V} {x : Pt} (h : Dq K (hid M H) v (ptD x)) : Dq K (hid (p :: M) H) v (ptD x) := by
  obtain ⟨t, xs, rfl, ht, hx⟩ := dp_tup h
  have hx2 : DqAll K (hid (p :: M) H) xs [.int x.1, baseD x.2] := by
    cases hx with
    | cons a b => cases b with
      | cons b c =>
        cases c
        cases x with
        | mk m o =>
          rw [dp_int a]
          refine .cons (.int _) (.cons ?_ .nil)
          cases o with
          | none => rw [dp_non b]; exact .non
          | some i => rw [dp_int b]; exact .int _
  have hne : ∀ o, hid M H t = some o → (∀ ys, o ≠ .lst ys) → hid (p :: M) H t = some o := fun o ho hn => by
    have e : t ≠ p := fun z => by
      rw [z] at ho
      have := hid_le _ _ ho
      rw [hp] at this
      exact hn ys (Option.some.inj this).symm
    unfold hid at ho ⊢
    by_cases hm : t ∈ M
    · rw [if_pos hm] at ho; cases ho
    · rw [if_neg hm] at ho
      rw [if_neg (by simp [e, hm])]
      exact ho
  refine .tup ?_ hx2
  rcases ht with (ht | ⟨o, ht⟩) | ht
  · exact .inl (.inl (hne _ ht fun ys z => by cases z))
  · exact .inl (.inr ⟨o, hne _ ht fun ys z => by cases z⟩)
  · exact .inr ht
/-- a step is no list -/
theorem dq_st_hide {K : PySem.W.Frag} {M : List Addr} {H : Hp} {p : Addr} {ys : List V} (hp : H p = some (.lst ys)) {v : V} {x : Step} (h : Dq K (hid M H) v (stepD x)) : Dq K (hid (p :: M) H) v (stepD x) := dq_pt_hide (x := ((x.1, some x.2) : Pt)) hp h
theorem dqa_st_hide {K : PySem.W.Frag} {M : List Addr} {H : Hp} {p : Addr} {ys : List V} (hp : H p = some (.lst ys)) : ∀ {xs : List V} {ps : List Step}, DqAll K (hid M H) xs (ps.map stepD) → DqAll K (hid (p :: M) H) xs (ps.map stepD)
  | _, [], h => by cases h; exact .nil
  | _, x :: ps, h => by
    cases h with
    | cons a b => exact .cons (dq_st_hide hp a) (dqa_st_hide hp b)
theorem dqa_set {K : PySem.W.Frag} {H : Hp} {v : V} {d : PyData} (hv : Dq K H v d) : ∀ {xs : List V} {ds : List PyData} (n : Nat), DqAll K H xs ds → DqAll K H (xs.set n v) (ds.set n d)
  | _, _, n, .nil => .nil
  | _, _, 0, .cons a b => .cons hv b
  | _, _, n + 1, .cons a b => .cons a (dqa_set hv n b)
def jstep (acc : List (Int × Int)) (x : Int × Int) : List (Int × Int) := match acc with
  | [] => [x]
  | a :: acc => if x.1 ≤ a.2 + 1 then (a.1, if x.2 > a.2 then x.2 else a.2) :: acc else x :: a :: acc
theorem jn_one (acc : List (Int × Int)) (x : Int × Int) : jn acc [x] = jstep acc x := by
  cases acc with
  | nil =>
    have e2 : jn [] [x] = jn [x] [] := by conv => lhs; unfold jn
    rw [e2]
    unfold jn
    rfl
  | cons a acc =>
    by_cases c : x.1 ≤ a.2 + 1
    · have e2 : jn (a :: acc) [x] = jn ((a.1, if x.2 > a.2 then x.2 else a.2) :: acc) [] := by
        conv => lhs; unfold jn
        exact if_pos c
      have e3 : jstep (a :: acc) x = (a.1, if x.2 > a.2 then x.2 else a.2) :: acc := if_pos c
      rw [e2, e3]
      unfold jn
      rfl
    · have e2 : jn (a :: acc) [x] = jn (x :: a :: acc) [] := by
        conv => lhs; unfold jn
        exact if_neg c
      have e3 : jstep (a :: acc) x = x :: a :: acc := if_neg c
      rw [e2, e3]
      unfold jn
      rfl
theorem jn_take {L : List (Int × Int)} {i : Nat} {x : Int × Int} (h : L[i]? = some x) : jn [] (L.take (i + 1)) = jstep (jn [] (L.take i)) x := by
  rw [List.take_add_one, h]
  show jn [] (L.take i ++ [x]) = _
  rw [jn_snoc, jn_one]
theorem jn0 : jn [] [] = [] := by unfold jn; rfl
section
variable {P : Program} {w : World} {K : PySem.W.Frag} {mg : Str → Option Value} {base : Heap} {C CK CP CZ : Addr}
abbrev joN : List Str := ["stretches", "found", "low", "high"]
theorem scJoined : FnScope joN ["stretches"] (defScope sJoined) := ⟨rfl, rfl, rfl, by decide +kernel, rfl, by decide +kernel, by decide +kernel⟩
theorem ok_joined {f : Addr} {fd : FuncData} (T : Nm mg) (hs : mg "sorted" = none) (F : Df K mg "joined" sJoined ["stretches"] f fd) : FnOk P w K mg base CX0 1 f fd ["stretches"] (spL K RJoin) := by
  refine F.F.ok scJoined (fun vs H Q E h => ?_) (fun cdv A outer s0 H vs Q E hr h => ?_)
  · obtain ⟨M, ds, es', L, hd, ⟨bs, rfl, _⟩, q⟩ := h
    exact dpa_len hd
  · obtain ⟨M, ds, es', L, hd, ⟨bs, rfl, hlen, rfl⟩, q⟩ := h
    cases hd with
    | cons h1 hd =>
      cases hd
      rename_i v0
      refine rb_setL 1 (M := M) (xl_lst L xa_nil) (fun g xs H1 s1 hg hg1 hx => ?_) scJoined.nd
      cases hx
      have Lg : Live (g :: M) H1 := live_new L s1 (by rw [hg1]; simp)
      have ngM : g ∉ M := fun z => L g z hg
      have h1' := h1.up (hid_step (M := M) hg s1)
      have hsl : (srtP bs).length = bs.length := (List.mergeSort_perm _ _).length_eq
      refine rb_for (M := g :: M) (ds := (srtP bs).map encP) (XL.dd (xl_sortedP hr.units hs Lg (xd_name 0 rfl h1') hlen) Lg) fun H2 s2 =>
        ⟨fun i σ' H' => Same (hid (g :: M) H2) (hid (g :: M) H') ∧ Live (g :: M) H' ∧ Same H H' ∧ ∃ zs a2 a3, σ' = [some v0, some (.ref g), a2, a3] ∧ H' g = some (.lst zs) ∧ DqAll K (hid (g :: M) H') zs ((jn [] ((srtP bs).take i)).reverse.map stepD),
          ⟨Same.refl _, Lg.mono s2, s1.trans s2, [], none, none, rfl, s2 _ _ hg1, by rw [List.take_zero, jn0]; exact .nil⟩, fun i σ' H' w => w.1, fun i d hd σ' H' v w hv => ?_, fun σ' H' w => ?_⟩
      · obtain ⟨y1, L3, y2, zs, a2, a3, rfl, hgz, hzs⟩ := w
        obtain ⟨x, hx0, rfl⟩ := map_get hd
        have hv : Dq K (hid (g :: M) H') v (stepD x) := hv
        obtain ⟨t, rfl, ht⟩ := step_at hv
        have hil := (List.getElem?_eq_some_iff.mp hx0).1
        have hjt := jn_take hx0
        have hjl := jn_len ((srtP bs).take i) []
        rw [List.length_take] at hjl
        simp only [List.length_nil] at hjl
        generalize jn [] ((srtP bs).take i) = acc at hzs hjt hjl
        have hzl : zs.length = acc.length := by rw [dpa_len hzs, List.length_map, List.length_reverse]
        have kf : Dq K (hid M H') (.ref g) (.list (acc.reverse.map stepD)) := .lst (by rw [hid_of ngM]; exact hgz) (hzs.up hid_weak)
        refine rg_tup (same_seqT hid_le ht) (rgs_cons (rg_name 2 (rgs_cons (rg_name 3 (rgs_nil ?_) scJoined.nd)) scJoined.nd))
        cases acc with
        | nil =>
          have kf : Dq K (hid M H') (.ref g) (.list []) := kf
          refine rb_if (k := false) ?tst0 (fun z => by cases z) (fun _ H5 s5 => ?go0)
          case tst0 => exact xt_and2 (k1 := false) (k2 := false) (xt_list (M := M) (ds := []) (xd_name 1 rfl kf)) fun z => absurd z (by decide)
          refine rb_appPair (M := M) (xv_name 1 rfl) (s5 _ _ hgz) (by rw [hzl]; decide) (xv_name 2 rfl) (xv_name 3 rfl) (hzs.up (hid_mono s5)) (L3.mono s5) (fun v H7 b1 b2 b3 b4 b5 => rb_nil (rb_nil ?_))
          exact ⟨(y1.trans (hid_mono s5)).trans b1, b3, fun u q hu => b2 u q (ne_of_none hu hg) ((y2.trans s5) u q hu), _, _, _, rfl, b4, by rw [hjt]; exact b5⟩
        | cons a acc =>
          have hlast : ((a :: acc).reverse).getLast? = some a := by rw [List.getLast?_reverse]; rfl
          refine rb_if (k := decide (x.1 ≤ a.2 + 1)) ?tst1 (fun e H5 s5 => ?yes1) (fun e H5 s5 => ?no1)
          case tst1 => exact XT.to (xt_and2 (k1 := true) (k2 := decide (x.1 ≤ a.2 + 1)) (XT.to (xt_list (M := M) (xd_name 1 rfl kf)) (by rw [List.reverse_cons, List.map_append]; simp)) fun _ => xt_cmpI (M := M) op_le (xv_name 2 rfl).int (xd_add (xd_ixT (fun _ _ => rfl) (xd_ixL (fun _ _ => rfl) (xd_name 1 rfl kf) (xd_neg xd_int) (last_step hlast)) xd_int step1) xd_int)) (by simp)
          case yes1 =>
            have e3 : jstep (a :: acc) x = (a.1, if x.2 > a.2 then x.2 else a.2) :: acc := if_pos (of_decide_eq_true e)
            rw [e3] at hjt
            have kf5 := kf.up (hid_mono (M := M) s5)
            have L5 : Live M H5 := fun b hb => (L3.mono s5) b (List.mem_cons_of_mem _ hb)
            refine rb_setIx (M := M) (n := -1) (j := zs.length - 1) (s5 _ _ hgz) (xd_tup (ds := [.int a.1, .int (if x.2 > a.2 then x.2 else a.2)]) L5 (xa_cons (xd_ixT (fun _ _ => rfl) (xd_ixL (fun _ _ => rfl) (xd_name 1 rfl kf5) (xd_neg xd_int) (last_step hlast)) xd_int step0) (xa_cons (xd_max T.max (xa_cons (xd_ixT (fun _ _ => rfl) (xd_ixL (fun _ _ => rfl) (xd_name 1 rfl kf5) (xd_neg xd_int) (last_step hlast)) xd_int step1) (xa_cons (xv_name 3 rfl).int xa_nil))) xa_nil))) (xv_name 1 rfl) (xd_neg (M := []) xd_int).vint (by unfold ixN; rw [if_neg (by decide), if_pos (by rw [hzl, List.length_cons]; omega)]; congr 1; rw [hzl, List.length_cons]; omega) (fun v H6 s6 hv6 => rb_nil (rb_nil ?_))
            have hg6 := (s5.trans s6) _ _ hgz
            have hv6' : Dq K (hid (g :: M) H6) v (stepD (a.1, if x.2 > a.2 then x.2 else a.2)) := dq_st_hide hg6 hv6
            have hz6 : DqAll K (hid (g :: M) H6) (zs.set (zs.length - 1) v) (((a.1, if x.2 > a.2 then x.2 else a.2) :: acc).reverse.map stepD) := by
              have h := dqa_set hv6' (zs.length - 1) (hzs.up (hid_mono (s5.trans s6)))
              rw [List.reverse_cons, List.map_append] at h ⊢
              rw [hzl, List.length_cons, Nat.add_sub_cancel, List.set_append_right _ _ (by rw [List.length_map, List.length_reverse]; exact Nat.le_refl _), List.length_map, List.length_reverse, Nat.sub_self] at h
              rw [hzl, List.length_cons, Nat.add_sub_cancel]
              exact h
            refine ⟨fun u q hu => ?_, ((L3.mono (s5.trans s6)).upd), same_upd (y2.trans (s5.trans s6)) hg, _, _, _, rfl, upd_same, by rw [hjt, hid_cons_upd]; exact hz6⟩
            rw [hid_cons_upd]
            exact (y1.trans (hid_mono (s5.trans s6))) u q hu
          case no1 =>
            have e3 : jstep (a :: acc) x = x :: a :: acc := if_neg (of_decide_eq_false e)
            rw [e3] at hjt
            refine rb_appPair (M := M) (xv_name 1 rfl) (s5 _ _ hgz) (by omega) (xv_name 2 rfl) (xv_name 3 rfl) (hzs.up (hid_mono s5)) (L3.mono s5) (fun v H7 b1 b2 b3 b4 b5 => rb_nil (rb_nil ?_))
            refine ⟨(y1.trans (hid_mono s5)).trans b1, b3, fun u q hu => b2 u q (ne_of_none hu hg) ((y2.trans s5) u q hu), _, _, _, rfl, b4, ?_⟩
            rw [hjt, List.reverse_cons, List.map_append]
            exact b5
      · obtain ⟨y1, L3, y2, zs, a2, a3, rfl, hgz, hzs⟩ := w
        refine rb_retR (XV.go (xv_name 1 rfl) fun H5 s5 => q g zs H5 (y2.trans s5) hg (s5 _ _ hgz) ?_)
        rw [List.length_map, List.take_length] at hzs
        exact (hzs.up (hid_mono s5)).up hid_weak
end
end Zn

set_option Elab.async false
set_option linter.all false
set_option maxRecDepth 100000
set_option maxHeartbeats 8000000
namespace Zn
open PySem PySem.Spec PyProof.Rows L2 Dl
open Pm (Pl Pt pt withC longN over upto allP nextM offB)
/-! k36: change_stretches -/
abbrev sChStr : Stmt := top 48
/-- a pair of whole numbers -/
def RS (K : PySem.W.Frag) : Rl (Int × Int) := ⟨fun H v x => Dq K H v (stepD x), fun s h => h.up s⟩
theorem rs_dq {K : PySem.W.Frag} {H : Hp} : ∀ {xs : List V} {bs : List (Int × Int)}, RAll (RS K) H xs bs → DqAll K H xs (bs.map stepD)
  | _, _, .nil => .nil
  | _, _, .cons a b => .cons a (rs_dq b)
theorem dq_rs {K : PySem.W.Frag} {H : Hp} : ∀ {bs : List (Int × Int)} {xs : List V}, DqAll K H xs (bs.map stepD) → RAll (RS K) H xs bs
  | [], _, h => by cases h; exact .nil
  | b :: bs, _, h => by cases h with | cons a c => exact .cons a (dq_rs c)
def spChStr (K : PySem.W.Frag) (CK : Addr) : Sp := fun vs H Q _ => ∃ (M : List Addr) (ka : Addr) (vl : V) (k : Kd) (kb : Bool) (es : List Step), vs = [.ref ka, vl] ∧ Live M H ∧ KAt K CK (hid M H) ka k ∧ KOk k ∧ Dq K (hid M H) vl (sqD kb (es.map stepD)) ∧ LogOk (es.map stepD) es ∧ (strAll k es).length ≤ 1000 ∧
  ∀ y xs H1, Same H H1 → H y = none → H1 y = some (.lst xs) → DqAll K (hid M H1) xs ((joinL (srtP (strAll k es))).map stepD) → Q (.ref y) H1
section
variable {X : Cx} {M : List Addr} {σ : L2.St} {H : Hp} {e1 e2 e3 : Expr} {pos p1 : Pos} {f a : Addr} {fd : FuncData} {CK CP : Addr} {k : Kd} {p : Pl} {pts : List Pt}
/-- stretches_in(kind, plan, points) -/
theorem xgl_strIn (L : Live M H) (G : FnOk X.prog X.w X.K X.mg X.base CX0 3 f fd ["kind", "plan", "points"] (spStrIn X.K CK CP)) (hr : Room 3 X.A) (FF : Df X.K X.mg "stretches_in" sStrIn ["kind", "plan", "points"] f fd) (ho : XV X σ H e1 (.ref a)) (hk : KAt X.K CK (hid M H) a k) (hp : XG X M σ H e2 (RPl X.K CP) p) (hq : XD X M σ H e3 (.list (pts.map ptD)))
    (h1 : p.sl.length = p.ea.length) (h2 : p.ea.length ≤ 1000) (h3 : ∀ z ∈ p.sl, ∃ r : Nat, z = (r : Int) ∧ r + 1 < pts.length)
    (hg : Gl X "stretches_in" := by rfl) (he : starEach [e1, e2, e3] X.env = (false, eval e1 X.env) :: starEach [e2, e3] X.env := by rfl) (he2 : starEach [e2, e3] X.env = (false, eval e2 X.env) :: starEach [e3] X.env := by rfl) (he3 : starEach [e3] X.env = (false, eval e3 X.env) :: starEach [] X.env := by rfl) (hpl : (backTo pos (starEach [e2, e3] X.env)).any (·.1) = false := by rfl) :
    XGL X M σ H (.Call (.Name "stretches_in" p1) [e1, e2, e3] [] pos) (RS X.K) (strOf k.ap pts p) := fun H1 s Q q =>
  re_call G hr FF.g FF.F.kp FF.b (ra_cons (ho H1 s _ fun Ha sa => ra_cons (hp Ha (s.trans sa) _ fun vp Hb sb hvp => ra_1 (hq Hb ((s.trans sa).trans sb) _ fun vq Hc sc hvq =>
    ⟨M, a, vp, vq, k, p, pts, rfl, L.mono (((s.trans sa).trans sb).trans sc), hk.up (hid_mono (((s.trans sa).trans sb).trans sc)), (RPl X.K CP).up (hid_mono sc) hvp, hvq, h1, h2, h3, fun y xs H3 s3 hy h3' hx => q y xs H3 (((sa.trans sb).trans sc).trans s3) (((sa.trans sb).trans sc).free hy) h3' (dq_rs hx)⟩) he3) he2) he) hg (by decide) he hpl
end
section
variable {P : Program} {w : World} {K : PySem.W.Frag} {mg : Str → Option Value} {base : Heap} {C CK CP CZ : Addr}
abbrev csN : List Str := ["kind", "log", "points", "stretch", "plan"]
theorem scChStr : FnScope csN ["kind", "log"] (defScope sChStr) := ⟨rfl, rfl, rfl, by decide +kernel, rfl, by decide +kernel, by decide +kernel⟩
theorem ok_chStr {f fK fL fF fQ fS fJ : Addr} {fd fdK fdL fdF fdQ fdS fdJ : FuncData} (GK : FnOk P w K mg base CX0 1 fK fdK ["value"] (spNeedK K CK)) (FK : Df K mg "need_kind" sNeedK ["value"] fK fdK)
    (GL : FnOk P w K mg base CX0 3 fL fdL ["value"] (spR K RNeedL)) (FL : Df K mg "need_log" sNeedL ["value"] fL fdL) (GF : FnOk P w K mg base CX0 5 fF fdF ["kind", "points"] (spPFor K CK CP)) (FF : Df K mg "plans_for" sPFor ["kind", "points"] fF fdF)
    (GQ : FnOk P w K mg base CX0 1 fQ fdQ ["log"] (spL K RPts)) (FQ : Df K mg "points_of" sPtsOf ["log"] fQ fdQ)
    (GS : FnOk P w K mg base CX0 3 fS fdS ["kind", "plan", "points"] (spStrIn K CK CP)) (FS : Df K mg "stretches_in" sStrIn ["kind", "plan", "points"] fS fdS) (GJ : FnOk P w K mg base CX0 1 fJ fdJ ["stretches"] (spL K RJoin)) (FJ : Df K mg "joined" sJoined ["stretches"] fJ fdJ)
    (F : Df K mg "change_stretches" sChStr ["kind", "log"] f fd) : FnOk P w K mg base CX0 6 f fd ["kind", "log"] (spChStr K CK) := by
  refine F.F.ok scChStr (fun vs H Q E h => ?_) (fun cdv A outer s H vs Q E hr h => ?_)
  · obtain ⟨M, ka, vl, k, kb, es, rfl, _⟩ := h; rfl
  · obtain ⟨M, ka, vl, k, kb, es, rfl, L, hk, ko, hl, lo, hn, q⟩ := h
    have l1 := lo.l1
    have l2 := lo.l2
    refine rb_exprR (re_call GK (hr.mono (by decide)) FK.g FK.F.kp FK.b (ra_1 (XV.go (xv_name 0 rfl) fun H1 s1 => ⟨M, ka, k, rfl, hk.up (hid_mono s1), fun H2 s2 => ?_⟩)))
    have s02 := s1.trans s2
    refine rb_expr (M := M) (d := .none) (xd_call (L.mono s02) GL (hr.mono (by decide)) FL.g FL.F.kp FL.b (xa_cons (xd_name 1 rfl (hl.up (hid_mono s02))) xa_nil) ⟨kb, _, es, rfl, lo, rfl⟩) fun H3 s3 => ?_
    have s03 := s02.trans s3
    have L3 := L.mono s03
    refine rb_setL 2 (M := M) (xl_call (ds2 := (ptsOf es).map ptD) L3 GQ (hr.mono (by decide)) FQ.g FQ.F.kp FQ.b (xa_cons (xd_name 1 rfl (hl.up (hid_mono s03))) xa_nil) ⟨kb, es, rfl, by omega, rfl⟩) (fun pq xq H4 s4 hpq h4 hxq => ?_) scChStr.nd
    have s04 := s03.trans s4
    have L4 := L.mono s04
    have kq4 : Dq K (hid M H4) (.ref pq) (.list ((ptsOf es).map ptD)) := .lst (by rw [hid_of (L3.fresh hpq)]; exact h4) hxq
    have hk4 := hk.up (hid_mono (M := M) s04)
    have hmm : k.mo = (k.mo.toNat : Int) := (Int.toNat_of_nonneg ko.m0).symm
    have hpl := pts_len es
    have e0 : allP (isort k.js) k.ap k.mo (ptsOf es) ((ptsOf es).length - 1) = plans0 k es := by rw [hpl]; rfl
    have esf : (allP (isort k.js) k.ap k.mo (ptsOf es) ((ptsOf es).length - 1)).flatMap (fun t => (strOf k.ap (ptsOf es) t).map fun b => b) = strAll k es := by
      rw [e0]
      unfold strAll
      congr 1
      funext t
      rw [List.map_id']
      rfl
    refine rb_retR (XL.go (M := M) (xl_call (ds2 := (joinL (srtP (strAll k es))).map stepD) L4 GJ (hr.mono (by decide)) FJ.g FJ.F.kp FJ.b (xa_cons (fun Hx sx Qx qx => (xgl_comp2 (own := [("stretch", 3), ("plan", 4)]) (vs1 := [3]) (Ra := RPl K CP) (Rm := RS K) (Ro := RS K) (strOf k.ap (ptsOf es)) (fun _ b => b) L4 scChStr.nd (XGL.dd (xgl_pfor (CP := CP) (k := k) (pts := ptsOf es) L4 GF (hr.mono (by decide)) FF (xv_name 0 rfl) hk4 (xd_name 2 rfl kq4) (by rw [hpl]; exact l1) (by rw [hpl]; omega) (by rw [hpl]; exact bound12 ko.js.2.2.2 (by omega) (mo3 ko)) ko) L4) (blkOk_by (own := [("stretch", 3), ("plan", 4)]) (N := csN) (sc := defScope sChStr) (by decide +kernel)) (by decide) (by rw [esf]; omega) (fun y5 t v5 H5 ht hy5 s5 L5 hv5 => ?cmp)) Hx sx _ fun p xs H6 s6 hp h6 hx => qx _ H6 s6 (.lst (by rw [hid_of ((L4.mono sx).fresh hp)]; exact h6) (rs_dq (by rw [esf] at hx; exact hx)))) xa_nil) ⟨strAll k es, rfl, hn, rfl⟩) fun y xs H6 s6 hy h6 hx => q y xs H6 (s04.trans s6) (s04.free hy) h6 hx)
    have htp : t ∈ plans0 k es := by rw [← e0]; exact ht
    obtain ⟨fp, g⟩ := plan_pts ko (cov0 lo.asc l1) l1 htp
    obtain ⟨g1, g2⟩ := g.slot
    have gk := hid_step (M := M) hy5 s5
    have hl3 := g.sm.l3
    have hl1 := g.l1
    intro s0 H0 C0 cl fp2
    refine rg_name 4 ⟨rfl, Same.refl _, fun s0 H0 C0 cl fp => ?_, fun ed w H7 he s7 L7 hw => ?_⟩ scChStr.nd
    · refine (xgl_strIn (CK := CK) (CP := CP) (k := k) (p := t) (pts := ptsOf es) L5 GS (hr.mono (by decide)) FS (xv_name 0 rfl) (hk4.up gk) (xg_v (xv_name 4 rfl) hv5) (xd_name 2 rfl (kq4.up gk)) g1 (by omega) fun z hz => ?_).dd L5
      obtain ⟨i, hi⟩ := List.mem_iff_getElem?.mp hz
      have hil := (List.getElem?_eq_some_iff.mp hi).1
      obtain ⟨r, e, hr2, _⟩ := g2 i _ z (List.getElem?_eq_getElem (show i < t.ea.length by omega)) hi
      exact ⟨r, e, by rw [hpl]; omega⟩
    · intro s0 H0 C0 cl fp
      refine rg_name 3 ⟨rfl, Same.refl _, fun s0 H0 C0 cl fp => ?_⟩ scChStr.nd
      exact XV.go (xv_name 3 rfl) fun H8 s8 => ⟨s8, (RS K).up (hid_mono s8) hw⟩
end
end Zn

set_option Elab.async false
set_option linter.all false
set_option maxRecDepth 100000
set_option maxHeartbeats 8000000
namespace Dl
open PySem PySem.Spec PyProof.Rows L2
section
variable {α γ : Type} {Ra : Rl α} {Ro : Rl γ} {X : Cx} {M : List Addr} {σ : L2.St} {H : Hp} {elt tg iter : Expr} {scope : Scope} {own : List (Str × Nat)} {pos : Pos} {ts : List α}
/-- [elt for tg in iter], iter a list of things -/
theorem xgl_comp (f : α → γ) (L : Live M H) (hN : X.N.Nodup) (hit : XG X M σ H iter Ra.lst ts) (ok : BlkOk X.N X.env.scope scope own) (hz : ts.length ≤ 100000)
    (hst : ∀ p t v H1, t ∈ ts → H p = none → Same H H1 → Live (p :: M) H1 → Ra.r (hid (p :: M) H1) v t → BG X scope tg v (wipe σ (own.map (·.2))) H1 fun σ2 H2 => wipe σ2 (own.map (·.2)) = wipe σ (own.map (·.2)) ∧
      Same H1 H2 ∧ BE X scope elt σ2 H2 fun y H4 => Same H2 H4 ∧ Ro.r (hid (p :: M) H4) y (f t))
    (hc : X.calm = true := by rfl) (hs : ∀ x, foldedSetIterable iter X.env x = pure x := by intro _; rfl) : XGL X M σ H (.ListComp elt [⟨tg, iter, [], 0⟩] scope pos) Ro (ts.map f) := fun H1 s1 Q q =>
  ⟨_, pe_lc (own := own) hc hN (pi_list re_) ok (fun _ _ _ _ _ => bg_) (fun _ _ _ _ _ => bt_) (fun _ _ _ _ _ => be_) hs,
    lc_compG (own := own) (Q := Q) f (L.mono s1) (hit.up s1) hz (fun p t v H2 ht hp s2 => hst p t v H2 ht (s1.free hp) (s1.trans s2)) (fun p xs H2 s2 hp h2 hx => q p xs H2 s2 hp h2 hx)⟩
end
end Dl
namespace Zn
open PySem PySem.Spec PyProof.Rows L2 Dl
open Pm (Pl Pt pt withC longN over upto allP nextM offB)
/-! k36: changes_between -/
abbrev sBetw : Stmt := top 47
def RI (K : PySem.W.Frag) : Rl Int := ⟨fun H v x => Dq K H v (.int x), fun s h => h.up s⟩
theorem ri_dq {K : PySem.W.Frag} {H : Hp} : ∀ {xs : List V} {bs : List Int}, RAll (RI K) H xs bs → DqAll K H xs (bs.map PyData.int)
  | _, _, .nil => .nil
  | _, _, .cons a b => .cons a (ri_dq b)
def cntsP (k : Kd) (es : List Step) (s : Nat) : List Int := (plans0 k es).map (cntP s)
def betwP (k : Kd) (es : List Step) : List (Int × Int) := (List.range (es.length - 1)).map fun s => (mn (cntsP k es s), mx (cntsP k es s))
def spBetw (K : PySem.W.Frag) (CK : Addr) : Sp := fun vs H Q _ => ∃ (M : List Addr) (ka : Addr) (vl : V) (k : Kd) (kb : Bool) (es : List Step), vs = [.ref ka, vl] ∧ Live M H ∧ KAt K CK (hid M H) ka k ∧ KOk k ∧ Dq K (hid M H) vl (sqD kb (es.map stepD)) ∧ LogOk (es.map stepD) es ∧
  (plans0 k es = [] → ∀ H1, Same H H1 → Q .non H1) ∧
  (plans0 k es ≠ [] → ∀ y xs H1, Same H H1 → H y = none → H1 y = some (.lst xs) → DqAll K (hid M H1) xs ((betwP k es).map stepD) → Q (.ref y) H1)
def unInt : PyData → Option Int
  | .int i => some i
  | _ => none
theorem un_ints : ∀ l : List Int, (l.map PyData.int).filterMap unInt = l
  | [] => rfl
  | s :: st => by
    rw [List.map_cons, List.filterMap_cons, show unInt (.int s) = some s from rfl]
    show s :: _ = s :: st
    rw [un_ints st]
def gMM : PyData → Option PyData
  | .list l => some (stepD (mn (l.filterMap unInt), mx (l.filterMap unInt)))
  | _ => none
theorem mm_data (k : Kd) (es : List Step) : ∀ l : List Nat, (l.map fun s => PyData.list ((cntsP k es s).map PyData.int)).filterMap gMM = (l.map fun s => ((mn (cntsP k es s), mx (cntsP k es s)) : Int × Int)).map stepD
  | [] => rfl
  | s :: l => by
    rw [List.map_cons, List.filterMap_cons, show gMM (.list ((cntsP k es s).map PyData.int)) = some (stepD (mn (((cntsP k es s).map PyData.int).filterMap unInt), mx (((cntsP k es s).map PyData.int).filterMap unInt))) from rfl, un_ints, List.map_cons, List.map_cons, mm_data k es l]
section
variable {P : Program} {w : World} {K : PySem.W.Frag} {mg : Str → Option Value} {base : Heap} {C CK CP CZ : Addr}
abbrev cbN : List Str := ["kind", "log", "plans", "counts", "slot", "plan", "row"]
theorem scBetw : FnScope cbN ["kind", "log"] (defScope sBetw) := ⟨rfl, rfl, rfl, by decide +kernel, rfl, by decide +kernel, by decide +kernel⟩
theorem ok_betw {f fK fL fF fQ : Addr} {fd fdK fdL fdF fdQ : FuncData} (T : Nm mg) (W : PT K mg CP) (GK : FnOk P w K mg base CX0 1 fK fdK ["value"] (spNeedK K CK)) (FK : Df K mg "need_kind" sNeedK ["value"] fK fdK)
    (GL : FnOk P w K mg base CX0 3 fL fdL ["value"] (spR K RNeedL)) (FL : Df K mg "need_log" sNeedL ["value"] fL fdL) (GF : FnOk P w K mg base CX0 5 fF fdF ["kind", "points"] (spPFor K CK CP)) (FF : Df K mg "plans_for" sPFor ["kind", "points"] fF fdF)
    (GQ : FnOk P w K mg base CX0 1 fQ fdQ ["log"] (spL K RPts)) (FQ : Df K mg "points_of" sPtsOf ["log"] fQ fdQ)
    (F : Df K mg "changes_between" sBetw ["kind", "log"] f fd) : FnOk P w K mg base CX0 6 f fd ["kind", "log"] (spBetw K CK) := by
  refine F.F.ok scBetw (fun vs H Q E h => ?_) (fun cdv A outer s H vs Q E hr h => ?_)
  · obtain ⟨M, ka, vl, k, kb, es, rfl, _⟩ := h; rfl
  · obtain ⟨M, ka, vl, k, kb, es, rfl, L, hk, ko, hl, lo, qn, qs⟩ := h
    have l1 := lo.l1
    have l2 := lo.l2
    refine rb_exprR (re_call GK (hr.mono (by decide)) FK.g FK.F.kp FK.b (ra_1 (XV.go (xv_name 0 rfl) fun H1 s1 => ⟨M, ka, k, rfl, hk.up (hid_mono s1), fun H2 s2 => ?_⟩)))
    have s02 := s1.trans s2
    refine rb_expr (M := M) (d := .none) (xd_call (L.mono s02) GL (hr.mono (by decide)) FL.g FL.F.kp FL.b (xa_cons (xd_name 1 rfl (hl.up (hid_mono s02))) xa_nil) ⟨kb, _, es, rfl, lo, rfl⟩) fun H3 s3 => ?_
    have s03 := s02.trans s3
    have L3 := L.mono s03
    have hpl := pts_len es
    refine rb_setGL 2 (M := M) (R := RPl K CP) (xgl_pfor (k := k) (pts := ptsOf es) L3 GF (hr.mono (by decide)) FF (xv_name 0 rfl) (hk.up (hid_mono s03)) (XL.dd (xl_call L3 GQ (hr.mono (by decide)) FQ.g FQ.F.kp FQ.b (xa_cons (xd_name 1 rfl (hl.up (hid_mono s03))) xa_nil) ⟨kb, es, rfl, by omega, rfl⟩) L3) (by rw [hpl]; exact l1) (by rw [hpl]; omega) (by rw [hpl]; exact bound12 ko.js.2.2.2 (by omega) (mo3 ko)) ko) (fun y xs H4 s4 hy h4 hx => ?_) scBetw.nd
    have e0 : allP (isort k.js) k.ap k.mo (ptsOf es) ((ptsOf es).length - 1) = plans0 k es := by rw [hpl]; rfl
    rw [e0] at hx
    have s04 := s03.trans s4
    have L4 := L.mono s04
    have kp4 : (RPl K CP).lst.r (hid M H4) (.ref y) (plans0 k es) := ⟨y, xs, rfl, by rw [hid_of (L3.fresh hy)]; exact h4, hx⟩
    have hlen : (plans0 k es).length ≤ 100000 := by
      have hmm : k.mo = (k.mo.toNat : Int) := (Int.toNat_of_nonneg ko.m0).symm
      have := Pm.all_len (js := isort k.js) (ap := k.ap) (pts := ptsOf es) hmm (es.length - 1)
      rw [len_isort] at this
      exact Nat.le_trans this (bound12 ko.js.2.2.2 (by omega) (mo3 ko))
    refine rb_if (k := (plans0 k es).isEmpty) (XT.to (xt_not (xt_listG (M := M) (xg_v (xv_name 2 rfl) kp4))) (Bool.not_not _)) (fun e H5 s5 => ?_) (fun e H5 s5 => rb_nil ?_)
    · have ep : plans0 k es = [] := List.isEmpty_iff.mp e
      exact rb_ret (M := M) xd_non fun v H6 s6 hv => by rw [dp_non hv]; exact qn ep H6 ((s04.trans s5).trans s6)
    · have ep : plans0 k es ≠ [] := fun z => by rw [z] at e; cases e
      have s05 := s04.trans s5
      have L5 := L.mono s05
      have kp5 := (RPl K CP).lst.up (hid_mono (M := M) s5) kp4
      have hl5 := hl.up (hid_mono (M := M) s05)
      refine rb_setRD 3 (M := M) (own := [("slot", 4)]) (es.length - 1) (by omega) (fun s => .list ((cntsP k es s).map PyData.int)) T.rng L5 scBetw.nd ?len (blkOk_by (own := [("slot", 4)]) (N := cbN) (sc := defScope sBetw) (by decide +kernel)) (fun p i H6 hi hp s6 Lp => ?outer) (fun yc xc H6 s6 hyc h6 hxc => ?rest)
      case len =>
        refine XD.to (xd_sub (xd_lenQ T.len (xd_name 1 rfl hl5)) xd_int) ?_
        rw [List.length_map]
        congr 1
        omega
      case outer =>
        have kp6 := (RPl K CP).lst.up (hid_step (M := M) hp s6) kp5
        intro s0 H0 C0 cl fp
        refine rg_name 4 ⟨rfl, Same.refl _, fun s0 H0 C0 cl fp => ?_⟩ scBetw.nd
        refine XGL.go (M := p :: M) (R := RI K) (xgl_comp (own := [("plan", 5)]) (Ra := RPl K CP) (Ro := RI K) (cntP i) Lp scBetw.nd (xg_v (xv_name 2 rfl) kp6) (blkOk_by (by rfl)) hlen (fun p2 t v H7 ht hp2 s7 Lp2 hv => ?inner)) fun y2 x2 H8 s8 hy2 h8 hx8 => ⟨s8, .lst (by rw [hid_of (Lp.fresh hy2)]; exact h8) (ri_dq hx8)⟩
        obtain ⟨pa, rfl, hpt⟩ := hv
        intro s0 H0 C0 cl fp
        refine rg_name 5 ⟨rfl, Same.refl _, fun s0 H0 C0 cl fp => ?_⟩ scBetw.nd
        exact XD.go (M := p2 :: p :: M) (xd_countI (k := (i : Int)) (xd_pslots (p := t) ⟨_, W⟩ hpt (xv_name 5 rfl)) (xv_name 4 rfl)) fun v H9 s9 hv9 => ⟨s9, by
          have e : cntP i t = ((t.sl.count (i : Int) : Nat) : Int) := (count_cnt t.sl i).symm
          show Dq K _ v (.int (cntP i t))
          rw [e]
          exact hv9⟩
      case rest =>
        have L6 := L5.mono s6
        have kc6 : Dq K (hid M H6) (.ref yc) (.list ((List.range (es.length - 1)).map fun s => .list ((cntsP k es s).map PyData.int))) := .lst (by rw [hid_of (L5.fresh hyc)]; exact h6) hxc
        have hne : ∀ s, cntsP k es s ≠ [] := fun s z => ep (List.map_eq_nil_iff.mp z)
        refine rb_retR (XL.go (M := M) (XL.to (xl_comp (own := [("row", 6)]) gMM L6 scBetw.nd (xd_name 3 rfl kc6) (blkOk_by (own := [("row", 6)]) (N := cbN) (sc := defScope sBetw) (by decide +kernel)) (by rw [List.length_map, List.length_range]; omega) (fun pc d v H7 hd hpp s7 Lp hv => ?cmm)) (mm_data k es _)) fun y2 x2 H7 s7 hy2 h7 hx7 => qs ep y2 x2 H7 ((s05.trans s6).trans s7) ((s05.trans s6).free hy2) h7 hx7)
        obtain ⟨sx, _, rfl⟩ := List.mem_map.mp hd
        intro s0 H0 C0 cl fp
        refine rg_name 6 ⟨rfl, bt_nil ⟨Same.refl _, .inl ⟨rfl, _, rfl, fun s0 H0 C0 cl fp => ?_⟩⟩⟩ scBetw.nd
        have eu := un_ints (cntsP k es sx)
        show RE _ _ _ _ _
        refine XD.go (M := pc :: M) (xd_tup (ds := [.int (mn (cntsP k es sx)), .int (mx (cntsP k es sx))]) Lp (xa_cons (xd_minL T.min (hne sx) (xd_name 6 rfl hv)) (xa_cons (xd_maxL T.max (hne sx) (xd_name 6 rfl hv)) xa_nil))) fun v H8 s8 hv8 => ⟨s8, ?_⟩
        rw [eu]
        exact hv8
end
end Zn

set_option Elab.async false
set_option linter.all false
set_option maxRecDepth 100000
set_option maxHeartbeats 8000000
namespace Zn
open PySem PySem.Spec PyProof.Rows L2 Dl
open Pm (Pl Pt pt withC longN over upto allP nextM offB)
/-! k36: numbers of changes by the law's placings; _law_can_change -/
abbrev sLCan : Stmt := top 65
theorem fm_pick {α : Type} {f : PyData → Option PyData} {g : α → PyData} {b : α → Bool} (e : ∀ s, f (g s) = if b s then some (g s) else none) : ∀ st : List α, (st.map g).filterMap f = (st.filter b).map g
  | [] => rfl
  | s :: st => by
    rw [List.map_cons, List.filterMap_cons, e s]
    cases z : b s with
    | true => rw [if_pos rfl, List.filter_cons_of_pos z, List.map_cons, fm_pick e st]
    | false => rw [if_neg (by simp), List.filter_cons_of_neg (by rw [z]; simp), fm_pick e st]
def unStep : PyData → Option Step
  | .tuple [.int a, .int b] => some (a, b)
  | _ => none
theorem un_steps : ∀ st : List Step, (st.map stepD).filterMap unStep = st
  | [] => rfl
  | s :: st => by
    rw [List.map_cons, List.filterMap_cons, show unStep (stepD s) = some s from rfl]
    show s :: _ = s :: st
    rw [un_steps st]
def cntsZ (k : Kd) (es : List Step) (s : Nat) : List Int := (fitL k es []).map fun x => cntZ (pt (ptsOf es) s).1 (pt (ptsOf es) (s + 1)).1 x.2
theorem cnts_same {k : Kd} {es : List Step} {s : Nat} (ko : KOk k) (ha : Ascd es) (h1 : 1 ≤ es.length) (hs : s < es.length - 1) (n : Int) : n ∈ cntsP k es s ↔ n ∈ cntsZ k es s := by
  unfold cntsP cntsZ
  rw [List.mem_map, List.mem_map]
  constructor
  · rintro ⟨p, hp, rfl⟩
    obtain ⟨f, g⟩ := plan_pts ko (cov0 ha h1) h1 hp
    exact ⟨_, g.fit, cnt_plan (cov0 ha h1) g hs⟩
  · rintro ⟨⟨f, st⟩, hx, rfl⟩
    obtain ⟨p, hp, e⟩ := cnt_zone ko ha h1 hs (fitL_sound ko hx)
    exact ⟨p, hp, e⟩
theorem plans_empty {k : Kd} {es : List Step} (ko : KOk k) (ha : Ascd es) (h1 : 1 ≤ es.length) : (fitL k es []).isEmpty = (plans0 k es).isEmpty := fit_empty ko ha h1
def betwZ (k : Kd) (es : List Step) : List (Int × Int) := (List.range (es.length - 1)).map fun s => (mn (cntsZ k es s), mx (cntsZ k es s))
theorem betw_same {k : Kd} {es : List Step} (ko : KOk k) (ha : Ascd es) (h1 : 1 ≤ es.length) (hne : plans0 k es ≠ []) : betwP k es = betwZ k es := by
  unfold betwP betwZ
  refine List.map_congr_left fun s hs => ?_
  rw [List.mem_range] at hs
  have hz : fitL k es [] ≠ [] := fun z => by
    have := plans_empty ko ha h1
    rw [z] at this
    cases e : plans0 k es with
    | nil => exact hne e
    | cons _ _ => rw [e] at this; cases this
  have n1 : cntsP k es s ≠ [] := fun z => hne (List.map_eq_nil_iff.mp z)
  have n2 : cntsZ k es s ≠ [] := fun z => hz (List.map_eq_nil_iff.mp z)
  rw [mn_same (cnts_same ko ha h1 hs) n1 n2, mx_same (cnts_same ko ha h1 hs) n1 n2]
def gHit (t : Int) : PyData → Option PyData
  | .tuple [.int f, .list l] => if decide (t ∈ (l.filterMap unStep).map (·.1)) then some (.tuple [.int f, .list l]) else none
  | _ => none
theorem gHit_plan (t : Int) (x : Int × List Step) : gHit t (planD' x) = if hitB t x then some (planD' x) else none := by
  have e : gHit t (planD' x) = if decide (t ∈ ((x.2.map stepD).filterMap unStep).map (·.1)) then some (planD' x) else none := rfl
  rw [e, un_steps]
  rfl
def gMom : PyData → Option PyData
  | .tuple [.int a, _] => some (.int a)
  | _ => none
theorem mom_data : ∀ st : List Step, (st.map stepD).filterMap gMom = (st.map (·.1)).map PyData.int
  | [] => rfl
  | s :: st => by
    rw [List.map_cons, List.filterMap_cons, show gMom (stepD s) = some (.int s.1) from rfl, List.map_cons, List.map_cons, mom_data st]
def RLCan (ds : List PyData) (d : PyData) : Prop := ∃ (k : Kd) (es : List Step) (e0 eL : Step) (t : Int), ds = [kindD k, .list (es.map stepD), .int t] ∧ FitOk k es [t, t - 1] ∧ es[0]? = some e0 ∧ es.getLast? = some eL ∧ (fitL k es [t, t - 1]).length ≤ 100000 ∧ d = .bool (canB k es e0 eL t)
section
variable {P : Program} {w : World} {K : PySem.W.Frag} {mg : Str → Option Value} {base : Heap} {C CK CP CZ : Addr}
abbrev ccN : List Str := ["_law_plain", "_law_log_here", "_law_moment", "_law_zones", "_law_plan", "_law_step"]
theorem scLCan : FnScope ccN ["_law_plain", "_law_log_here", "_law_moment"] (defScope sLCan) := ⟨rfl, rfl, rfl, by decide +kernel, rfl, by decide +kernel, by decide +kernel⟩
theorem ok_lcan {f fL : Addr} {fd fdL : FuncData} (GL : FnOk P w K mg base CX0 2 fL fdL ["_law_kind_here", "_law_log_here", "_law_more"] (spL K RLFit)) (FL : Df K mg "_law_fitting" sLFit ["_law_kind_here", "_law_log_here", "_law_more"] fL fdL)
    (F : Df K mg "_law_can_change" sLCan ["_law_plain", "_law_log_here", "_law_moment"] f fd) : FnOk P w K mg base CX0 3 f fd ["_law_plain", "_law_log_here", "_law_moment"] (spR K RLCan) := by
  refine F.F.ok scLCan (fun vs H Q E h => ?_) (fun cdv A outer s H vs Q E hr h => ?_)
  · obtain ⟨M, ds, d, L, hd, ⟨k, es, e0, eL, t, rfl, _⟩, q⟩ := h
    exact dpa_len hd
  · obtain ⟨M, ds, d, L, hd, ⟨k, es, e0, eL, t, rfl, fo, h0, hL, hln, rfl⟩, q⟩ := h
    cases hd with
    | cons h1 hd => cases hd with
      | cons h2 hd => cases hd with
        | cons h3 hd =>
          cases hd
          have e3 := dp_int h3
          subst e3
          rename_i v0 v1
          have h0d : atI (es.map stepD) ((0 : Nat) : Int) = some (stepD e0) := atI_nat (by rw [List.getElem?_map, h0]; rfl)
          have h0d : atI (es.map stepD) 0 = some (stepD e0) := h0d
          refine rb_if (k := !(decide (e0.1 < t) && decide (t ≤ eL.1))) ?tst (fun e H1 s1 => ?yes) (fun e H1 s1 => rb_nil ?no)
          case tst => exact xt_not (xt_chainI (M := M) op_lt op_le (xd_ixT (fun _ _ => rfl) (xd_ixL (fun _ _ => rfl) (xd_name 1 rfl h2) xd_int h0d) xd_int step0) (xv_name 2 rfl).int (xd_ixT (fun _ _ => rfl) (xd_ixL (fun _ _ => rfl) (xd_name 1 rfl h2) (xd_neg xd_int) (last_step hL)) xd_int step0))
          case yes =>
            have e' : canB k es e0 eL t = false := by
              unfold canB
              rw [Bool.not_eq_true'] at e
              rw [e]
              rfl
            exact rb_ret (M := M) xd_bl fun v H2 s2 hv => q v H2 (s1.trans s2) (by rw [e']; exact hv)
          case no =>
            have e' : canB k es e0 eL t = !((fitL k es [t, t - 1]).filter (hitB t)).isEmpty := by
              unfold canB
              rw [Bool.not_eq_false'] at e
              rw [e]
              rfl
            have L1 := L.mono s1
            have g1 := h1.up (hid_mono (M := M) s1)
            have g2 := h2.up (hid_mono (M := M) s1)
            refine rb_setL 3 (M := M) (xl_call (ds2 := (fitL k es [t, t - 1]).map planD') L1 GL hr FL.g FL.F.kp FL.b (xa_cons (xd_name 0 rfl g1) (xa_cons (xd_name 1 rfl g2) (xa_cons (xd_lst (ds := [.int t, .int (t - 1)]) L1 (xa_cons (xv_name 2 rfl).int (xa_cons (xd_sub (xv_name 2 rfl).int xd_int) xa_nil))) xa_nil))) ⟨k, es, [t, t - 1], rfl, fo, rfl⟩) (fun pz xz H2 s2 hpz hz2 hxz => ?_) scLCan.nd
            have L2' := L1.mono s2
            have kz : Dq K (hid M H2) (.ref pz) (.list ((fitL k es [t, t - 1]).map planD')) := .lst (by rw [hid_of (L1.fresh hpz)]; exact hz2) hxz
            refine rb_ret (M := M) (d := .bool (canB k es e0 eL t)) (XD.to (xd_neD hr.units (XL.dd (XL.to (xl_comp (own := [("_law_plan", 4)]) (gHit t) L2' scLCan.nd (xd_name 3 rfl kz) (blkOk_by (own := [("_law_plan", 4)]) (N := ccN) (sc := defScope sLCan) (by decide +kernel)) (by rw [List.length_map]; exact hln) (fun p d v H3 hd hp s3 Lp hv => ?cmp)) (fm_pick (gHit_plan t) _)) L2') (xd_lst L2' xa_nil) (shaped_plans _) shaped_nil) (by
                rw [eqv_list_nil, e']
                cases (fitL k es [t, t - 1]).filter (hitB t) <;> rfl)) fun v H3 s3 hv => q v H3 ((s1.trans s2).trans s3) hv
            obtain ⟨x, hx, rfl⟩ := List.mem_map.mp hd
            have hv0 : Dq K (hid (p :: M) H3) v (planD' x) := hv
            have hvp : Dq K (hid (p :: M) H3) v (.tuple [.int x.1, .list (x.2.map stepD)]) := hv
            have hlx : x.2.length ≤ 100000 := by
              have := (fitL_sound fo.ko (show (x.1, x.2) ∈ fitL k es [t, t - 1] from hx)).len
              have := fo.ko.m1
              omega
            intro s0 H0 C0 cl fp
            refine rg_name 4 ⟨rfl, bt_one (k := hitB t x) (fun s0 H0 C0 cl fp => ?tin) fun H4 s4 => ⟨s4, ?post⟩⟩ scLCan.nd
            case post =>
              cases eb : hitB t x with
              | true => exact .inl ⟨rfl, planD' x, by rw [gHit_plan, eb]; rfl, fun s0 H0 C0 cl fp => XV.go (xv_name 4 rfl) fun H5 s5 => ⟨s5, hv0.up (hid_mono (s4.trans s5))⟩⟩
              | false => exact .inr ⟨rfl, by rw [gHit_plan, eb]; rfl⟩
            case tin =>
              show XT _ _ _ _ (decide (t ∈ x.2.map (·.1)))
              refine xt_inS (M := p :: M) (ns := x.2.map (·.1)) (sq := .list ((x.2.map (·.1)).map PyData.int)) (.inl rfl) ?aa ?bb ?mm
              case aa => exact (xv_name 2 rfl).int
              case mm => rfl
              refine XL.dd (XL.to (xl_comp (own := [("_law_step", 5)]) gMom Lp scLCan.nd ?it ?bk (by rw [List.length_map]; exact hlx) (fun p2 d2 v2 H4 hd2 hp2 s4 Lp2 hv2 => ?cc)) (mom_data _)) Lp
              case it => exact xd_ixT (fun _ _ => rfl) (xd_name 4 rfl hvp) xd_int rfl
              case bk => exact blkOk_by (by rfl)
              obtain ⟨sx, _, rfl⟩ := mem_step hd2
              have hv2' : Dq K (hid (p2 :: p :: M) H4) v2 (stepD sx) := hv2
              intro s0 H0 C0 cl fp
              refine rg_name 5 ⟨rfl, bt_nil ⟨Same.refl _, .inl ⟨rfl, _, rfl, fun s0 H0 C0 cl fp => ?_⟩⟩⟩ scLCan.nd
              exact XD.go (M := p2 :: p :: M) (xd_ixT (fun _ _ => rfl) (xd_name 5 rfl hv2') xd_int step0) fun v5 H5 s5 hv5 => ⟨s5, hv5⟩
end
end Zn

set_option Elab.async false
set_option linter.all false
set_option maxRecDepth 100000
set_option maxHeartbeats 8000000
namespace Dl
open PySem PySem.Spec PyProof.Rows L2
section
variable {X : Cx} {M : List Addr} {σ : L2.St} {H : Hp} {a b : Expr} {p1 p2 pos tpos : Pos} {D : Ends} {rest : List Stmt} {ds ds2 : List PyData}
/-- for x, y in zip(a, b), lists of any lengths -/
theorem rb_forZip {body : List Stmt} {elts : List Expr} {kk : Nat} (hm : X.mg "zip" = none) (ha : XD X M σ H a (.list ds)) (hb : XD X M σ H b (.list ds2))
    (h : ∀ H1, Same H H1 → ∃ Pv : Nat → L2.St → Hp → Prop, Pv 0 σ H1 ∧ (∀ k σ' H', Pv k σ' H' → Same (hid M H1) (hid M H')) ∧
      (∀ k d d2, ds[k]? = some d → ds2[k]? = some d2 → ∀ σ' H' T x y, Pv k σ' H' → H' T = none → Dq X.K (hid M H') x d → Dq X.K (hid M H') y d2 → RG X (.Tuple elts kk tpos) (.ref T) σ' (upd H' T (.tup [x, y])) fun σ2 H2 => RB X body { D with nx := Pv (k + 1), ct := Pv (k + 1), bk := RB X rest D } σ2 H2) ∧ ∀ σ' H', Pv (min ds.length ds2.length) σ' H' → RB X rest D σ' H')
    (hp : PassesOwn (model X.prog X.w) X.A X.env X.xe := by exact PassesOwn.never) (hc : X.calm = true := by rfl) (hg : Gl X "zip" := by rfl) (he : starEach [a, b] X.env = (false, eval a X.env) :: starEach [b] X.env := by rfl) (he2 : starEach [b] X.env = (false, eval b X.env) :: starEach [] X.env := by rfl) (hpl : (backTo p2 (starEach [b] X.env)).any (·.1) = false := by rfl) (hs : ∀ x, foldedSetIterable (.Call (.Name "zip" p1) [a, b] [] p2) X.env x = pure x := by intro _; rfl) :
    RB X (.For (.Tuple elts kk tpos) (.Call (.Name "zip" p1) [a, b] [] p2) body [] pos :: rest) D σ H :=
  ⟨_, pss_cons (ps_for hp hc (pi_zip hg hm ra_ he hpl) rg_ rb_ hs) rb_, ra_cons (ha H (Same.refl H) _ fun v H2 s2 hv => ra_1 (hb H2 s2 _ fun u H3 s3 hu => by
    obtain ⟨pa, xs, rfl, hpa, hx⟩ := dp_lst (hv.up (hid_mono s3))
    obtain ⟨pb, ys, rfl, hpb, hy⟩ := dp_lst hu
    have hlx := dpa_len hx
    have hly := dpa_len hy
    obtain ⟨Pv, h0, hk, hst, hd⟩ := h H3 (s2.trans s3)
    refine ⟨pa, pb, xs, ys, rfl, SqL.of (hid_le _ _ hpa), SqL.of (hid_le _ _ hpb), fun i m σ' H' => m + i = min xs.length ys.length ∧ Pv i σ' H', ⟨min xs.length ys.length, rfl, h0⟩, fun i m σ' H' w => ?_⟩
    obtain ⟨hmi, hpv⟩ := w
    have gk := hk i σ' H' hpv
    have ga : SqL X.K H' pa xs := SqL.of (hid_le _ _ (gk _ _ hpa))
    have gb : SqL X.K H' pb ys := SqL.of (hid_le _ _ (gk _ _ hpb))
    by_cases hlt : i < min xs.length ys.length
    · have l1 : i < xs.length := by omega
      have l2 : i < ys.length := by omega
      refine .inr ⟨⟨xs, ys, xs[i], ys[i], ga, gb, List.getElem?_eq_getElem l1, List.getElem?_eq_getElem l2⟩, Pv (i + 1), fun σ2 H2 hh => ⟨m - 1, by omega, by omega, hh⟩, fun v Hy hyl => ?_⟩
      obtain ⟨T, y, z, rfl, hT, rfl, h1, h2⟩ := hyl
      obtain ⟨d, hd1, hd2⟩ := dpa_get' hx (h1 xs ga)
      obtain ⟨d2, hd3, hd4⟩ := dpa_get' hy (h2 ys gb)
      exact hst i d d2 hd1 hd3 σ' H' T y z hpv hT (hd2.up gk) (hd4.up gk)
    · exact .inl ⟨⟨xs, ys, ga, gb, by omega⟩, hd σ' H' (by
        have e : i = min ds.length ds2.length := by omega
        rw [← e]; exact hpv)⟩) he2) he⟩
end
end Dl
namespace Zn
open PySem PySem.Spec PyProof.Rows L2 Dl
open Pm (Pl Pt pt withC longN over upto allP nextM offB)
/-! k36: _law_between -/
abbrev sLBetw : Stmt := top 64
def cntE (es : List Step) (s : Nat) (x : Int × List Step) : Int := cntZ (pt (ptsOf es) s).1 (pt (ptsOf es) (s + 1)).1 x.2
def betwL (zs : List (Int × List Step)) (es : List Step) (n : Nat) : List (Int × Int) := (List.range n).map fun s => (mn (zs.map (cntE es s)), mx (zs.map (cntE es s)))
def RLBetw (ds : List PyData) (d : PyData) : Prop := ∃ (zs : List (Int × List Step)) (es : List Step), ds = [.list (zs.map planD'), .list (es.map stepD)] ∧ zs.length ≤ 100000 ∧ (∀ x ∈ zs, x.2.length ≤ 1000) ∧ es.length ≤ 1000 ∧ d = (if zs.isEmpty then .none else .list ((betwL zs es (es.length - 1)).map stepD))
end Zn

set_option Elab.async false
set_option linter.all false
set_option maxRecDepth 100000
set_option maxHeartbeats 8000000
namespace Zn
open PySem PySem.Spec PyProof.Rows L2 Dl
open Pm (Pl Pt pt withC longN over upto allP nextM offB)
def gCnt (a b : Int) : PyData → Option PyData
  | .tuple [_, .list l] => some (.int (((l.filterMap unStep).filter fun s => decide (a < s.1) && decide (s.1 ≤ b)).length : Int))
  | _ => none
theorem gCnt_plan (a b : Int) (x : Int × List Step) : gCnt a b (planD' x) = some (.int (cntZ a b x.2)) := by
  show some (PyData.int ((((x.2.map stepD).filterMap unStep).filter fun s => decide (a < s.1) && decide (s.1 ≤ b)).length : Int)) = _
  rw [un_steps]
  rfl
theorem cnt_data (a b : Int) : ∀ l : List (Int × List Step), (l.map planD').filterMap (gCnt a b) = (l.map fun x => cntZ a b x.2).map PyData.int
  | [] => rfl
  | x :: l => by rw [List.map_cons, List.filterMap_cons, gCnt_plan, List.map_cons, List.map_cons, cnt_data a b l]
def gIn (a b : Int) : PyData → Option PyData
  | .tuple [.int m, _] => if (decide (a < m) && decide (m ≤ b)) = true then some (.int 1) else none
  | _ => none
theorem in_len (a b : Int) : ∀ st : List Step, (((st.map stepD).filterMap (gIn a b)).length : Int) = cntZ a b st
  | [] => rfl
  | s :: st => by
    have ih := in_len a b st
    unfold cntZ at ih ⊢
    rw [List.map_cons, List.filterMap_cons, List.filter_cons]
    have e : gIn a b (stepD s) = if (decide (a < s.1) && decide (s.1 ≤ b)) = true then some (.int 1) else none := rfl
    rw [e]
    by_cases h : (decide (a < s.1) && decide (s.1 ≤ b)) = true
    · rw [if_pos h, if_pos h]
      simp only [List.length_cons]
      omega
    · rw [if_neg h, if_neg h]
      exact ih
section
variable {P : Program} {w : World} {K : PySem.W.Frag} {mg : Str → Option Value} {base : Heap} {C CK CP CZ : Addr}
abbrev lbN : List Str := ["_law_zones", "_law_log_here", "_law_found", "_law_one", "_law_other", "_law_counts", "_law_plan", "_law_step"]
theorem scLBetw : FnScope lbN ["_law_zones", "_law_log_here"] (defScope sLBetw) := ⟨rfl, rfl, rfl, by decide +kernel, rfl, by decide +kernel, by decide +kernel⟩
theorem ok_lbetw {f : Addr} {fd : FuncData} (T : Nm mg) (hz : mg "zip" = none) (F : Df K mg "_law_between" sLBetw ["_law_zones", "_law_log_here"] f fd) : FnOk P w K mg base CX0 1 f fd ["_law_zones", "_law_log_here"] (spR K RLBetw) := by
  refine F.F.ok scLBetw (fun vs H Q E h => ?_) (fun cdv A outer s H vs Q E hr h => ?_)
  · obtain ⟨M, ds, d, L, hd, ⟨zs, es, rfl, _⟩, q⟩ := h
    exact dpa_len hd
  · obtain ⟨M, ds, d, L, hd, ⟨zs, es, rfl, hzl, hzs, hel, rfl⟩, q⟩ := h
    cases hd with
    | cons h1 hd => cases hd with
      | cons h2 hd =>
        cases hd
        rename_i v0 v1
        refine rb_if (k := zs.isEmpty) ?tst (fun e H1 s1 => ?yes) (fun e H1 s1 => rb_nil ?no)
        case tst => exact XT.to (xt_eqD (M := M) hr.units (xd_name 0 rfl h1) (xd_lst L xa_nil) (shaped_plans _) shaped_nil) (by rw [eqv_list_nil]; cases zs <;> rfl)
        case yes => exact rb_ret (M := M) xd_non fun v H2 s2 hv => q v H2 (s1.trans s2) (by rw [if_pos e]; exact hv)
        case no =>
          have hne : zs ≠ [] := fun z => by rw [z] at e; cases e
          have L1 := L.mono s1
          refine rb_setL 2 (M := M) (xl_lst L1 xa_nil) (fun g xs H2 s2 hg hg2 hx => ?_) scLBetw.nd
          cases hx
          have s02 := s1.trans s2
          have hg0 : H g = none := s1.free hg
          have Lg : Live (g :: M) H2 := live_new L1 s2 (by rw [hg2]; simp)
          have ngM : g ∉ M := fun z => L g z hg0
          have g02 : Same (hid M H) (hid (g :: M) H2) := hid_step hg0 s02
          have k1 := h1.up g02
          have k2 := h2.up g02
          have hcut : Dl.cutD (es.map stepD) (some 1) none = (es.drop 1).map stepD := by rw [cut1, List.map_drop]
          refine rb_forZip (M := g :: M) (ds := es.map stepD) (ds2 := (es.drop 1).map stepD) hz (xd_name 1 rfl k2) (XD.to (XL.dd (xl_cut Lg (xd_name 1 rfl k2) (xo_some (M := g :: M) xd_int) xo_none) Lg) (by rw [hcut])) fun H3 s3 =>
            ⟨fun i σ' H' => Same (hid (g :: M) H3) (hid (g :: M) H') ∧ Live (g :: M) H' ∧ Same H H' ∧ ∃ zz a3 a4 a5 a6 a7, σ' = [some v0, some v1, some (.ref g), a3, a4, a5, a6, a7] ∧ H' g = some (.lst zz) ∧ DqAll K (hid (g :: M) H') zz ((betwL zs es i).map stepD),
              ⟨Same.refl _, Lg.mono s3, s02.trans s3, [], none, none, none, none, none, rfl, s3 _ _ hg2, .nil⟩, fun i σ' H' w => w.1, fun i d d2 hd hd2 σ' H' TT x y w hTT hxx hyy => ?step, fun σ' H' w => ?done⟩
          case done =>
            obtain ⟨y1, L3, y2, zz, a3, a4, a5, a6, a7, rfl, hgz, hzz⟩ := w
            have em : min (es.map stepD).length ((es.drop 1).map stepD).length = es.length - 1 := by rw [List.length_map, List.length_map, List.length_drop]; omega
            rw [em] at hzz
            refine rb_retR (XV.go (xv_name 2 rfl) fun H5 s5 => q (.ref g) H5 (y2.trans s5) ?_)
            rw [if_neg (by rw [e]; simp)]
            exact .lst (by rw [hid_of ngM]; exact s5 _ _ hgz) ((hzz.up (hid_mono s5)).up hid_weak)
          case step =>
            obtain ⟨y1, L3, y2, zz, a3, a4, a5, a6, a7, rfl, hgz, hzz⟩ := w
            rw [List.getElem?_map] at hd
            rw [List.getElem?_map, List.getElem?_drop, Nat.add_comm 1 i] at hd2
            cases ea : es[i]? with
            | none => rw [ea] at hd; cases hd
            | some ei => cases eb : es[i + 1]? with
              | none => rw [eb] at hd2; cases hd2
              | some ej =>
                rw [ea] at hd
                rw [eb] at hd2
                cases hd
                cases hd2
                have hp1 : (pt (ptsOf es) i).1 = ei.1 := by rw [pts_at ea]
                have hp2 : (pt (ptsOf es) (i + 1)).1 = ej.1 := by rw [pts_at eb]
                have sT : Same H' (upd H' TT (.tup [x, y])) := same_new hTT
                generalize hHT : upd H' TT (.tup [x, y]) = HT at sT
                have hT : HT TT = some (.tup [x, y]) := by rw [← hHT]; exact upd_same
                have gk := (hid_mono (M := g :: M) s3).trans (y1.trans (hid_mono (M := g :: M) sT))
                have k1' := k1.up gk
                have hxx' : Dq K (hid (g :: M) HT) x (stepD ei) := hxx.up (hid_mono (M := g :: M) sT)
                have hyy' : Dq K (hid (g :: M) HT) y (stepD ej) := hyy.up (hid_mono (M := g :: M) sT)
                have LT := L3.mono sT
                refine rg_tup (SqT.of hT) (rgs_cons (rg_name 3 (rgs_cons (rg_name 4 (rgs_nil ?_) scLBetw.nd)) scLBetw.nd))
                refine rb_setC0 5 (M := g :: M) (own := [("_law_plan", 6)]) (ds := zs.map planD') (gCnt ei.1 ej.1) LT scLBetw.nd (xd_name 0 rfl k1') (blkOk_by (own := [("_law_plan", 6)]) (N := lbN) (sc := defScope sLBetw) (by decide +kernel)) (by rw [List.length_map]; exact hzl) (fun p d v H5 hd hp s5 Lp hv => ?outer) (fun pc xc H5 s5 hpc h5 hxc => ?rest)
                case outer =>
                  obtain ⟨pl, hpl, rfl⟩ := List.mem_map.mp hd
                  have hv' : Dq K (hid (p :: g :: M) H5) v (.tuple [.int pl.1, .list (pl.2.map stepD)]) := hv
                  have gi := hid_step (M := g :: M) hp s5
                  have hx5 := hxx'.up gi
                  have hy5 := hyy'.up gi
                  intro s0 H0 C0 cl fp
                  refine rg_name 6 ⟨rfl, bt_nil ⟨Same.refl _, .inl ⟨rfl, _, gCnt_plan ei.1 ej.1 pl, fun s0 H0 C0 cl fp => ?_⟩⟩⟩ scLBetw.nd
                  refine XD.go (M := p :: g :: M) (d := .int (cntZ ei.1 ej.1 pl.2)) (XD.to (xd_len T.len (XL.dd (xl_comp (own := [("_law_step", 7)]) (ds := pl.2.map stepD) (gIn ei.1 ej.1) Lp scLBetw.nd ?it ?bk (by rw [List.length_map]; have := hzs pl hpl; omega) (fun p2 d2 v2 H6 hd2 hp2 s6 Lp2 hv2 => ?cc)) Lp)) (by rw [in_len])) fun v5 H7 s7 hv7 => ⟨s7, hv7⟩
                  case it => exact xd_ixT (fun _ _ => rfl) (xd_name 6 rfl hv') xd_int rfl
                  case bk => exact blkOk_by (by rfl)
                  obtain ⟨sx, _, rfl⟩ := mem_step hd2
                  have hv2' : Dq K (hid (p2 :: p :: g :: M) H6) v2 (stepD sx) := hv2
                  have gj := hid_step (M := p :: g :: M) hp2 s6
                  intro s0 H0 C0 cl fp
                  refine rg_name 7 ⟨rfl, bt_one (k := decide (ei.1 < sx.1) && decide (sx.1 ≤ ej.1)) (fun s0 H0 C0 cl fp => ?tin) fun H8 s8 => ⟨s8, ?post⟩⟩ scLBetw.nd
                  case tin => exact xt_chainI (M := p2 :: p :: g :: M) op_lt op_le (xd_ixT (fun _ _ => rfl) (xd_name 3 rfl (hx5.up gj)) xd_int step0) (xd_ixT (fun _ _ => rfl) (xd_name 7 rfl hv2') xd_int step0) (xd_ixT (fun _ _ => rfl) (xd_name 4 rfl (hy5.up gj)) xd_int step0)
                  case post =>
                    have eg : gIn ei.1 ej.1 (stepD sx) = if (decide (ei.1 < sx.1) && decide (sx.1 ≤ ej.1)) = true then some (.int 1) else none := rfl
                    cases ek : (decide (ei.1 < sx.1) && decide (sx.1 ≤ ej.1)) with
                    | true => exact .inl ⟨rfl, .int 1, by rw [eg, ek]; rfl, fun s0 H0 C0 cl fp => XD.go (M := p2 :: p :: g :: M) xd_int fun v9 H9 s9 hv9 => ⟨s9, hv9⟩⟩
                    | false => exact .inr ⟨rfl, by rw [eg, ek]; rfl⟩
                case rest =>
                  rw [cnt_data] at hxc
                  have hcn : (zs.map fun x => cntZ ei.1 ej.1 x.2) ≠ [] := fun z => hne (List.map_eq_nil_iff.mp z)
                  have kc : Dq K (hid (g :: M) H5) (.ref pc) (.list ((zs.map fun x => cntZ ei.1 ej.1 x.2).map PyData.int)) := .lst (by rw [hid_of (LT.fresh hpc)]; exact h5) hxc
                  have hgT := sT _ _ hgz
                  have L5 := LT.mono s5
                  have hzz5 := hzz.up (hid_mono (M := g :: M) (sT.trans s5))
                  have hzlen : zz.length ≤ i := by rw [dpa_len hzz, List.length_map]; unfold betwL; rw [List.length_map, List.length_range]; exact Nat.le_refl _
                  have hil := (List.getElem?_eq_some_iff.mp ea).1
                  have kc' := kc.up (hid_weak (M := M) (p := g))
                  refine rb_appPair (M := M) (xv_name 2 rfl) (s5 _ _ hgT) (by omega) (xd_minL (M := M) T.min hcn (xd_name 5 rfl kc')).vint (xd_maxL (M := M) T.max hcn (xd_name 5 rfl kc')).vint hzz5 L5 (fun v H7 b1 b2 b3 b4 b5 => rb_nil ?_)
                  refine ⟨(y1.trans (hid_mono (sT.trans s5))).trans b1, b3, fun u q hu => b2 u q (ne_of_none hu hg0) ((y2.trans (sT.trans s5)) u q hu), _, _, _, _, _, _, rfl, b4, ?_⟩
                  have eb2 : betwL zs es (i + 1) = betwL zs es i ++ [(mn (zs.map fun x => cntZ ei.1 ej.1 x.2), mx (zs.map fun x => cntZ ei.1 ej.1 x.2))] := by
                    have ec : (zs.map fun x => cntZ ei.1 ej.1 x.2) = zs.map (cntE es i) := List.map_congr_left fun x _ => by unfold cntE; rw [hp1, hp2]
                    unfold betwL
                    rw [List.range_succ, List.map_append, ec]
                    rfl
                  rw [eb2, List.map_append]
                  exact b5
end
end Zn

set_option Elab.async false
set_option linter.all false
set_option maxRecDepth 100000
set_option maxHeartbeats 8000000
namespace Zn
open PySem PySem.Spec PyProof.Rows L2 Dl
open Pm (Pl Pt pt withC longN over upto allP nextM offB)
/-! k36: _law_stretches_right -/
abbrev sLStr : Stmt := top 67
structure Few (k : Kd) (es : List Step) : Prop where
  ko : KOk k
  m2 : k.mo ≤ 2
  l1 : 1 ≤ es.length
  l3 : es.length ≤ 3
  asc : Ascd es
theorem few_fit {k : Kd} {es : List Step} (n : Few k es) (t : Int) : FitOk k es [t, t - 1] := by
  have l1 := n.l1
  have l3 := n.l3
  have m0 := n.ko.m0
  have m2 := n.m2
  refine ⟨n.ko, m2, by omega, ?_⟩
  have h := Nat.mul_le_mul (show es.length + ([t, t - 1] : List Int).length ≤ 5 by simp; omega) (show 2 * (k.mo.toNat + 1) ≤ 6 by omega)
  omega
theorem tryL_le (es : List Step) (r ms : List Int) : (tryL es r ms).length ≤ 1 := by unfold tryL; split <;> simp
theorem few_len {k : Kd} {es : List Step} (n : Few k es) (more : List Int) (hm : more.length ≤ 2) : (fitL k es more).length ≤ 100000 := by
  have l3 := n.l3
  have m0 := n.ko.m0
  have m2 := n.m2
  have hj4 := n.ko.js.2.2.2
  have han : (srt (anchL k.ap (k.mo.toNat + 1) (es.map (·.1) ++ more))).length ≤ 30 := by
    refine Nat.le_trans (srt_len _) ?_
    rw [anchL_len, List.length_append, List.length_map]
    have := Nat.mul_le_mul (show es.length + more.length ≤ 5 by omega) (show 2 * (k.mo.toNat + 1) ≤ 6 by omega)
    omega
  unfold fitL
  generalize srt (anchL k.ap (k.mo.toNat + 1) (es.map (·.1) ++ more)) = an at han ⊢
  have h := Pm.flat_len (fun r : List Int => (placed k.ap an r.length).flatMap (tryL es r)) 900 (rowsL k.js k.mo.toNat) fun r hr => by
    have hr2 := (rowsL_mem.mp hr).1
    have := Pm.flat_len (tryL es r) 1 (placed k.ap an r.length) fun x _ => tryL_le es r x
    have h2 := placed_len k.ap an r.length
    have h3 : an.length ^ r.length ≤ 30 ^ 2 := Nat.le_trans (Nat.pow_le_pow_left han _) (Nat.pow_le_pow_right (by decide) (by omega))
    omega
  have h2 := rowsL_len k.js k.mo.toNat
  have h3 : (1 + k.js.length) ^ k.mo.toNat ≤ 5 ^ 2 := Nat.le_trans (Nat.pow_le_pow_left (by omega) _) (Nat.pow_le_pow_right (by decide) (by omega))
  have := Nat.mul_le_mul_right 900 (Nat.le_trans h2 h3)
  omega
def spLStr (K : PySem.W.Frag) : Sp := fun vs H Q _ => ∃ (M : List Addr) (vp vpl vl vt : V) (b : Bool) (k : Kd) (es : List Step) (f : Int) (st : List Step) (L36 : List (Int × Int)), vs = [vp, vpl, vl, vt, .bl b] ∧ Live M H ∧ Dq K (hid M H) vp (kindD k) ∧ Dq K (hid M H) vpl (planD f st) ∧ Dq K (hid M H) vl (.list (es.map stepD)) ∧ Dq K (hid M H) vt (.list (L36.map stepD)) ∧ Few k es ∧ L36.length ≤ 1000 ∧ Told36 L36 (Can k es) ∧ (b = true → Fz k es f st) ∧
  ∀ H1, Same H H1 → Q (.bl true) H1
def gCov (t : Int) : PyData → Option PyData
  | .tuple [.int a, .int b] => if (decide (a ≤ t) && decide (t ≤ b)) = true then some (.int 1) else none
  | _ => none
theorem cov_data (t : Int) : ∀ L : List (Int × Int), ((L.map stepD).filterMap (gCov t)).isEmpty = !decide (∃ x ∈ L, x.1 ≤ t ∧ t ≤ x.2)
  | [] => by simp
  | x :: L => by
    rw [List.map_cons, List.filterMap_cons]
    have e : gCov t (stepD x) = if (decide (x.1 ≤ t) && decide (t ≤ x.2)) = true then some (.int 1) else none := rfl
    rw [e]
    by_cases h : (decide (x.1 ≤ t) && decide (t ≤ x.2)) = true
    · rw [if_pos h]
      rw [Bool.and_eq_true, decide_eq_true_eq, decide_eq_true_eq] at h
      rw [decide_eq_true ⟨x, List.mem_cons_self .., h⟩]
      rfl
    · rw [if_neg h]
      show ((L.map stepD).filterMap (gCov t)).isEmpty = _
      rw [cov_data t L]
      rw [Bool.and_eq_true, decide_eq_true_eq, decide_eq_true_eq] at h
      congr 1
      refine decide_eq_decide.mpr ⟨fun ⟨y, hy, g⟩ => ⟨y, List.mem_cons_of_mem _ hy, g⟩, fun ⟨y, hy, g⟩ => ?_⟩
      rcases List.mem_cons.mp hy with z | z
      · rw [z] at g; exact absurd g h
      · exact ⟨y, z, g⟩
theorem cov_ints (t : Int) : ∀ L : List (Int × Int), ∃ ns : List Int, (L.map stepD).filterMap (gCov t) = ns.map PyData.int
  | [] => ⟨[], rfl⟩
  | x :: L => by
    obtain ⟨ns, h⟩ := cov_ints t L
    rw [List.map_cons, List.filterMap_cons]
    have e : gCov t (stepD x) = if (decide (x.1 ≤ t) && decide (t ≤ x.2)) = true then some (.int 1) else none := rfl
    rw [e]
    by_cases g : (decide (x.1 ≤ t) && decide (t ≤ x.2)) = true
    · rw [if_pos g]
      exact ⟨1 :: ns, by rw [List.map_cons, ← h]⟩
    · rw [if_neg g]
      exact ⟨ns, h⟩
theorem can_of_zone {k : Kd} {es : List Step} {e0 eL : Step} {f t : Int} {st : List Step} (ha : Ascd es) (h0 : es[0]? = some e0) (hL : es.getLast? = some eL) (fz : Fz k es f st) (ht : t ∈ st.map (·.1)) : Can k es t ↔ (e0.1 < t ∧ t ≤ eL.1) := by
  constructor
  · rintro ⟨_, _, _, _, ⟨e1, he1, g1⟩, ⟨e2, he2, g2⟩⟩
    have a1 := first_le ha h0 he1
    have a2 := last_ge ha hL he2
    exact ⟨by omega, by omega⟩
  · rintro ⟨a, b⟩
    exact ⟨f, st, fz, ht, ⟨e0, List.mem_of_getElem? h0, a⟩, ⟨eL, List.mem_of_getLast? hL, b⟩⟩
section
variable {P : Program} {w : World} {K : PySem.W.Frag} {mg : Str → Option Value} {base : Heap} {C CK CP CZ : Addr}
abbrev lsN : List Str := ["_law_plain", "_law_plan", "_law_log_here", "_law_told", "_law_fits_it", "_law_last", "_law_low", "_law_high", "_law_moment", "_law_jump", "_law_within"]
theorem scLStr : FnScope lsN ["_law_plain", "_law_plan", "_law_log_here", "_law_told", "_law_fits_it"] (defScope sLStr) := ⟨rfl, rfl, rfl, by decide +kernel, rfl, by decide +kernel, by decide +kernel⟩
theorem ok_lstr {f fC : Addr} {fd fdC : FuncData} (GC : FnOk P w K mg base CX0 3 fC fdC ["_law_plain", "_law_log_here", "_law_moment"] (spR K RLCan)) (FC : Df K mg "_law_can_change" sLCan ["_law_plain", "_law_log_here", "_law_moment"] fC fdC)
    (F : Df K mg "_law_stretches_right" sLStr ["_law_plain", "_law_plan", "_law_log_here", "_law_told", "_law_fits_it"] f fd) : FnOk P w K mg base CX0 4 f fd ["_law_plain", "_law_plan", "_law_log_here", "_law_told", "_law_fits_it"] (spLStr K) := by
  refine F.F.ok scLStr (fun vs H Q E h => ?_) (fun cdv A outer s H vs Q E hr h => ?_)
  · obtain ⟨M, vp, vpl, vl, vt, b, k, es, f0, st, L36, rfl, _⟩ := h; rfl
  · obtain ⟨M, vp, vpl, vl, vt, b, k, es, f0, st, L36, rfl, L, hp, hpl, hl, ht, fw, h36, tl, hfz, q⟩ := h
    have ko := fw.ko
    have asc := fw.asc
    have l1 := fw.l1
    obtain ⟨e0, he0⟩ : ∃ e0, es[0]? = some e0 := ⟨es[0]'(by omega), List.getElem?_eq_getElem (by omega)⟩
    obtain ⟨eL, heL⟩ : ∃ el, es.getLast? = some el := by
      cases z : es.getLast? with
      | none => rw [List.getLast?_eq_none_iff] at z; rw [z] at l1; simp at l1
      | some el => exact ⟨el, rfl⟩
    refine rb_set 5 (M := M) (d := .none) xd_non (fun v1 H1 s1 hv1 => ?_) scLStr.nd
    have ev1 := dp_non hv1
    subst ev1
    have ht1 := ht.up (hid_mono (M := M) s1)
    refine rb_for (M := M) (ds := L36.map stepD) (xd_name 3 rfl ht1) fun H2 s2 => ⟨fun i σ' H' => Same H2 H' ∧ ∃ v5 a6 a7 a8, σ' = [some vp, some vpl, some vl, some vt, some (.bl b), some v5, a6, a7, a8, none, none] ∧ ((i = 0 ∧ v5 = .non) ∨ ∃ x, 0 < i ∧ L36[i - 1]? = some x ∧ v5 = .int x.2),
      ⟨Same.refl _, .non, none, none, none, rfl, .inl ⟨rfl, rfl⟩⟩, fun i σ' H' w => hid_mono w.1, fun i d hd σ' H' v w hv => ?step, fun σ' H' w => ?done⟩
    case step =>
      obtain ⟨sH, v5, a6, a7, a8, rfl, hlast⟩ := w
      obtain ⟨x, hx0, rfl⟩ := map_get hd
      have hxm := List.mem_of_getElem? hx0
      obtain ⟨t, rfl, htt⟩ := step_at hv
      have hxl := tl.le x hxm
      have s0x := (s1.trans s2).trans sH
      have Lx := L.mono s0x
      refine rg_tup (same_seqT hid_le htt) (rgs_cons (rg_name 6 (rgs_cons (rg_name 7 (rgs_nil ?_) scLStr.nd)) scLStr.nd))
      refine rb_ifF ?tst fun H3 s3 => ?_
      case tst =>
        rcases hlast with ⟨_, e⟩ | ⟨y, hi, hy, e⟩
        · subst e
          refine XT.to (xt_or2 (k1 := false) (k2 := false) (XT.to (xt_cmpI (M := M) op_gt (xv_name 6 rfl).int (xv_name 7 rfl).int) (decide_eq_false (by omega))) fun _ => ?_) rfl
          exact XT.to (xt_and2 (k1 := false) (k2 := false) (XT.to (xt_notNone (M := M) (d := .none) (xd_name 5 rfl .non)) rfl) fun z => absurd z (by decide)) rfl
        · subst e
          have hpw : y.2 + 1 < x.1 := by
            obtain ⟨l1, q1⟩ := List.getElem?_eq_some_iff.mp hy
            obtain ⟨l2, q2⟩ := List.getElem?_eq_some_iff.mp hx0
            have := List.pairwise_iff_getElem.mp tl.pw (i - 1) i l1 l2 (by omega)
            rw [q1, q2] at this
            exact this
          refine XT.to (xt_or2 (k1 := false) (k2 := false) (XT.to (xt_cmpI (M := M) op_gt (xv_name 6 rfl).int (xv_name 7 rfl).int) (decide_eq_false (by omega))) fun _ => ?_) rfl
          exact XT.to (xt_and2 (k1 := true) (k2 := false) (XT.to (xt_notNone (M := M) (d := .int y.2) (xd_name 5 rfl (.int _))) rfl) fun _ => XT.to (xt_cmpI (M := M) op_le (xv_name 6 rfl).int (xd_add (xv_name 5 rfl).int xd_int)) (decide_eq_false (by omega))) rfl
      refine rb_set 5 (M := M) (d := .int x.2) (xv_name 7 rfl).int (fun v4 H4 s4 hv4 => ?_) scLStr.nd
      have ev4 := dp_int hv4
      subst ev4
      have s04 := (s0x.trans s3).trans s4
      have L4 := L.mono s04
      refine rb_for (M := M) (ds := [PyData.int x.1, .int x.2]) (xd_lst L4 (xa_cons (xv_name 6 rfl).int (xa_cons (xv_name 7 rfl).int xa_nil))) fun H5 s5 => ⟨fun j σ' H' => Same H5 H' ∧ ∃ a8, σ' = [some vp, some vpl, some vl, some vt, some (.bl b), some (.int x.2), some (.int x.1), some (.int x.2), a8, none, none],
        ⟨Same.refl _, a8, rfl⟩, fun j σ' H' w => hid_mono w.1, fun j d hd σ' H' v w hv => ?in1, fun σ' H' w => ?out1⟩
      case in1 =>
        obtain ⟨s6, a8, rfl⟩ := w
        obtain ⟨m, hm, hmC⟩ : ∃ m, d = .int m ∧ Can k es m := by
          have hdm := List.mem_of_getElem? hd
          simp only [List.mem_cons, List.not_mem_nil, or_false] at hdm
          rcases hdm with z | z
          · exact ⟨x.1, z, (tl.cov _).mp ⟨x, hxm, Int.le_refl _, hxl⟩⟩
          · exact ⟨x.2, z, (tl.cov _).mp ⟨x, hxm, hxl, Int.le_refl _⟩⟩
        subst hm
        have ev := dp_int hv
        subst ev
        have s06 := (s04.trans s5).trans s6
        refine rg_name 8 ?_ scLStr.nd
        refine rb_ifF ?tst2 fun H7 s7 => rb_nil ⟨s6.trans s7, _, rfl⟩
        case tst2 => exact XT.to (xt_not (xt_val (M := M) (k := true) (XD.to (xd_call (L.mono s06) GC hr FC.g FC.F.kp FC.b (xa_cons (xd_name 0 rfl (hp.up (hid_mono s06))) (xa_cons (xd_name 2 rfl (hl.up (hid_mono s06))) (xa_cons (xv_name 8 rfl).int xa_nil))) ⟨k, es, e0, eL, m, rfl, few_fit fw m, he0, heL, few_len fw _ (by simp), rfl⟩) (by rw [(can_iff ko asc he0 heL m).mpr hmC])))) rfl
      case out1 =>
        obtain ⟨s6, a8, rfl⟩ := w
        have s06 := (s04.trans s5).trans s6
        have L6 := L.mono s06
        refine rb_for (M := M) (ds := [PyData.int (x.1 - 1), .int (x.2 + 1)]) (xd_lst L6 (xa_cons (xd_sub (xv_name 6 rfl).int xd_int) (xa_cons (xd_add (xv_name 7 rfl).int xd_int) xa_nil))) fun H7 s7 => ⟨fun j σ' H' => Same H7 H' ∧ ∃ a8, σ' = [some vp, some vpl, some vl, some vt, some (.bl b), some (.int x.2), some (.int x.1), some (.int x.2), a8, none, none],
          ⟨Same.refl _, a8, rfl⟩, fun j σ' H' w => hid_mono w.1, fun j d hd σ' H' v w hv => ?in2, fun σ' H' w => ?out2⟩
        case in2 =>
          obtain ⟨s8, a8, rfl⟩ := w
          obtain ⟨m, hm, hmC⟩ : ∃ m, d = .int m ∧ ¬Can k es m := by
            have hdm := List.mem_of_getElem? hd
            simp only [List.mem_cons, List.not_mem_nil, or_false] at hdm
            rcases hdm with z | z
            · exact ⟨_, z, (told_beside tl hxm).1⟩
            · exact ⟨_, z, (told_beside tl hxm).2⟩
          subst hm
          have ev := dp_int hv
          subst ev
          have s08 := (s06.trans s7).trans s8
          refine rg_name 8 ?_ scLStr.nd
          refine rb_ifF ?tst3 fun H9 s9 => rb_nil ⟨s8.trans s9, _, rfl⟩
          case tst3 => exact xt_val (M := M) (k := false) (XD.to (xd_call (L.mono s08) GC hr FC.g FC.F.kp FC.b (xa_cons (xd_name 0 rfl (hp.up (hid_mono s08))) (xa_cons (xd_name 2 rfl (hl.up (hid_mono s08))) (xa_cons (xv_name 8 rfl).int xa_nil))) ⟨k, es, e0, eL, m, rfl, few_fit fw m, he0, heL, few_len fw _ (by simp), rfl⟩) (by
            have e : canB k es e0 eL m = false := by
              cases z : canB k es e0 eL m with
              | false => rfl
              | true => exact absurd ((can_iff ko asc he0 heL m).mp z) hmC
            rw [e]))
        case out2 =>
          obtain ⟨s8, a8, rfl⟩ := w
          exact rb_nil ⟨sH.trans ((s3.trans s4).trans ((s5.trans s6).trans (s7.trans s8))), _, _, _, _, rfl, .inr ⟨x, by omega, by simpa using hx0, rfl⟩⟩
    case done =>
      obtain ⟨sH, v5, a6, a7, a8, rfl, _⟩ := w
      have s0x := (s1.trans s2).trans sH
      have Lx := L.mono s0x
      refine rb_for (M := M) (ds := (if b = true then st else []).map stepD) ?it fun H3 s3 => ⟨fun j σ' H' => Same H3 H' ∧ ∃ a8 a9 a10, σ' = [some vp, some vpl, some vl, some vt, some (.bl b), some v5, a6, a7, a8, a9, a10],
        ⟨Same.refl _, a8, none, none, rfl⟩, fun j σ' H' w => hid_mono w.1, fun j d hd σ' H' v w hv => ?in3, fun σ' H' w => ?out3⟩
      case it =>
        cases b with
        | true => exact xd_ifT (xt_val (M := M) (k := true) (xd_name 4 rfl (.bl _))) (xd_ixT (fun _ _ => rfl) (xd_name 1 rfl (hpl.up (hid_mono (M := M) s0x))) xd_int plan1)
        | false => exact xd_ifF (xt_val (M := M) (k := false) (xd_name 4 rfl (.bl _))) (xd_lst Lx xa_nil)
      case out3 =>
        obtain ⟨s4, a8, a9, a10, rfl⟩ := w
        exact rb_ret (M := M) xd_bl fun v H5 s5 hv => by rw [dp_bl hv]; exact q H5 (((s0x.trans s3).trans s4).trans s5)
      case in3 =>
        obtain ⟨s4, a8, a9, a10, rfl⟩ := w
        obtain ⟨x, hx0, rfl⟩ := map_get hd
        have hb : b = true := by
          cases b with
          | true => rfl
          | false => simp at hx0
        rw [if_pos hb] at hx0
        have fz := hfz hb
        have hxs : x.1 ∈ st.map (·.1) := List.mem_map.mpr ⟨x, List.mem_of_getElem? hx0, rfl⟩
        obtain ⟨t, rfl, htt⟩ := step_at hv
        have s04 := (s0x.trans s3).trans s4
        have L4 := L.mono s04
        have ht4 := ht.up (hid_mono (M := M) s04)
        have hl4 := hl.up (hid_mono (M := M) s04)
        obtain ⟨ns, hns⟩ := cov_ints x.1 L36
        have hcv : (decide (∃ y ∈ L36, y.1 ≤ x.1 ∧ x.1 ≤ y.2)) = (decide (e0.1 < x.1) && decide (x.1 ≤ eL.1)) := by
          have h1 : (∃ y ∈ L36, y.1 ≤ x.1 ∧ x.1 ≤ y.2) ↔ (e0.1 < x.1 ∧ x.1 ≤ eL.1) := (tl.cov x.1).trans (can_of_zone asc he0 heL fz hxs)
          by_cases g : e0.1 < x.1 ∧ x.1 ≤ eL.1
          · rw [decide_eq_true (h1.mpr g), decide_eq_true g.1, decide_eq_true g.2]; rfl
          · rw [decide_eq_false fun z => g (h1.mp z)]
            by_cases g1 : e0.1 < x.1
            · rw [decide_eq_true g1, decide_eq_false fun z => g ⟨g1, z⟩]; rfl
            · rw [decide_eq_false g1]; rfl
        refine rg_tup (same_seqT hid_le htt) (rgs_cons (rg_name 8 (rgs_cons (rg_name 9 (rgs_nil ?_) scLStr.nd)) scLStr.nd))
        refine rb_set 10 (M := M) (d := .bool (decide (e0.1 < x.1) && decide (x.1 ≤ eL.1))) ?wi (fun v6 H6 s6 hv6 => ?go) scLStr.nd
        case wi =>
          refine XD.to (xd_neD (M := M) (d1 := .list ((L36.map stepD).filterMap (gCov x.1))) (d2 := .list []) hr.units (XL.dd (xl_comp (own := [("_law_low", 6), ("_law_high", 7)]) (ds := L36.map stepD) (gCov x.1) L4 scLStr.nd (xd_name 3 rfl ht4) (blkOk_by (own := [("_law_low", 6), ("_law_high", 7)]) (N := lsN) (sc := defScope sLStr) (by decide +kernel)) (by rw [List.length_map]; omega) (fun p d v H7 hd hp s7 Lp hv => ?cc)) L4) (xd_lst L4 xa_nil) (by rw [hns]; exact shaped_ints _) shaped_nil) (by
            rw [eqv_list_nil, cov_data, Bool.not_not, hcv])
          obtain ⟨y, _, rfl⟩ := mem_step hd
          obtain ⟨ty, rfl, hty⟩ := step_at hv
          intro s0 H0 C0 cl fp
          refine rg_tup (same_seqT hid_le hty) (rgs_cons (rg_name 6 (rgs_cons (rg_name 7 (rgs_nil ?_) scLStr.nd)) scLStr.nd))
          refine ⟨rfl, bt_one (k := decide (y.1 ≤ x.1) && decide (x.1 ≤ y.2)) (fun s0 H0 C0 cl fp => ?tin) fun H8 s8 => ⟨s8, ?post⟩⟩
          case tin => exact xt_chainI (M := p :: M) op_le op_le (xv_name 6 rfl).int (xv_name 8 rfl).int (xv_name 7 rfl).int
          case post =>
            have eg : gCov x.1 (stepD y) = if (decide (y.1 ≤ x.1) && decide (x.1 ≤ y.2)) = true then some (.int 1) else none := rfl
            cases ek : (decide (y.1 ≤ x.1) && decide (x.1 ≤ y.2)) with
            | true => exact .inl ⟨rfl, .int 1, by rw [eg, ek]; rfl, fun s0 H0 C0 cl fp => XD.go (M := p :: M) xd_int fun v9 H9 s9 hv9 => ⟨s9, hv9⟩⟩
            | false => exact .inr ⟨rfl, by rw [eg, ek]; rfl⟩
        case go =>
          have h0d : atI (es.map stepD) ((0 : Nat) : Int) = some (stepD e0) := atI_nat (by rw [List.getElem?_map, he0]; rfl)
          have h0d : atI (es.map stepD) 0 = some (stepD e0) := h0d
          have hl6 := hl4.up (hid_mono (M := M) s6)
          refine rb_ifF ?tst4 fun H7 s7 => rb_nil ⟨(s4.trans s6).trans s7, _, _, _, rfl⟩
          case tst4 =>
            exact XT.to (xt_neBB (M := M) (k1 := decide (e0.1 < x.1) && decide (x.1 ≤ eL.1)) (k2 := decide (e0.1 < x.1) && decide (x.1 ≤ eL.1)) (xd_name 10 rfl hv6) (xd_chainI op_lt op_le (xd_ixT (fun _ _ => rfl) (xd_ixL (fun _ _ => rfl) (xd_name 2 rfl hl6) xd_int h0d) xd_int step0) (xv_name 8 rfl).int (xd_ixT (fun _ _ => rfl) (xd_ixL (fun _ _ => rfl) (xd_name 2 rfl hl6) (xd_neg xd_int) (last_step heL)) xd_int step0))) (by rw [decide_eq_true rfl]; rfl)
end
end Zn

set_option Elab.async false
set_option linter.all false
set_option maxRecDepth 100000
set_option maxHeartbeats 8000000
namespace Zn
open PySem PySem.Spec PyProof.Rows L2 Dl
open Pm (Pl Pt pt withC longN over upto allP nextM offB)
/-! k36: two entries that lie far apart -/
def farK (j : Int) : Kd := ⟨[j], 5000, 1⟩
def farE (j F : Int) : List Step := [(5, 5), (F, F + j)]
theorem far_plans {j F : Int} (hj : j ≠ 0) (hF : 6 ≤ F) : plans0 (farK j) (farE j F) = [⟨some 0, [0], [j], [6]⟩] := by
  have e1 : isort [j] = [j] := rfl
  have e2 : ptsOf (farE j F) = [(5, some 0), (F, some j)] := by
    show [((5 : Int), some ((5 : Int) - 5)), (F, some (F + j - F))] = _
    rw [show (5 : Int) - 5 = 0 from rfl, show F + j - F = j by omega]
  unfold plans0
  rw [e2]
  show allP (isort [j]) 5000 1 [(5, some 0), (F, some j)] 1 = _
  rw [e1]
  have a0 : allP [j] 5000 1 [(5, some 0), (F, some j)] 0 = [⟨some 0, [], [], []⟩] := rfl
  have w0 : withC [j] 5000 [(5, some 0), (F, some j)] 0 ⟨some 0, [], [], []⟩ = [⟨some 0, [0], [j], [6]⟩] := by
    unfold withC
    have n : nextM 5000 [(5, some 0), (F, some j)] 0 ⟨some 0, [], [], []⟩ = 6 := rfl
    rw [n]
    have p : (pt [(5, some 0), (F, some j)] (0 + 1)).1 = F := rfl
    rw [p, if_neg (by omega)]
    rfl
  have o0 : over [j] 5000 1 [(5, some 0), (F, some j)] 0 ⟨some 0, [], [], []⟩ = [⟨some 0, [], [], []⟩, ⟨some 0, [0], [j], [6]⟩] := by
    unfold over
    show (List.range 2).flatMap _ = _
    show longN [j] 5000 [(5, some 0), (F, some j)] 0 ⟨some 0, [], [], []⟩ 0 ++ (longN [j] 5000 [(5, some 0), (F, some j)] 0 ⟨some 0, [], [], []⟩ 1 ++ []) = _
    have l1 : longN [j] 5000 [(5, some 0), (F, some j)] 0 ⟨some 0, [], [], []⟩ 1 = withC [j] 5000 [(5, some 0), (F, some j)] 0 ⟨some 0, [], [], []⟩ ++ [] := rfl
    rw [l1, w0]
    rfl
  have u1 : upto (some j) (⟨some 0, [], [], []⟩ : Pl) = [] := by
    show (if (0 : Int) + ([] : List Int).sum = j then _ else _) = _
    rw [if_neg (by simp; omega)]
  have u2 : upto (some j) (⟨some 0, [0], [j], [6]⟩ : Pl) = [⟨some 0, [0], [j], [6]⟩] := by
    show (if (0 : Int) + ([j] : List Int).sum = j then _ else _) = _
    rw [if_pos (by simp)]
  show ((allP [j] 5000 1 [(5, some 0), (F, some j)] 0).flatMap (over [j] 5000 1 [(5, some 0), (F, some j)] 0)).flatMap (upto (some j)) = _
  rw [a0]
  show (over [j] 5000 1 [(5, some 0), (F, some j)] 0 ⟨some 0, [], [], []⟩ ++ []).flatMap (upto (some j)) = _
  rw [o0]
  show upto (some j) (⟨some 0, [], [], []⟩ : Pl) ++ (upto (some j) (⟨some 0, [0], [j], [6]⟩ : Pl) ++ []) = _
  rw [u1, u2]
  rfl
theorem far_str {j F : Int} (hj : j ≠ 0) (hF : 6 ≤ F) : strAll (farK j) (farE j F) = [(6, F)] := by
  unfold strAll
  rw [far_plans hj hF]
  rfl
theorem far_join {j F : Int} (hj : j ≠ 0) (hF : 6 ≤ F) : joinL (srtP (strAll (farK j) (farE j F))) = [(6, F)] := by
  rw [far_str hj hF]
  have e : srtP [(6, F)] = [(6, F)] := by unfold srtP; simp
  rw [e]
  unfold joinL
  rw [jn_one]
  rfl
theorem far_betw {j F : Int} (hj : j ≠ 0) (hF : 6 ≤ F) : betwP (farK j) (farE j F) = [(1, 1)] := by
  unfold betwP cntsP
  rw [far_plans hj hF]
  rfl
end Zn

set_option Elab.async false
set_option linter.all false
set_option maxRecDepth 100000
set_option maxHeartbeats 8000000
namespace Zn
open PySem PySem.Spec PyProof.Rows L2 Dl
open Pm (Pl Pt pt withC longN over upto allP nextM offB)
/-! k36: _law_far_right; the program's two answers in expressions -/
abbrev sLFar : Stmt := top 68
section
variable {X : Cx} {M : List Addr} {σ : L2.St} {H : Hp} {e1 e2 : Expr} {pos p1 : Pos} {f a : Addr} {fd : FuncData} {CK : Addr} {k : Kd} {es : List Step} {kb : Bool}
theorem xl_chStr (L : Live M H) (G : FnOk X.prog X.w X.K X.mg X.base CX0 6 f fd ["kind", "log"] (spChStr X.K CK)) (hr : Room 6 X.A) (FF : Df X.K X.mg "change_stretches" sChStr ["kind", "log"] f fd) (ho : XV X σ H e1 (.ref a)) (hk : KAt X.K CK (hid M H) a k) (ko : KOk k) (hb : XD X M σ H e2 (sqD kb (es.map stepD))) (hl : LogOk (es.map stepD) es) (hn : (strAll k es).length ≤ 1000)
    (hg : Gl X "change_stretches" := by rfl) (he : starEach [e1, e2] X.env = (false, eval e1 X.env) :: starEach [e2] X.env := by rfl) (he2 : starEach [e2] X.env = (false, eval e2 X.env) :: starEach [] X.env := by rfl) (hpl : (backTo pos (starEach [e2] X.env)).any (·.1) = false := by rfl) :
    XL X M σ H (.Call (.Name "change_stretches" p1) [e1, e2] [] pos) ((joinL (srtP (strAll k es))).map stepD) := fun H1 s Q q =>
  re_call G hr FF.g FF.F.kp FF.b (ra_cons (ho H1 s _ fun Ha sa => ra_1 (hb Ha (s.trans sa) _ fun vl Hb sb hvl =>
    ⟨M, a, vl, k, kb, es, rfl, L.mono ((s.trans sa).trans sb), hk.up (hid_mono ((s.trans sa).trans sb)), ko, hvl, hl, hn, fun y xs H3 s3 hy h3 hx => q y xs H3 ((sa.trans sb).trans s3) ((sa.trans sb).free hy) h3 hx⟩) he2) he) hg (by decide) he hpl
theorem xl_betw (L : Live M H) (G : FnOk X.prog X.w X.K X.mg X.base CX0 6 f fd ["kind", "log"] (spBetw X.K CK)) (hr : Room 6 X.A) (FF : Df X.K X.mg "changes_between" sBetw ["kind", "log"] f fd) (ho : XV X σ H e1 (.ref a)) (hk : KAt X.K CK (hid M H) a k) (ko : KOk k) (hb : XD X M σ H e2 (sqD kb (es.map stepD))) (hl : LogOk (es.map stepD) es) (hn : plans0 k es ≠ [])
    (hg : Gl X "changes_between" := by rfl) (he : starEach [e1, e2] X.env = (false, eval e1 X.env) :: starEach [e2] X.env := by rfl) (he2 : starEach [e2] X.env = (false, eval e2 X.env) :: starEach [] X.env := by rfl) (hpl : (backTo pos (starEach [e2] X.env)).any (·.1) = false := by rfl) :
    XL X M σ H (.Call (.Name "changes_between" p1) [e1, e2] [] pos) ((betwP k es).map stepD) := fun H1 s Q q =>
  re_call G hr FF.g FF.F.kp FF.b (ra_cons (ho H1 s _ fun Ha sa => ra_1 (hb Ha (s.trans sa) _ fun vl Hb sb hvl =>
    ⟨M, a, vl, k, kb, es, rfl, L.mono ((s.trans sa).trans sb), hk.up (hid_mono ((s.trans sa).trans sb)), ko, hvl, hl, fun z => absurd z hn, fun _ y xs H3 s3 hy h3 hx => q y xs H3 ((sa.trans sb).trans s3) ((sa.trans sb).free hy) h3 hx⟩) he2) he) hg (by decide) he hpl
end
theorem farK_ok {j : Int} (h0 : j ≠ 0) (h1 : -60 ≤ j) (h2 : j ≤ 60) : KOk (farK j) := by
  refine ⟨⟨fun x hx => ?_, by simp [farK], by simp [farK], by simp [farK]⟩, ?_, by show (0 : Int) ≤ 1; decide, by show (1 : Int) ≤ 3; decide⟩
  · have : x = j := by simpa [farK] using hx
    rw [this]
    exact ⟨h0, by omega, by omega⟩
  · show 2 * ab j < 5000
    unfold ab
    split <;> omega
def spLFar : Sp := fun vs H Q _ => ∃ (b : Addr) (n : Nat), vs = [.ref b] ∧ BagAt H b n ∧ n ≤ 900000 ∧ ∀ H1, SameB b H H1 → BagAt H1 b (n + 5) → Q (.bl true) H1
section
variable {P : Program} {w : World} {K : PySem.W.Frag} {mg : Str → Option Value} {base : Heap} {C CK CP CZ : Addr}
abbrev lfN2 : List Str := ["_law_bag_here", "_law_jump", "_law_far", "_law_kind_here", "_law_log_here"]
theorem scLFar : FnScope lfN2 ["_law_bag_here"] (defScope sLFar) := ⟨rfl, rfl, rfl, by decide +kernel, rfl, by decide +kernel, by decide +kernel⟩
theorem ok_lfar {f fT fM fS fB : Addr} {fd fdT fdM fdS fdB : FuncData} (WK : KMk P w K mg base CK fM fdM) (GT : FnOk P w K mg base CX0 1 fT fdT ["_law_bag_here", "_law_many"] spTake) (FT : Df K mg "_law_take" sTake ["_law_bag_here", "_law_many"] fT fdT)
    (GS : FnOk P w K mg base CX0 6 fS fdS ["kind", "log"] (spChStr K CK)) (FS : Df K mg "change_stretches" sChStr ["kind", "log"] fS fdS) (GB : FnOk P w K mg base CX0 6 fB fdB ["kind", "log"] (spBetw K CK)) (FB : Df K mg "changes_between" sBetw ["kind", "log"] fB fdB)
    (F : Df K mg "_law_far_right" sLFar ["_law_bag_here"] f fd) : FnOk P w K mg base CX0 7 f fd ["_law_bag_here"] spLFar := by
  refine F.F.ok scLFar (fun vs H Q E h => ?_) (fun cdv A outer s H vs Q E hr h => ?_)
  · obtain ⟨b, n, rfl, _⟩ := h; rfl
  · obtain ⟨b, n, rfl, hB, hn, q⟩ := h
    have hr1 := hr.mono (show 1 ≤ 6 by decide)
    have hr4 := hr.mono (show 4 ≤ 6 by decide)
    refine rb_parR 1 2 (ra_cons (re_menu (n := 4) (fun _ _ => rfl) (by decide) ?_)) scLFar.nd
    refine ra_int xv_int fun Ha sa => ra_int (xd_neg (M := []) xd_int).vint fun Hb sb => ra_int xv_int fun Hc sc => ra_1 (re_int (xd_neg (M := []) xd_int).vint fun Hd sd => ⟨[60, -60, 30, -1], rfl, rfl, fun l hl => ?_⟩)
    have s4 := ((sa.trans sb).trans sc).trans sd
    have hBd := hB.up s4 (Nat.le_refl _)
    refine re_take GT FT hr1 (xv_name 0 rfl) xv_int (bag_new hBd hl) fun r He r0 r1 sBe hBe => ⟨r, rfl, r0, r1, sBe _ _ (fun z => by subst z; exact hBd.some hl) upd_same, fun j hj => ?_⟩
    have hj' : j = 60 ∨ j = -60 ∨ j = 30 ∨ j = -1 := by simpa using hj
    have sB0e : SameB b H He := (SameB.of s4).trans ((sameB_new hl).trans sBe)
    refine ra_1 (re_addI (re_int (xd_pow (M := []) xd_int xd_int ⟨by decide, by decide, by decide⟩).vint fun Hf sf => ⟨_, rfl, ?_⟩))
    refine re_take GT FT hr1 (xv_name 0 rfl) (xd_pow (M := []) (m := 10) (n := 9) xd_int xd_int ⟨by decide, by decide, by decide⟩).vint (hBe.up sf (Nat.le_refl _)) (fun r2 Hg r20 r21 sBg hBg => ⟨r2, rfl, .int j, _, rfl, ?_⟩) (by decide) (by decide)
    have hF : 6 ≤ (10 : Int) ^ (20 : Int).toNat + r2 := by
      have : (6 : Int) ≤ (10 : Int) ^ (20 : Int).toNat := by decide
      omega
    generalize (10 : Int) ^ (20 : Int).toNat + r2 = F at hF ⊢
    have sB0g : SameB b H Hg := sB0e.trans ((SameB.of sf).trans sBg)
    have hj0 : j ≠ 0 := by omega
    have ko := farK_ok hj0 (by omega) (by omega)
    refine rb_parR 3 4 (ra_cons (XK.go (M := []) (xk_make (k := farK j) (sq := .list ([j].map PyData.int)) Live.nil WK hr4 ko (.inl rfl) (xd_lst (ds := [.int j]) Live.nil (xa_cons (xv_name 1 rfl).int xa_nil)) xd_int xd_int) fun y Hh sh hkh => ra_1 (XL.go (M := []) (xl_lst (ds := (farE j F).map stepD) Live.nil (xa_cons (xd_tup (ds := [.int 5, .int 5]) Live.nil (xa_cons xd_int (xa_cons xd_int xa_nil))) (xa_cons (xd_tup (ds := [.int F, .int (F + j)]) Live.nil (xa_cons (xv_name 2 rfl).int (xa_cons (xd_add (xv_name 2 rfl).int (xv_name 1 rfl).int) xa_nil))) xa_nil)) (by show 2 ≤ 100000; decide)) fun pl xl Hi si hpl hi hxl => ⟨_, _, rfl, ?_⟩))) scLFar.nd
    have hki := hkh.up (hid_mono (M := []) si)
    have kl : Dq K (hid [] Hi) (.ref pl) (sqD false ((farE j F).map stepD)) := .lst (by rw [hid_of (by simp)]; exact hi) hxl
    have asc : Ascd (farE j F) := by
      unfold Ascd farE
      refine List.pairwise_cons.mpr ⟨fun x hx => ?_, List.pairwise_singleton _ _⟩
      rw [List.mem_singleton.mp hx]
      show (5 : Int) < F
      omega
    have lo : LogOk ((farE j F).map stepD) (farE j F) := ⟨items_ch _, by show 1 ≤ 2; decide, by show 2 ≤ 12; decide, asc⟩
    have c1 := far_join hj0 hF
    have c2 := far_betw hj0 hF
    have hne : plans0 (farK j) (farE j F) ≠ [] := by rw [far_plans hj0 hF]; simp
    have eqs : ∀ x : Int × Int, PyData.eqv (.list ([x].map stepD)) (.list [.tuple [.int x.1, .int x.2]]) = true := fun x => by simp [stepD, PyData.eqv, PyData.eqvAll]
    refine rb_ret (M := []) (d := .bool true) (XD.to (xd_and2 (k1 := true) (k2 := true) (XD.to (xd_eqD (M := []) (d1 := .list ([(6, F)].map stepD)) (d2 := .list [.tuple [.int 6, .int F]]) hr.units (XL.dd (XL.to (xl_chStr (kb := false) Live.nil GS hr FS (xv_name 3 rfl) hki ko (xd_name 4 rfl kl) lo (by rw [far_str hj0 hF]; show 1 ≤ 1000; decide)) (by rw [c1])) Live.nil) (xd_lst (ds := [.tuple [.int 6, .int F]]) Live.nil (xa_cons (xd_tup (ds := [.int 6, .int F]) Live.nil (xa_cons xd_int (xa_cons (xv_name 2 rfl).int xa_nil))) xa_nil)) (shaped_steps _) (shaped_steps [(6, F)])) (by rw [eqs]))
      fun _ => XD.to (xd_eqD (M := []) (d1 := .list ([(1, 1)].map stepD)) (d2 := .list [.tuple [.int 1, .int 1]]) hr.units (XL.dd (XL.to (xl_betw (kb := false) Live.nil GB hr FB (xv_name 3 rfl) hki ko (xd_name 4 rfl kl) lo hne) (by rw [c2])) Live.nil) (xd_lst (ds := [.tuple [.int 1, .int 1]]) Live.nil (xa_cons (xd_tup (ds := [.int 1, .int 1]) Live.nil (xa_cons xd_int (xa_cons xd_int xa_nil))) xa_nil)) (shaped_steps _) (shaped_steps [(1, 1)])) (by rw [eqs])) rfl) fun v Hz sz hv => ?_
    rw [dp_bl hv]
    have s3 := (sh.trans si).trans sz
    exact q Hz (sB0g.trans (.of s3)) (hBg.up s3 (by omega))
end
end Zn

set_option Elab.async false
set_option linter.all false
set_option maxRecDepth 100000
set_option maxHeartbeats 8000000
namespace Zn
open PySem PySem.Spec PyProof.Rows L2 Dl
open Pm (Pl Pt pt withC longN over upto allP nextM offB)
/-! k36: _law_drawn_right -/
abbrev sLDrawn : Stmt := top 66
section
variable {X : Cx} {M : List Addr} {σ : L2.St} {H : Hp} {a b c e e2 e3 e4 e5 o : Expr} {pos apos p1 p2 py spos : Pos} {D : Ends} {rest : List Stmt} {x : Str} {scope : Scope} {own : List (Str × Nat)} {elt tg : Expr} {Q : VK}
theorem rb_setCR (i : Nat) (hm : X.mg "range" = none) (hN : X.N.Nodup) (ok : BlkOk X.N X.env.scope scope own) (h : tLc (iRng1 (RA X [a])) (BG X scope tg) (BT X scope []) (BE X scope elt) (own.map (·.2)) σ H fun v H1 => RB X rest D (σ.set i (some v)) H1)
    (hi : X.N[i]? = some x := by rfl) (hx : X.env.scope.names.lookup x = some .local := by rfl) (hsw : swapsWith (.ListComp elt [⟨tg, .Call (.Name "range" p1) [a] [] p2, [], 0⟩] scope pos) (some (.Name x py)) spos.line X.env = pure true := by exact sw_true rfl rfl rfl rfl)
    (hc : X.calm = true := by rfl) (hg : Gl X "range" := by rfl) (he : starEach [a] X.env = [(false, eval a X.env)] := by rfl) (hs : ∀ x, foldedSetIterable (.Call (.Name "range" p1) [a] [] p2) X.env x = pure x := by intro _; rfl) : RB X (.Assign [.Name x py] (.ListComp elt [⟨tg, .Call (.Name "range" p1) [a] [] p2, [], 0⟩] scope pos) spos :: rest) D σ H :=
  ⟨_, pss_cons (ps_setLc (own := own) hc hN hi hx hsw (pi_range1 hg hm ra_ he) ok (fun _ _ _ _ _ => bg_) (fun _ _ _ _ _ => bt_) (fun _ _ _ _ _ => be_) hs) rb_, h⟩
end
def spLDrawn (K : PySem.W.Frag) : Sp := fun vs H Q _ => ∃ (M : List Addr) (b : Addr) (n : Nat) (vp vl vt : V) (k : Kd) (es : List Step) (L36 : List (Int × Int)), vs = [.ref b, vp, vl, vt] ∧ Live M H ∧ BagAt H b n ∧ n ≤ 800000 ∧ Dq K (hid (b :: M) H) vp (kindD k) ∧ Dq K (hid (b :: M) H) vl (.list (es.map stepD)) ∧ Dq K (hid (b :: M) H) vt (.list (L36.map stepD)) ∧ Few k es ∧ L36.length ≤ 1000 ∧ Told36 L36 (Can k es) ∧ (∀ e ∈ es, e.1.natAbs < 2 ^ 190) ∧
  ∀ H1, SameB b H H1 → BagAt H1 b (n + 4000) → Q (.bl true) H1
theorem cut_mem {ds : List PyData} {lo hi : Option Int} {d : PyData} (h : d ∈ Dl.cutD ds lo hi) : d ∈ ds := List.mem_of_mem_drop (List.mem_of_mem_take h)
theorem cut_len (ds : List PyData) (lo hi : Option Int) : (Dl.cutD ds lo hi).length ≤ ds.length := by
  unfold Dl.cutD
  rw [List.length_take, List.length_drop]
  omega
theorem can_in {k : Kd} {es : List Step} {e0 eL : Step} {t : Int} (ha : Ascd es) (h0 : es[0]? = some e0) (hL : es.getLast? = some eL) (h : Can k es t) : e0.1 < t ∧ t ≤ eL.1 := by
  obtain ⟨_, _, _, _, ⟨e1, he1, g1⟩, ⟨e2, he2, g2⟩⟩ := h
  have a1 := first_le ha h0 he1
  have a2 := last_ge ha hL he2
  exact ⟨by omega, by omega⟩
section
variable {P : Program} {w : World} {K : PySem.W.Frag} {mg : Str → Option Value} {base : Heap} {C CK CP CZ : Addr}
abbrev ldN : List Str := ["_law_bag_here", "_law_plain", "_law_log_here", "_law_told", "_law_moments", "_law_lap", "_law_low", "_law_high", "_law_moment", "_law_within"]
theorem scLDrawn : FnScope ldN ["_law_bag_here", "_law_plain", "_law_log_here", "_law_told"] (defScope sLDrawn) := ⟨rfl, rfl, rfl, by decide +kernel, rfl, by decide +kernel, by decide +kernel⟩
theorem ok_ldrawn {f fT fC : Addr} {fd fdT fdC : FuncData} (T : Nm mg) (GT : FnOk P w K mg base CX0 1 fT fdT ["_law_bag_here", "_law_many"] spTake) (FT : Df K mg "_law_take" sTake ["_law_bag_here", "_law_many"] fT fdT)
    (GC : FnOk P w K mg base CX0 3 fC fdC ["_law_plain", "_law_log_here", "_law_moment"] (spR K RLCan)) (FC : Df K mg "_law_can_change" sLCan ["_law_plain", "_law_log_here", "_law_moment"] fC fdC)
    (F : Df K mg "_law_drawn_right" sLDrawn ["_law_bag_here", "_law_plain", "_law_log_here", "_law_told"] f fd) : FnOk P w K mg base CX0 4 f fd ["_law_bag_here", "_law_plain", "_law_log_here", "_law_told"] (spLDrawn K) := by
  refine F.F.ok scLDrawn (fun vs H Q E h => ?_) (fun cdv A outer s H vs Q E hr h => ?_)
  · obtain ⟨M, b, n, vp, vl, vt, k, es, L36, rfl, _⟩ := h; rfl
  · obtain ⟨M, b, n, vp, vl, vt, k, es, L36, rfl, L, hB, hn, hp, hl, ht, fw, h36, tl, hbd, q⟩ := h
    have ko := fw.ko
    have asc := fw.asc
    have l1 := fw.l1
    have hr1 := hr.mono (show 1 ≤ 3 by decide)
    obtain ⟨e0, he0⟩ : ∃ e0, es[0]? = some e0 := ⟨es[0]'(by omega), List.getElem?_eq_getElem (by omega)⟩
    obtain ⟨eL, heL⟩ : ∃ el, es.getLast? = some el := by
      cases z : es.getLast? with
      | none => rw [List.getLast?_eq_none_iff] at z; rw [z] at l1; simp at l1
      | some el => exact ⟨el, rfl⟩
    have h0d : atI (es.map stepD) ((0 : Nat) : Int) = some (stepD e0) := atI_nat (by rw [List.getElem?_map, he0]; rfl)
    have h0d : atI (es.map stepD) 0 = some (stepD e0) := h0d
    have b0 := hbd e0 (List.mem_of_getElem? he0)
    have bL := hbd eL (List.mem_of_getLast? heL)
    have hle := first_le asc he0 (List.mem_of_getLast? heL)
    have p190 : (2 : Nat) ^ 190 + 2 ^ 190 + 2 < 2 ^ 200 := by decide
    refine rb_setCR 4 (own := [("_law_lap", 5)]) T.rng scLDrawn.nd (blkOk_by (own := [("_law_lap", 5)]) (N := ldN) (sc := defScope sLDrawn) (by decide +kernel)) (ra_1 (XV.go xv_int fun H1 s1 => ⟨2, rfl, by decide, by decide, fun g hg => ?_⟩))
    have ngb : g ≠ b := fun e => by rw [e] at hg; exact (hB.up s1 (Nat.le_refl _)).some hg
    have hg0 : H g = none := s1.free hg
    refine lc_range (lo := 0) (n := (2 : Int).toNat) (fun i Hx => SameB b H1 Hx ∧ BagAt Hx b (n + i) ∧ ∃ acc : List Int, Hx g = some (.lst (acc.map V.int)) ∧ acc.length ≤ i) ⟨.of (same_new hg), (hB.up s1 (Nat.le_refl _)).up (same_new hg) (by omega), [], upd_same, Nat.le_refl _⟩ (fun i Hx hi w => ?_) (fun Hx w => ?_)
    · obtain ⟨sX, hBx, acc, hacc, hal⟩ := w
      have hi2 : i < 2 := hi
      have gx : Same (hid (b :: M) H) (hid (b :: M) Hx) := ((SameB.of s1).trans sX).hid (List.mem_cons_self ..)
      have hlx := hl.up gx
      refine fun s0 H0 C0 cl fp => rg_name 5 ⟨rfl, bt_nil (iteT fun s0 H0 C0 cl fp => ?_)⟩ scLDrawn.nd
      refine re_addI (re_int (xd_ixT (M := b :: M) (fun _ _ => rfl) (xd_ixL (fun _ _ => rfl) (xd_name 2 rfl hlx) xd_int h0d) xd_int step0).vint fun Ha sa => ⟨e0.1, rfl, ?_⟩)
      have hla := hlx.up (hid_mono (M := b :: M) sa)
      refine re_take GT FT hr1 (xv_name 0 rfl) (xd_add (M := b :: M) (xd_sub (xd_ixT (fun _ _ => rfl) (xd_ixL (fun _ _ => rfl) (xd_name 2 rfl hla) (xd_neg xd_int) (last_step heL)) xd_int step0) (xd_ixT (fun _ _ => rfl) (xd_ixL (fun _ _ => rfl) (xd_name 2 rfl hla) xd_int h0d) xd_int step0)) xd_int).vint (hBx.up sa (Nat.le_refl _)) (fun r Hb r0 r1 sb hBb => ⟨r, rfl, ?_⟩) (by omega) (by omega)
      have sX2 : SameB b Hx Hb := (SameB.of sa).trans sb
      refine ⟨_, sX2 _ _ ngb hacc, ?_, fun y o ny e => ?_, ?_, acc ++ [e0.1 + r], ?_, ?_⟩
      · have h4 : 100000 < sizeLine := by decide
        rw [List.length_map]; omega
      · rw [upd_ne (ne_of_none e hg)]
        exact sX2 y o ny (sX y o ny e)
      · obtain ⟨gg, m, c, e1, e2, e3, e4, e5⟩ := hBb
        exact ⟨gg, m, c, by rw [upd_ne (Ne.symm ngb)]; exact e1, e2, e3, e4, by omega⟩
      · rw [List.map_append]; exact upd_same
      · rw [List.length_append]; simp; omega
    · obtain ⟨sX, hBx, acc, hacc, hal⟩ := w
      have hal2 : acc.length ≤ 2 := hal
      have sBx : SameB b H Hx := (SameB.of s1).trans sX
      have Lx : Live (b :: M) Hx := live_bag L sBx hBx
      have gx : Same (hid (b :: M) H) (hid (b :: M) Hx) := sBx.hid (List.mem_cons_self ..)
      have ngbM : g ∉ b :: M := fun z => by
        rcases List.mem_cons.mp z with e | z
        · exact ngb e
        · exact L g z hg0
      have Lg : Live (g :: b :: M) Hx := fun u hu => by
        rcases List.mem_cons.mp hu with z | z
        · rw [z, hacc]; simp
        · exact Lx u z
      have gxg : Same (hid (b :: M) H) (hid (g :: b :: M) Hx) := fun u o e => by
        have nug : u ≠ g := fun z => by rw [z] at e; have := hid_le _ _ e; rw [hg0] at this; cases this
        have h2 := gx u o e
        unfold hid at h2 ⊢
        by_cases hm : u ∈ b :: M
        · rw [if_pos hm] at h2; cases h2
        · rw [if_neg hm] at h2
          rw [if_neg (by simp only [List.mem_cons, not_or] at hm ⊢; exact ⟨nug, hm⟩)]
          exact h2
      have htx := ht.up gxg
      have hcl := cut_len (L36.map stepD) none (some 1)
      have hcl2 := cut_len (Dl.cutD (L36.map stepD) (some 1) none) (some (-1)) none
      have hcl3 := cut_len (L36.map stepD) (some 1) none
      rw [List.length_map] at hcl hcl3
      refine rb_for (M := g :: b :: M) (ds := Dl.cutD (L36.map stepD) none (some 1) ++ Dl.cutD (Dl.cutD (L36.map stepD) (some 1) none) (some (-1)) none) ?it fun Hy sy => ⟨fun i σ' H' => Same (hid (g :: b :: M) Hy) (hid (g :: b :: M) H') ∧ (∀ a o, a ≠ b → a ≠ g → Hy a = some o → H' a = some o) ∧ BagAt H' b (n + 2 + i) ∧ ∃ (acc : List Int) (a6 a7 : Option V), σ' = [some (.ref b), some vp, some vl, some vt, some (.ref g), none, a6, a7, none, none] ∧ H' g = some (.lst (acc.map V.int)) ∧ acc.length ≤ 2 + i,
        ⟨Same.refl _, fun a o _ _ e => e, hBx.up sy (by show n + 2 ≤ _; omega), acc, none, none, rfl, sy _ _ hacc, by omega⟩, fun i σ' H' w => w.1, fun i d hd σ' H' v w hv => ?step, fun σ' H' w => ?done⟩
      case it =>
        exact XL.dd (xl_cat Lg (XL.dd (xl_cut Lg (xd_name 3 rfl htx) xo_none (xo_some (M := g :: b :: M) xd_int)) Lg) (XL.dd (xl_cut Lg (XL.dd (xl_cut Lg (xd_name 3 rfl htx) (xo_some (M := g :: b :: M) xd_int) xo_none) Lg) (xo_some (M := g :: b :: M) (xd_neg xd_int)) xo_none) Lg) (by omega)) Lg
      case step =>
        obtain ⟨y1, y2, hB3, acc, a6, a7, rfl, hg3, hal3⟩ := w
        have hil : i < 2000 := by
          have := (List.getElem?_eq_some_iff.mp hd).1
          rw [List.length_append] at this
          omega
        obtain ⟨x, hxm, rfl⟩ : ∃ x ∈ L36, d = stepD x := by
          have hm := List.mem_of_getElem? hd
          have hm2 : d ∈ L36.map stepD := by
            rcases List.mem_append.mp hm with z | z
            · exact cut_mem z
            · exact cut_mem (cut_mem z)
          exact mem_step hm2
        obtain ⟨t, rfl, htt⟩ := step_at hv
        have hxl := tl.le x hxm
        have c1 := can_in asc he0 heL ((tl.cov x.1).mp ⟨x, hxm, Int.le_refl _, hxl⟩)
        have c2 := can_in asc he0 heL ((tl.cov x.2).mp ⟨x, hxm, hxl, Int.le_refl _⟩)
        refine rg_tup (same_seqT hid_le htt) (rgs_cons (rg_name 6 (rgs_cons (rg_name 7 (rgs_nil ?_) scLDrawn.nd)) scLDrawn.nd))
        refine rb_appendE (xv_name 4 rfl) hg3 (by rw [List.length_map]; omega) fun Ha sa => ?_
        refine re_addI (re_int (xv_name 6 rfl) fun Hb sb => ⟨x.1, rfl, ?_⟩)
        refine re_take GT FT hr1 (xv_name 0 rfl) (xd_add (M := []) (xd_sub (xv_name 7 rfl).int (xv_name 6 rfl).int) xd_int).vint (hB3.up (sa.trans sb) (Nat.le_refl _)) (fun r Hc r0 r1 sc hBc => ⟨r, rfl, ?_⟩) (by omega) (by omega)
        have sBc : SameB b H' Hc := (SameB.of (sa.trans sb)).trans sc
        refine ⟨sBc _ _ ngb hg3, rb_nil ⟨fun u o hu => ?_, fun u o nb ng hu => ?_, ?_, acc ++ [x.1 + r], _, _, rfl, by rw [List.map_append]; exact upd_same, by rw [List.length_append]; simp; omega⟩⟩
        · have h3 := y1 u o hu
          rw [hid_cons_upd]
          exact (sBc.hid (M := g :: b :: M) (List.mem_cons_of_mem _ (List.mem_cons_self ..))) u o h3
        · rw [upd_ne ng]
          exact sBc u o nb (y2 u o nb ng hu)
        · obtain ⟨gg, m, c, e1, e2, e3, e4, e5⟩ := hBc
          exact ⟨gg, m, c, by rw [upd_ne (Ne.symm ngb)]; exact e1, e2, e3, e4, by omega⟩
      case done =>
        obtain ⟨y1, y2, hB3, acc, a6, a7, rfl, hg3, hal3⟩ := w
        rw [List.length_append] at hB3 hal3
        have sB0 : SameB b H H' := fun u o nb hu => y2 u o nb (ne_of_none hu hg0) (sy u o (sBx u o nb hu))
        have gz : Same (hid (b :: M) H) (hid (b :: M) H') := sB0.hid (List.mem_cons_self ..)
        have Lz : Live (b :: M) H' := live_bag L sB0 hB3
        have hpz := hp.up gz
        have hlz := hl.up gz
        have htz := ht.up gz
        refine rb_for (M := b :: M) (ds := acc.map PyData.int) (xd_name 4 rfl (.lst (by rw [hid_of ngbM]; exact hg3) (ints_dq _))) fun H5 s5 => ⟨fun j σ' H6 => Same H5 H6 ∧ ∃ a8 a9, σ' = [some (.ref b), some vp, some vl, some vt, some (.ref g), none, a6, a7, a8, a9],
          ⟨Same.refl _, none, none, rfl⟩, fun j σ' H6 w => hid_mono w.1, fun j d hd σ' H6 v w hv => ?in3, fun σ' H6 w => ?out3⟩
        case out3 =>
          obtain ⟨s6, a8, a9, rfl⟩ := w
          exact rb_ret (M := []) xd_bl fun v H7 s7 hv => by
            rw [dp_bl hv]
            exact q H7 (sB0.trans (.of ((s5.trans s6).trans s7))) (hB3.up ((s5.trans s6).trans s7) (by omega))
        case in3 =>
          obtain ⟨s6, a8, a9, rfl⟩ := w
          obtain ⟨t, _, rfl⟩ := map_get hd
          have ev := dp_int hv
          subst ev
          have s56 := s5.trans s6
          have L6 := Lz.mono s56
          have hp6 := hpz.up (hid_mono (M := b :: M) s56)
          have hl6 := hlz.up (hid_mono (M := b :: M) s56)
          have ht6 := htz.up (hid_mono (M := b :: M) s56)
          obtain ⟨ns, hns⟩ := cov_ints t L36
          have hcv : decide (∃ y ∈ L36, y.1 ≤ t ∧ t ≤ y.2) = canB k es e0 eL t := by
            have h1 : (∃ y ∈ L36, y.1 ≤ t ∧ t ≤ y.2) ↔ canB k es e0 eL t = true := (tl.cov t).trans (can_iff ko asc he0 heL t).symm
            cases z : canB k es e0 eL t with
            | true => exact decide_eq_true (h1.mpr z)
            | false => exact decide_eq_false fun y => by rw [h1.mp y] at z; cases z
          refine rg_name 8 ?_ scLDrawn.nd
          refine rb_set 9 (M := b :: M) (d := .bool (canB k es e0 eL t)) ?wi (fun v6 H7 s7 hv6 => ?go) scLDrawn.nd
          case wi =>
            refine XD.to (xd_neD (M := b :: M) (d1 := .list ((L36.map stepD).filterMap (gCov t))) (d2 := .list []) hr.units (XL.dd (xl_comp (own := [("_law_low", 6), ("_law_high", 7)]) (ds := L36.map stepD) (gCov t) L6 scLDrawn.nd (xd_name 3 rfl ht6) (blkOk_by (own := [("_law_low", 6), ("_law_high", 7)]) (N := ldN) (sc := defScope sLDrawn) (by decide +kernel)) (by rw [List.length_map]; omega) (fun p d v H7 hd hp s7 Lp hv => ?cc)) L6) (xd_lst L6 xa_nil) (by rw [hns]; exact shaped_ints _) shaped_nil) (by
              rw [eqv_list_nil, cov_data, Bool.not_not, hcv])
            obtain ⟨y, _, rfl⟩ := mem_step hd
            obtain ⟨ty, rfl, hty⟩ := step_at hv
            intro s0 H0 C0 cl fp
            refine rg_tup (same_seqT hid_le hty) (rgs_cons (rg_name 6 (rgs_cons (rg_name 7 (rgs_nil ?_) scLDrawn.nd)) scLDrawn.nd))
            refine ⟨rfl, bt_one (k := decide (y.1 ≤ t) && decide (t ≤ y.2)) (fun s0 H0 C0 cl fp => ?tin) fun H8 s8 => ⟨s8, ?post⟩⟩
            case tin => exact xt_chainI (M := p :: b :: M) op_le op_le (xv_name 6 rfl).int (xv_name 8 rfl).int (xv_name 7 rfl).int
            case post =>
              have eg : gCov t (stepD y) = if (decide (y.1 ≤ t) && decide (t ≤ y.2)) = true then some (.int 1) else none := rfl
              cases ek : (decide (y.1 ≤ t) && decide (t ≤ y.2)) with
              | true => exact .inl ⟨rfl, .int 1, by rw [eg, ek]; rfl, fun s0 H0 C0 cl fp => XD.go (M := p :: b :: M) xd_int fun v9 H9 s9 hv9 => ⟨s9, hv9⟩⟩
              | false => exact .inr ⟨rfl, by rw [eg, ek]; rfl⟩
          case go =>
            refine rb_ifF ?tst4 fun H8 s8 => rb_nil ⟨(s6.trans s7).trans s8, _, _, rfl⟩
            case tst4 =>
              exact XT.to (xt_neBB (M := b :: M) (k1 := canB k es e0 eL t) (k2 := canB k es e0 eL t) (xd_name 9 rfl hv6) (xd_call (L6.mono s7) GC hr FC.g FC.F.kp FC.b (xa_cons (xd_name 1 rfl (hp6.up (hid_mono s7))) (xa_cons (xd_name 2 rfl (hl6.up (hid_mono s7))) (xa_cons (xv_name 8 rfl).int xa_nil))) ⟨k, es, e0, eL, t, rfl, few_fit fw t, he0, heL, few_len fw _ (by simp), rfl⟩)) (by rw [decide_eq_true rfl]; rfl)
end
end Zn

set_option Elab.async false
set_option linter.all false
set_option maxRecDepth 100000
set_option maxHeartbeats 8000000
namespace Zn
open PySem PySem.Spec PyProof.Rows L2 Dl
open Pm (Pl Pt pt withC longN over upto allP nextM offB)
/-! k36: what changes_between tells, as data; the law's own is the same -/
def betwD (k : Kd) (es : List Step) : PyData := if (plans0 k es).isEmpty then .none else .list ((betwP k es).map stepD)
theorem betw_law {k : Kd} {es : List Step} (ko : KOk k) (ha : Ascd es) (h1 : 1 ≤ es.length) : (if (fitL k es []).isEmpty then PyData.none else .list ((betwL (fitL k es []) es (es.length - 1)).map stepD)) = betwD k es := by
  unfold betwD
  rw [plans_empty ko ha h1]
  cases e : (plans0 k es).isEmpty with
  | true => rfl
  | false =>
    have hne : plans0 k es ≠ [] := fun z => by rw [z] at e; cases e
    rw [betw_same ko ha h1 hne]
    rfl
section
variable {X : Cx} {M : List Addr} {σ : L2.St} {H : Hp} {e1 e2 : Expr} {pos p1 : Pos} {f a : Addr} {fd : FuncData} {CK : Addr} {k : Kd} {es : List Step} {kb : Bool}
/-- changes_between(kind, log), as data -/
theorem xd_betw (L : Live M H) (G : FnOk X.prog X.w X.K X.mg X.base CX0 6 f fd ["kind", "log"] (spBetw X.K CK)) (hr : Room 6 X.A) (FF : Df X.K X.mg "changes_between" sBetw ["kind", "log"] f fd) (ho : XV X σ H e1 (.ref a)) (hk : KAt X.K CK (hid M H) a k) (ko : KOk k) (hb : XD X M σ H e2 (sqD kb (es.map stepD))) (hl : LogOk (es.map stepD) es)
    (hg : Gl X "changes_between" := by rfl) (he : starEach [e1, e2] X.env = (false, eval e1 X.env) :: starEach [e2] X.env := by rfl) (he2 : starEach [e2] X.env = (false, eval e2 X.env) :: starEach [] X.env := by rfl) (hpl : (backTo pos (starEach [e2] X.env)).any (·.1) = false := by rfl) :
    XD X M σ H (.Call (.Name "changes_between" p1) [e1, e2] [] pos) (betwD k es) := fun H1 s Q q =>
  re_call G hr FF.g FF.F.kp FF.b (ra_cons (ho H1 s _ fun Ha sa => ra_1 (hb Ha (s.trans sa) _ fun vl Hb sb hvl =>
    ⟨M, a, vl, k, kb, es, rfl, L.mono ((s.trans sa).trans sb), hk.up (hid_mono ((s.trans sa).trans sb)), ko, hvl, hl,
      fun z H3 s3 => q _ H3 ((sa.trans sb).trans s3) (by unfold betwD; rw [z]; exact .non),
      fun z y xs H3 s3 hy h3 hx => q _ H3 ((sa.trans sb).trans s3) (by
        have e : betwD k es = .list ((betwP k es).map stepD) := by
          unfold betwD
          cases hp : plans0 k es with
          | nil => exact absurd hp z
          | cons _ _ => rfl
        rw [e]
        exact .lst (by rw [hid_of ((L.mono ((s.trans sa).trans sb)).fresh hy)]; exact h3) hx)⟩) he2) he) hg (by decide) he hpl
end
end Zn

set_option Elab.async false
set_option linter.all false
set_option maxRecDepth 100000
set_option maxHeartbeats 8000000
namespace Zn
open PySem PySem.Spec PyProof.Rows L2 Dl
open Pm (Pl Pt pt withC longN over upto allP nextM offB)
/-! k36: repr of what changes_between tells -/
theorem cnt_small {k : Kd} {es : List Step} {s : Nat} {n : Int} (ko : KOk k) (ha : Ascd es) (h1 : 1 ≤ es.length) (h : n ∈ cntsP k es s) : 0 ≤ n ∧ n ≤ 3 := by
  obtain ⟨p, hp, rfl⟩ := List.mem_map.mp h
  obtain ⟨f, g⟩ := plan_pts ko (cov0 ha h1) h1 hp
  have a1 := g.slot.1
  have a2 := g.l1
  have a3 := g.few
  have a4 := ko.m1
  have a5 : (p.sl.filter fun z => decide (z = (s : Int))).length ≤ p.sl.length := List.length_filter_le ..
  unfold cntP
  omega
theorem betw_sm {k : Kd} {es : List Step} (ko : KOk k) (ha : Ascd es) (h1 : 1 ≤ es.length) (h12 : es.length ≤ 12) (hne : plans0 k es ≠ []) : Sm 2 (131 * 11) (.list ((betwP k es).map stepD)) := sm_list (k := 1) (W := 130) (n := 11) (fun x hx => by
  obtain ⟨y, hy, rfl⟩ := List.mem_map.mp hx
  obtain ⟨s, _, rfl⟩ := List.mem_map.mp hy
  have hc : cntsP k es s ≠ [] := fun z => hne (List.map_eq_nil_iff.mp z)
  have b1 := cnt_small ko ha h1 (mn_ok hc).1
  have b2 := cnt_small ko ha h1 (mx_ok hc).1
  exact sm_pair (by omega) (by omega)) (by unfold betwP; rw [List.length_map, List.length_map, List.length_range]; omega)
def txB (d : PyData) : Str := match d with
  | .list ds => (PyData.list ds).shown
  | d => txt d
section
variable {X : Cx} {M : List Addr} {σ : L2.St} {H : Hp} {e : Expr} {p1 p2 : Pos} {k : Kd} {es : List Step}
theorem xd_reprBetw (hA : X.A.guards = some []) (hu : X.A.units + 64 < cLine) (hm : X.mg "repr" = none) (ko : KOk k) (hasc : Ascd es) (h1 : 1 ≤ es.length) (h12 : es.length ≤ 12) (ha : XD X M σ H e (betwD k es)) (hg : Gl X "repr" := by rfl)
    (he : starEach [e] X.env = (false, eval e X.env) :: starEach [] X.env := by rfl) (hpl : (backTo p2 (starEach [] X.env)).any (·.1) = false := by rfl) : XD X M σ H (.Call (.Name "repr" p1) [e] [] p2) (.str (txB (betwD k es))) := by
  cases z : plans0 k es with
  | nil =>
    have e0 : betwD k es = .none := by unfold betwD; rw [z]; rfl
    rw [e0] at ha ⊢
    exact xd_reprP hm (.inl rfl) ha hg he hpl
  | cons p ps =>
    have e0 : betwD k es = .list ((betwP k es).map stepD) := by unfold betwD; rw [z]; rfl
    rw [e0] at ha ⊢
    have sm := betw_sm ko hasc h1 h12 (by rw [z]; simp)
    exact fun H1 s Q q => re_B (call_reprD hA hu) (ra_1 (ha H1 s _ fun v H2 s2 hv => by
      obtain ⟨p, xs, rfl, hp, hx⟩ := dp_lst hv
      exact ⟨p, _, rfl, (hv.up hid_le).dp, sm.sh, sm.nd, Nat.le_trans sm.dp (by decide), sm.fit (by decide), q _ H2 s2 (.str _)⟩) he) hm (by decide +kernel) hg (by decide) (by decide) he hpl
end
end Zn

set_option Elab.async false
set_option linter.all false
set_option maxRecDepth 100000
set_option maxHeartbeats 16000000
namespace Zn
open PySem PySem.Spec PyProof.Rows L2 Dl
open Pm (Pl Pt pt withC longN over upto allP nextM offB)
/-! k36: bounds; the law's log that is bent, with its flag -/
theorem log_log {es : List Step} (h1 : 1 ≤ es.length) (h2 : es.length ≤ 12) (ha : Ascd es) : LogOk (es.map stepD) es := ⟨items_ch es, h1, h2, ha⟩
theorem asc_fst {a b : List Step} (h : a.map (·.1) = b.map (·.1)) (hb : Ascd b) : Ascd a := by
  have h1 : (b.map (·.1)).Pairwise (· < ·) := List.pairwise_map.mpr hb
  rw [← h] at h1
  exact List.pairwise_map.mp h1
def readE (f : Int) (st : List Step) (ms : List Int) : List Step := ms.map fun m => ((m, m + f + sumJ m st) : Step)
theorem readE_asc {f : Int} {st : List Step} {ms : List Int} (h : ms.Pairwise (· < ·)) : Ascd (readE f st ms) := List.pairwise_map.mpr h
theorem readE_len (f : Int) (st : List Step) (ms : List Int) : (readE f st ms).length = ms.length := List.length_map ..
theorem readE_fz {k : Kd} {f : Int} {st : List Step} (ms : List Int) (of : OfK k st) (hl : (st.length : Int) ≤ k.mo) : Fz k (readE f st ms) f st := ⟨of, hl, fun e he => by
  obtain ⟨m, _, rfl⟩ := List.mem_map.mp he
  show f + sumJ m st = m + f + sumJ m st - m
  omega⟩
def spLaw (K : PySem.W.Frag) : Sp := fun vs H Q _ => ∃ (a : Addr) (ns : List Int), vs = [.ref a] ∧ SqL K H a (ns.map V.int) ∧ ∀ H1, Same H H1 → Q (.bl true) H1
def lastE (es : List Step) (j0 : Int) (el : Step) : List Step := es.set (es.length - 1) (el.1, el.2 + j0)
theorem lastE_fst {es : List Step} {j0 : Int} {el : Step} (h : es.getLast? = some el) : (lastE es j0 el).map (·.1) = es.map (·.1) := by
  obtain ⟨ys, rfl⟩ := List.getLast?_eq_some_iff.mp h
  unfold lastE
  rw [List.length_append, List.length_singleton, Nat.add_sub_cancel, List.set_append_right _ _ (Nat.le_refl _), Nat.sub_self]
  simp
theorem lastE_map (es : List Step) (j0 : Int) (el : Step) : (es.map stepD).set (es.length - 1) (stepD (el.1, el.2 + j0)) = (lastE es j0 el).map stepD := by unfold lastE; rw [List.map_set]
theorem ixN_last {n : Nat} (h : 1 ≤ n) : ixN n (-1) = some (n - 1) := by
  unfold ixN
  rw [if_neg (by omega), if_pos (by omega)]
  congr 1
  omega
theorem plans0_few {k : Kd} {es : List Step} (n : Few k es) (hj : 2 < k.js.length → k.mo ≤ 1) : (plans0 k es).length ≤ 32 := by
  have ko := n.ko
  have m2 := n.m2
  have hl3 := n.l3
  have hmm : k.mo = (k.mo.toNat : Int) := (Int.toNat_of_nonneg ko.m0).symm
  have h1 := Pm.all_len (js := isort k.js) (ap := k.ap) (pts := ptsOf es) hmm (es.length - 1)
  have hj4 := ko.js.2.2.2
  rw [len_isort] at h1
  refine Nat.le_trans h1 ?_
  have hs : es.length - 1 ≤ 2 := by omega
  by_cases g : 2 < k.js.length
  · have := hj g
    have hm1 : k.mo.toNat ≤ 1 := by omega
    have hb : (es.length - 1) * k.js.length ≤ 2 * 4 := Nat.mul_le_mul hs hj4
    exact Nat.le_trans (Nat.pow_le_pow_left (show 1 + (es.length - 1) * k.js.length ≤ 9 by omega) _) (Nat.le_trans (Nat.pow_le_pow_right (by decide) hm1) (by decide))
  · have hm2 : k.mo.toNat ≤ 2 := by omega
    have hb : (es.length - 1) * k.js.length ≤ 2 * 2 := Nat.mul_le_mul hs (by omega)
    exact Nat.le_trans (Nat.pow_le_pow_left (show 1 + (es.length - 1) * k.js.length ≤ 5 by omega) _) (Nat.le_trans (Nat.pow_le_pow_right (by decide) hm2) (by decide))
theorem strAll_few {k : Kd} {es : List Step} (n : Few k es) (hj : 2 < k.js.length → k.mo ≤ 1) : (strAll k es).length ≤ 200 := by
  have h := Pm.flat_len (strP k es) 3 (plans0 k es) fun p hp => by
    obtain ⟨f, g⟩ := plan_pts n.ko (cov0 n.asc n.l1) n.l1 hp
    have a1 := g.l1
    have a2 := g.few
    have a3 := n.m2
    unfold strP
    rw [List.length_reverse, List.length_zip]
    omega
  have h2 := plans0_few n hj
  have := Nat.mul_le_mul_right 3 h2
  unfold strAll
  omega
theorem told_len (L : List (Int × Int)) : (joinL (srtP L)).length ≤ L.length := by
  have h := jn_len (srtP L) []
  have e : (srtP L).length = L.length := (List.mergeSort_perm _ _).length_eq
  unfold joinL
  rw [List.length_reverse]
  simp at h
  omega
theorem told_ok {k : Kd} {es : List Step} (n : Few k es) : Told36 (joinL (srtP (strAll k es))) (Can k es) :=
  join_told (fun x hx => str_ok n.ko n.asc n.l1 (srtP_mem.mp hx)) (srtP_pw _) fun t => by
    rw [← cov_can n.ko n.asc n.l1 t]
    exact ⟨fun ⟨x, hx, h⟩ => ⟨x, srtP_mem.mp hx, h⟩, fun ⟨x, hx, h⟩ => ⟨x, srtP_mem.mpr hx, h⟩⟩
/-- nothing fits: nothing is told -/
theorem told_none {k : Kd} {es : List Step} (n : Few k es) (h : (fitL k es []).isEmpty = true) : joinL (srtP (strAll k es)) = [] := by
  rw [plans_empty n.ko n.asc n.l1] at h
  have e : plans0 k es = [] := List.isEmpty_iff.mp h
  have e2 : strAll k es = [] := by unfold strAll; rw [e]; rfl
  rw [e2]
  have e3 : srtP [] = [] := by
    cases z : srtP [] with
    | nil => rfl
    | cons a l => exact absurd (srtP_mem.mp (z ▸ List.mem_cons_self ..)) (by simp)
  rw [e3]
  unfold joinL jn
  rfl
section
variable {X : Cx} {σ : L2.St} {H : Hp} {D : Ends} {rest : List Stmt} {o o2 z e : Expr} {pos p1 p2 p3 p4 p5 : Pos} {b pl fT : Addr} {fdT : FuncData} {n : Nat} {xl : List V} {es : List Step} {el : Step} {j0 : Int}
/-- if _law_take(bag, 4) == 0: log[-1], flag = (.., False) -/
theorem rb_bendF (i : Nat) {x : Str} {k4 k0 k1 kf kt kv} {p6 p7 p8 p9 p10 px : Pos} (GT : FnOk X.prog X.w X.K X.mg X.base CX0 1 fT fdT ["_law_bag_here", "_law_many"] spTake) (FT : Df X.K X.mg "_law_take" sTake ["_law_bag_here", "_law_many"] fT fdT) (hr : Room 1 X.A) (ho2 : XV X σ H o2 (.ref b)) (hB : BagAt H b n) (hn : n ≤ 900000) (nb : pl ≠ b) (hpl : H pl = some (.lst xl)) (hx : DqAll X.K (hid [b] H) xl (es.map stepD)) (l1 : 1 ≤ es.length)
    (ho : ∀ Hx, XV X σ Hx o (.ref pl)) (he : ∀ Hx, SameB b H Hx → BagAt Hx b (n + 1) → XD X [b] σ Hx e (stepD (el.1, el.2 + j0))) (hN : X.N.Nodup)
    (k : ∀ (es' : List Step) (xs' : List V) σ' Hx, (es' = es ∧ σ' = σ ∨ es' = lastE es j0 el ∧ σ' = σ.set i (some (.bl false))) → (∀ a u, a ≠ b → a ≠ pl → H a = some u → Hx a = some u) → BagAt Hx b (n + 1) → Hx pl = some (.lst xs') → DqAll X.K (hid [b] Hx) xs' (es'.map stepD) → RB X rest D σ' Hx)
    (hs2 : starEach [o2, .Constant (.int 4) k4 p4] X.env = (false, eval o2 X.env) :: starEach [.Constant (.int 4) k4 p4] X.env := by rfl) (hs3 : starEach [.Constant (.int 4) k4 p4] X.env = (false, eval (.Constant (.int 4) k4 p4) X.env) :: starEach [] X.env := by rfl) (hpl2 : (backTo p3 (starEach [.Constant (.int 4) k4 p4] X.env)).any (·.1) = false := by rfl) (hg : Gl X "_law_take" := by rfl)
    (hi : X.N[i]? = some x := by rfl) (hxl : Loc X.env.scope x := by first | exact Or.inl rfl | exact Or.inr rfl) (hxf : X.fn x = true ∨ X.env.scope.names.lookup x = some .local := by first | exact .inl rfl | exact .inr rfl) (hc : X.calm = true := by rfl)
    (hv1 : starEach [e, .Constant (.bool false) kf p8] X.env = (false, eval e X.env) :: starEach [.Constant (.bool false) kf p8] X.env := by rfl) (hv2 : starEach [.Constant (.bool false) kf p8] X.env = (false, eval (.Constant (.bool false) kf p8) X.env) :: starEach [] X.env := by rfl)
    (ha1 : (assignEach [.Subscript o (.UnaryOp .USub (.Constant (.int 1) k1 p6) p7) p1, .Name x px] X.env).map (·.2) = assign (.Subscript o (.UnaryOp .USub (.Constant (.int 1) k1 p6) p7) p1) X.env :: (assignEach [.Name x px] X.env).map (·.2) := by rfl)
    (ha2 : (assignEach [.Name x px] X.env).map (·.2) = assign (.Name x px) X.env :: (assignEach [] X.env).map (·.2) := by rfl)
    (ha3 : (assignEach [.Subscript o (.UnaryOp .USub (.Constant (.int 1) k1 p6) p7) p1, .Name x px] X.env).length = 2 := by rfl) (ha4 : (assignEach [.Subscript o (.UnaryOp .USub (.Constant (.int 1) k1 p6) p7) p1, .Name x px] X.env).findIdx? (·.1) = none := by rfl)
    (hs : swapsWithSole [.Tuple [.Subscript o (.UnaryOp .USub (.Constant (.int 1) k1 p6) p7) p1, .Name x px] kt p9] (.Tuple [e, .Constant (.bool false) kf p8] kv p10) p2.line X.env = pure false := by rfl) (hw : swappedStores [.Tuple [.Subscript o (.UnaryOp .USub (.Constant (.int 1) k1 p6) p7) p1, .Name x px] kt p9] (.Tuple [e, .Constant (.bool false) kf p8] kv p10) X.env = pure none := by rfl) (h1 : (assignEach [.Tuple [.Subscript o (.UnaryOp .USub (.Constant (.int 1) k1 p6) p7) p1, .Name x px] kt p9] X.env).map (·.2) = [assign (.Tuple [.Subscript o (.UnaryOp .USub (.Constant (.int 1) k1 p6) p7) p1, .Name x px] kt p9) X.env] := by rfl)
    (hgS : PG X (.Subscript o (.UnaryOp .USub (.Constant (.int 1) k1 p6) p7) p1) (gSub (RE X o) (RE X (.UnaryOp .USub (.Constant (.int 1) k1 p6) p7)) rSetL) := by exact pg_sub re_ re_ set_list) {pa pb : Pos} :
    RB X (.If (.Compare (.Call (.Name "_law_take" pa) [o2, .Constant (.int 4) k4 p4] [] p3) [.Eq] [.Constant (.int 0) k0 p5] pb) [.Assign [.Tuple [.Subscript o (.UnaryOp .USub (.Constant (.int 1) k1 p6) p7) p1, .Name x px] kt p9] (.Tuple [e, .Constant (.bool false) kf p8] kv p10) p2] [] pos :: rest) D σ H := by
  refine rb_ifR (rt_eqI (re_take GT FT hr ho2 xv_int hB (fun t1 Ha t10 t11 sBa hBa => ⟨t1, rfl, re_int xv_int fun Hb sb => ⟨0, rfl, ?_⟩⟩) (hs := hs2) (hs2 := hs3) (hpl := hpl2) (hg := hg)))
  have sB : SameB b H Hb := sBa.trans (.of sb)
  have hplb := sB _ _ nb hpl
  have hxb := hx.up (sB.hid (List.mem_singleton.mpr rfl))
  have hBb := hBa.up sb (Nat.le_refl _)
  cases ec : decide (t1 = 0) with
  | false =>
    rw [if_neg Bool.false_ne_true]
    exact rb_nil (k es xl σ Hb (.inl ⟨rfl, rfl⟩) (fun a u na _ ea => sB a u na ea) hBb hplb hxb)
  | true =>
    rw [if_pos rfl]
    have hxl' : xl.length = es.length := by rw [dpa_len hx, List.length_map]
    refine rb_asgR ⟨_, pe_tup ra_, ra_cons ((he Hb sB hBb).go fun v Hc sc hv => ra_1 (XD.go (M := [b]) xd_bl fun vf Hd sd hvf => ?_) hv2) hv1⟩ hs hw h1
    have evf := dp_bl hvf
    subst evf
    refine ⟨by show 2 ≤ sizeLine; decide, fun t ht => ?_⟩
    have scd := sc.trans (sd.trans (same_new (o := .tup [v, .bl false]) ht))
    refine rg_tup (xs := [v, .bl false]) (SqT.of upd_same) (rgs_cons ⟨_, hgS, (ho _) _ (Same.refl _) _ fun He se => (xd_neg (M := []) xd_int).vint _ (Same.refl _) _ fun Hf sf => ?_⟩ ha1) hc ha3 ha4
    have sbf := scd.trans (se.trans sf)
    have hplc := sbf _ _ hplb
    refine ⟨pl, xl, -1, es.length - 1, rfl, rfl, hplc, by rw [hxl']; exact ixN_last l1, rgs_cons (rg_name i (rgs_nil (rb_nil ?_)) hN hi hxl hxf) ha2⟩
    have npM : pl ∉ [b] := by simp [nb]
    have hz : DqAll X.K (hid (pl :: [b]) Hf) (xl.set (es.length - 1) v) ((lastE es j0 el).map stepD) := by
      rw [← lastE_map]
      exact dqa_set (dq_st_hide hplc (hv.up (hid_mono ((sd.trans (same_new ht)).trans (se.trans sf))))) _ (dqa_st_hide hplc (hxb.up (hid_mono sbf)))
    refine k (lastE es j0 el) _ _ _ (.inr ⟨rfl, rfl⟩) (fun a u na np ea => ?_) ?_ upd_same ?_
    · rw [upd_ne np]
      exact sbf _ _ (sB a u na ea)
    · obtain ⟨g, m, c, e1, e2⟩ := hBb
      exact ⟨g, m, c, by rw [upd_ne (Ne.symm nb)]; exact sbf _ _ e1, e2⟩
    · have : DqAll X.K (hid (pl :: [b]) (upd Hf pl (.lst (xl.set (es.length - 1) v)))) (xl.set (es.length - 1) v) ((lastE es j0 el).map stepD) := by rw [hid_cons_upd]; exact hz
      exact this.up hid_weak
end
end Zn

set_option Elab.async false
set_option linter.all false
set_option maxRecDepth 100000
set_option maxHeartbeats 16000000
namespace Zn
open PySem PySem.Spec PyProof.Rows L2 Dl
open Pm (Pl Pt pt withC longN over upto allP nextM offB)
/-! k36: the law -/
abbrev sLaw : Stmt := top 69
/-- all that the law calls -/
structure Al (P : Program) (w : World) (K : PySem.W.Frag) (mg : Str → Option Value) (base : Heap) (CK : Addr) : Prop where
  T : Nm mg
  cell : ∃ f fd, Df K mg "_law_cell" sCell ["_law_script", "_law_index"] f fd ∧ FnOk P w K mg base CX0 1 f fd ["_law_script", "_law_index"] (spCell K)
  bag : ∃ f fd, Df K mg "_law_bag" sBag ["_law_cell_here"] f fd ∧ FnOk P w K mg base CX0 1 f fd ["_law_cell_here"] spBag
  take : ∃ f fd, Df K mg "_law_take" sTake ["_law_bag_here", "_law_many"] f fd ∧ FnOk P w K mg base CX0 1 f fd ["_law_bag_here", "_law_many"] spTake
  lkind : ∃ f fd, Df K mg "_law_kind" sLKind ["_law_bag_here"] f fd ∧ FnOk P w K mg base CX0 2 f fd ["_law_bag_here"] (spLKind34 K)
  lsteps : ∃ f fd, Df K mg "_law_steps" sLSteps ["_law_bag_here", "_law_kind_here", "_law_moment"] f fd ∧ FnOk P w K mg base CX0 2 f fd ["_law_bag_here", "_law_kind_here", "_law_moment"] (spLSteps K)
  llog : ∃ f fd, Df K mg "_law_log" sLLog ["_law_bag_here", "_law_plan", "_law_many"] f fd ∧ FnOk P w K mg base CX0 2 f fd ["_law_bag_here", "_law_plan", "_law_many"] (spLLog K)
  lfit : ∃ f fd, Df K mg "_law_fitting" sLFit ["_law_kind_here", "_law_log_here", "_law_more"] f fd ∧ FnOk P w K mg base CX0 2 f fd ["_law_kind_here", "_law_log_here", "_law_more"] (spL K RLFit)
  lbetw : ∃ f fd, Df K mg "_law_between" sLBetw ["_law_zones", "_law_log_here"] f fd ∧ FnOk P w K mg base CX0 1 f fd ["_law_zones", "_law_log_here"] (spR K RLBetw)
  lstr : ∃ f fd, Df K mg "_law_stretches_right" sLStr ["_law_plain", "_law_plan", "_law_log_here", "_law_told", "_law_fits_it"] f fd ∧ FnOk P w K mg base CX0 4 f fd ["_law_plain", "_law_plan", "_law_log_here", "_law_told", "_law_fits_it"] (spLStr K)
  ldrawn : ∃ f fd, Df K mg "_law_drawn_right" sLDrawn ["_law_bag_here", "_law_plain", "_law_log_here", "_law_told"] f fd ∧ FnOk P w K mg base CX0 4 f fd ["_law_bag_here", "_law_plain", "_law_log_here", "_law_told"] (spLDrawn K)
  lfar : ∃ f fd, Df K mg "_law_far_right" sLFar ["_law_bag_here"] f fd ∧ FnOk P w K mg base CX0 7 f fd ["_law_bag_here"] spLFar
  kmk : ∃ f fd, KMk P w K mg base CK f fd
  betw : ∃ f fd, Df K mg "changes_between" sBetw ["kind", "log"] f fd ∧ FnOk P w K mg base CX0 6 f fd ["kind", "log"] (spBetw K CK)
  chstr : ∃ f fd, Df K mg "change_stretches" sChStr ["kind", "log"] f fd ∧ FnOk P w K mg base CX0 6 f fd ["kind", "log"] (spChStr K CK)
abbrev lawN : List Str := ["_law_script", "_law_index", "_law_bag_here", "_law_plain", "_law_kind_here", "_law_plan", "_law_log_here", "_law_fits_it", "_law_zones", "_law_other", "_law_due", "_law_lap", "_law_found", "_law_told"]
theorem scLaw : FnScope lawN ["_law_script"] (defScope sLaw) := ⟨rfl, rfl, rfl, by decide +kernel, rfl, by decide +kernel, by decide +kernel⟩
theorem few_fit0 {k : Kd} {es : List Step} (n : Few k es) : FitOk k es [] := by
  have l1 := n.l1
  have l3 := n.l3
  have m0 := n.ko.m0
  have m2 := n.m2
  refine ⟨n.ko, m2, by omega, ?_⟩
  have h := Nat.mul_le_mul (show es.length + ([] : List Int).length ≤ 3 by simp; omega) (show 2 * (k.mo.toNat + 1) ≤ 6 by omega)
  omega
theorem fit_steps {k : Kd} {es : List Step} (n : Few k es) : ∀ x ∈ fitL k es [], x.2.length ≤ 1000 := fun x hx => by
  have h := (fitL_sound n.ko (show (x.1, x.2) ∈ fitL k es [] from hx)).len
  have := n.m2
  omega
theorem betwD_isN (k : Kd) (es : List Step) : isN (betwD k es) = (plans0 k es).isEmpty := by
  unfold betwD
  cases (plans0 k es).isEmpty <;> rfl
section
variable {X : Cx} {M : List Addr} {σ : L2.St} {H : Hp} {e e1 e2 e3 e4 e5 : Expr} {pos p1 : Pos} {f a : Addr} {fd : FuncData} {CK : Addr} {k : Kd} {es : List Step} {kb : Bool}
theorem xt_notNoneR {v : V} {j} (ha : XV X σ H e v) (hn : v ≠ .non) (hm : behindInMarks .IsNot (.Constant .none j p1) = false := by rfl) : XT X σ H (.Compare e [.IsNot] [.Constant .none j p1] pos) true := fun H1 s Q q =>
  ⟨_, pt_cmpR op_notN re_ re_ hm, ha H1 s _ fun H2 s2 => (xd_non (M := [])) H2 (Same.refl _) _ fun w H3 s3 hw => ⟨dp_non hw, _, rfl, by rw [decide_eq_false hn]; exact q H3 (s2.trans s3)⟩⟩
theorem rt_notR {Q : Bool → Hp → Prop} (h : RT X e σ H fun b H1 => Q (!b) H1) : RT X (.UnaryOp .Not e pos) σ H Q := ⟨_, pt_not rt_, h⟩
theorem rt_valR {Q : Bool → Hp → Prop} (h : RE X e σ H fun v H1 => ∃ k, v = .bl k ∧ Q k H1) (he : ∀ whole, isTrue e X.env whole = (do let v ← whole; standAt e.pos; holding [v] (truthy v)) := by intro _; rfl) : RT X e σ H Q := ⟨_, pt_val re_ he, h⟩
/-- changes_between(kind, log): a value with its list -/
theorem re_betwR {Q : VK} (L : Live M H) (G : FnOk X.prog X.w X.K X.mg X.base CX0 6 f fd ["kind", "log"] (spBetw X.K CK)) (hr : Room 6 X.A) (FF : Df X.K X.mg "changes_between" sBetw ["kind", "log"] f fd) (ho : XV X σ H e1 (.ref a)) (hk : KAt X.K CK (hid M H) a k) (ko : KOk k) (hb : XD X M σ H e2 (sqD kb (es.map stepD))) (hl : LogOk (es.map stepD) es)
    (q : ∀ v H2, Same H H2 → Dq X.K (hid M H2) v (betwD k es) → (v ≠ .non → ∃ y xs, v = .ref y ∧ H y = none ∧ H2 y = some (.lst xs) ∧ xs.length = (betwP k es).length) → Q v H2)
    (hg : Gl X "changes_between" := by rfl) (he : starEach [e1, e2] X.env = (false, eval e1 X.env) :: starEach [e2] X.env := by rfl) (he2 : starEach [e2] X.env = (false, eval e2 X.env) :: starEach [] X.env := by rfl) (hpl : (backTo pos (starEach [e2] X.env)).any (·.1) = false := by rfl) :
    RE X (.Call (.Name "changes_between" p1) [e1, e2] [] pos) σ H Q :=
  re_call G hr FF.g FF.F.kp FF.b (ra_cons (ho.go fun Ha sa => ra_1 (hb Ha sa _ fun vl Hb sb hvl =>
    ⟨M, a, vl, k, kb, es, rfl, L.mono (sa.trans sb), hk.up (hid_mono (sa.trans sb)), ko, hvl, hl,
      fun z H3 s3 => q _ H3 ((sa.trans sb).trans s3) (by unfold betwD; rw [z]; exact .non) (fun n => absurd rfl n),
      fun z y xs H3 s3 hy h3 hx => q _ H3 ((sa.trans sb).trans s3) (by
        have e : betwD k es = .list ((betwP k es).map stepD) := by
          unfold betwD
          cases hp : plans0 k es with
          | nil => exact absurd hp z
          | cons _ _ => rfl
        rw [e]
        exact .lst (by rw [hid_of ((L.mono (sa.trans sb)).fresh hy)]; exact h3) hx) (fun _ => ⟨y, xs, rfl, (sa.trans sb).free hy, h3, by rw [dpa_len hx, List.length_map]⟩)⟩) he2) he) hg (by decide) he hpl
end
section
variable {P : Program} {w : World} {K : PySem.W.Frag} {mg : Str → Option Value} {base : Heap} {C CK CP CZ : Addr}
theorem ok_law {f : Addr} {fd : FuncData} (A : Al P w K mg base CK) (F : Fun K "law" "law" sLaw f fd) : FnG P w K mg base 10 f fd ["_law_script"] (spLaw K) := by
  obtain ⟨fc, fdc, FC, GC⟩ := A.cell
  obtain ⟨fb, fdb, FB, GB⟩ := A.bag
  obtain ⟨ft, fdt, FT, GT⟩ := A.take
  obtain ⟨fk, fdk, FK, GK⟩ := A.lkind
  obtain ⟨fs, fds, FS, GS⟩ := A.lsteps
  obtain ⟨fl, fdl, FL, GL⟩ := A.llog
  obtain ⟨fg, fdg, FG, GG⟩ := A.lfit
  obtain ⟨fw, fdw, FW, GW⟩ := A.lbetw
  obtain ⟨fr, fdr, FR, GR⟩ := A.lstr
  obtain ⟨fd1, fdd1, FD, GD⟩ := A.ldrawn
  obtain ⟨fx, fdx, FX, GX⟩ := A.lfar
  obtain ⟨f1, fd1', WK⟩ := A.kmk
  obtain ⟨f2, fd2, FE, GE⟩ := A.betw
  obtain ⟨f3, fd3, FO, GO⟩ := A.chstr
  have T := A.T
  refine fn_g F scLaw (fun vs H Q E h => ?_) (fun cdv A' outer s H vs Q E hA hr h => ?_)
  · obtain ⟨a, ns, rfl, _⟩ := h; rfl
  · obtain ⟨a, ns, rfl, hS, q⟩ := h
    have hr7 := hr.mono (show 7 ≤ 9 by decide)
    have hr6 := hr.mono (show 6 ≤ 9 by decide)
    have hr4 := hr.mono (show 4 ≤ 9 by decide)
    have hr2 := hr.mono (show 2 ≤ 9 by decide)
    have hr1 := hr.mono (show 1 ≤ 9 by decide)
    refine rb_range T.rng (XD.go (M := []) (xd_max T.max (xa_cons xd_int (xa_cons (xd_min T.min (xa_cons xd_int (xa_cons (xv_lenS T.len (xv_name 0 rfl) hS).int xa_nil))) xa_nil))) fun v H0 s0 hv => ?_)
    have ev := dp_int hv
    subst ev
    generalize hnn : (if (if ((ns.map V.int).length : Int) < 3 then ((ns.map V.int).length : Int) else 3) > 2 then (if ((ns.map V.int).length : Int) < 3 then ((ns.map V.int).length : Int) else 3) else 2) = nn
    have hn2 : 0 ≤ nn ∧ nn ≤ 100 := by
      rw [← hnn]
      split <;> split <;> omega
    refine ⟨nn.toNat, by rw [Int.toNat_of_nonneg hn2.1], by omega, fun i σ' H' => Same H H' ∧ ∃ u1 u2 u3 u4 u5 u6 u7 u8 u9 u10 u11 u12 u13, σ' = [some (.ref a), u1, u2, u3, u4, u5, u6, u7, u8, u9, u10, u11, u12, u13], ⟨s0, none, none, none, none, none, none, none, none, none, none, none, none, none, rfl⟩, fun i σ' H' hi w => ?_, fun σ' H' w => ?_⟩
    · obtain ⟨sH0, u1, u2, u3, u4, u5, u6, u7, u8, u9, u10, u11, u12, u13, rfl⟩ := w
      refine rg_name 1 ?_ scLaw.nd
      -- the bag, the kind
      refine rb_setR 2 (re_call GB hr1 FB.g FB.F.kp FB.b (ra_1 (re_call GC hr1 FC.g FC.F.kp FC.b (ra_cons (XV.go (xv_name 0 rfl) fun Ha sa => ra_1 (XV.go (xv_name 1 rfl) fun Hb sb => ⟨a, ns, i, rfl, ((sH0.trans sa).trans sb).seq hS, fun nc Hc sc => ⟨nc, rfl, fun b H1 s1 hb hB => ?_⟩⟩)))))) scLaw.nd
      have s01 : Same H' H1 := ((sa.trans sb).trans sc).trans s1
      have hb0 : H' b = none := ((sa.trans sb).trans sc).free hb
      refine rb_setR 3 (re_call GK hr2 FK.g FK.F.kp FK.b (ra_1 (XV.go (xv_name 2 rfl) fun H2 s2 => ⟨[], b, 0, rfl, Live.nil, hB.up s2 (Nat.le_refl _), by decide, fun k vk H3 ko hst m2 hjm hap sB3 hB3 hvk => ?_⟩))) scLaw.nd
      have hvk : Dq K (hid [b] H3) vk (kindD k) := hvk
      have s03 : Same H' H3 := fun x o e => sB3 x o (ne_of_none e hb0) ((s01.trans s2) x o e)
      have hj1 := ko.js.2.2.1
      have hj4 := ko.js.2.2.2
      have m0 := ko.m0
      have hap0 : 0 ≤ k.ap := Int.le_of_lt (floor_pos ko)
      have L3 : Live [b] H3 := fun y hy => by rw [List.mem_singleton.mp hy]; exact hB3.some
      refine rb_setR 4 (XK.go (xk_make (k := k) L3 WK hr4 ko (.inl rfl) (xd_ixT (fun _ _ => rfl) (xd_name 3 rfl hvk) xd_int k0) (xd_ixT (fun _ _ => rfl) (xd_name 3 rfl hvk) xd_int k1) (xd_ixT (fun _ _ => rfl) (xd_name 3 rfl hvk) xd_int k2)) fun y H4 s4 hk4 => ?_) scLaw.nd
      have hk4 : KAt K CK (hid [b] H4) y k := hk4
      have hv4 : Dq K (hid [b] H4) vk (kindD k) := hvk.up (hid_mono s4)
      have hB4 := hB3.up s4 (Nat.le_refl _)
      have s04 := s03.trans s4
      -- the plan
      refine rb_setR 5 ⟨_, pe_tup ra_, ra_cons (re_subI (re_take GT FT hr1 (xv_name 2 rfl) xv_int hB4 fun r0 H5 r01 r02 sB5 hB5 => ⟨r0, rfl, re_int xv_int fun H6 s6 => ⟨400, rfl, ?_⟩⟩))⟩ scLaw.nd
      have sB46 : SameB b H4 H6 := sB5.trans (.of s6)
      have hv6 := hv4.up (sB46.hid (List.mem_singleton.mpr rfl))
      have hB6 := hB5.up s6 (Nat.le_refl _)
      refine ra_1 (re_call GS hr2 FS.g FS.F.kp FS.b (ra_cons (XV.go (xv_name 2 rfl) fun Ia ia => ra_cons (XD.go (M := [b]) (xd_name 3 rfl (hv6.up (hid_mono ia))) fun vq Ib ib hvq => ra_1 (XV.go xv_int fun Ic ic =>
        ⟨[], b, _, k, vq, 0, rfl, Live.nil, hB6.up ((ia.trans ib).trans ic) (Nat.le_refl _), by omega, hvq.up (hid_mono ic), ⟨hj1, by omega⟩, ⟨m0, by omega⟩, fun st vst H7 of hlen hmb sB7 hB7 hst7 => ?_⟩)))))
      refine ⟨by show 2 ≤ sizeLine; decide, fun t ht => ?_⟩
      have hst7 : Dq K (hid [b] H7) vst (.list (st.map stepD)) := hst7
      have ntb : t ≠ b := fun e => by rw [e] at ht; exact hB7.some ht
      have sB47 : SameB b H4 H7 := sB46.trans ((SameB.of ((ia.trans ib).trans ic)).trans sB7)
      have hoff : -400 ≤ r0 - 400 ∧ r0 - 400 < 500 := by omega
      generalize r0 - 400 = off at hoff ⊢
      have kp8 : Dq K (hid [b] (upd H7 t (.tup [.int off, vst]))) (.ref t) (planD off st) := .tup (SqT.of (xs := [V.int off, vst]) (by rw [hid_of (by simp [ntb])]; exact upd_same)) (.cons (.int _) (.cons (hst7.up (hid_mono (same_new ht))) .nil))
      have sB48 : SameB b H4 (upd H7 t (.tup [.int off, vst])) := sB47.trans (sameB_new ht)
      have hB8 := bag_new (o := .tup [.int off, vst]) hB7 ht
      generalize hJ : upd H7 t (.tup [.int off, vst]) = H8 at kp8 sB48 hB8
      show RB _ _ _ _ _
      have g48 : Same (hid [b] H4) (hid [b] H8) := sB48.hid (List.mem_singleton.mpr rfl)
      have hk8 := hk4.up g48
      have hv8 := hv4.up g48
      have s08 : Same H' H8 := fun x o e => sB48 x o (ne_of_none e hb0) (s04 x o e)
      have hst50 : st.length ≤ 50 := by omega
      clear hB hB3 hB4 hB5 hB6 hB7
      -- the log
      refine rb_parR 6 7 (ra_cons (re_call GL hr2 FL.g FL.F.kp FL.b (ra_cons (XV.go (xv_name 2 rfl) fun Ia ia => ra_cons (XD.go (M := [b]) (xd_name 5 rfl (kp8.up (hid_mono ia))) fun vq Ib ib hvq => ra_1 (re_addI (re_int xv_int fun Ic ic => ⟨1, rfl, re_take GT FT hr1 (xv_name 2 rfl) xv_int (hB8.up ((ia.trans ib).trans ic) (Nat.le_refl _)) fun r1 Id r10 r11 sBd hBd => ⟨r1, rfl, ?_⟩⟩))))))) scLaw.nd
      obtain ⟨n1, rfl⟩ := Int.eq_ofNat_of_zero_le r10
      refine ⟨[], b, _, vq, off, st, 1 + n1, by rw [Int.natCast_add]; rfl, Live.nil, hBd, by omega, hvq.up ((SameB.of ic).trans sBd |>.hid (List.mem_singleton.mpr rfl)), hst50, by omega, by omega, fun ms pl xl H9 hpw l1 l2 hnb sB9 hB9 hpl0 hpl9 hxl => ?_⟩
      have sB8d : SameB b H8 Id := (SameB.of ((ia.trans ib).trans ic)).trans sBd
      have nplb : pl ≠ b := fun e => by rw [e] at hpl0; exact hBd.some hpl0
      have hpl8 : H8 pl = none := by
        cases z : H8 pl with
        | none => rfl
        | some o => have := sB8d pl o nplb z; rw [hpl0] at this; cases this
      have hxl9 : DqAll K (hid [b] H9) xl ((readE off st ms).map stepD) := hxl
      have sB89 : SameB b H8 H9 := sB8d.trans sB9
      have asc := readE_asc (f := off) (st := st) hpw
      have elen := readE_len off st ms
      have fz := readE_fz (k := k) (f := off) ms of hlen
      have near : ∀ (st : List Step) (ms : List Int) (f : Int), (∀ s ∈ st, MB k 0 3 s.1) → (∀ m ∈ ms, NB 9001 st m) → ∀ e ∈ readE f st ms, e.1.natAbs < 2 ^ 190 := fun st ms f hs hm e he => by
        obtain ⟨m, hm', rfl⟩ := List.mem_map.mp he
        have h := hm m hm' 30000 (by decide) fun s hs' => by
          have := hs s hs' hap0
          have a3 : (((3 : Nat) : Int)) * (k.ap + 3000) ≤ 3 * 8000 := by
            show (3 : Int) * (k.ap + 3000) ≤ 3 * 8000
            omega
          omega
        show m.natAbs < _
        have : (40000 : Nat) < 2 ^ 190 := by decide
        omega
      have ebd := near st ms off hmb hnb
      generalize readE off st ms = es at hxl9 asc elen fz ebd
      have e1 : 1 ≤ es.length := by omega
      have e3 : es.length ≤ 3 := by omega
      obtain ⟨j0, hj0⟩ : ∃ j0, k.js[0]? = some j0 := ⟨k.js[0]'(by omega), List.getElem?_eq_getElem (by omega)⟩
      have hjd : atI (k.js.map PyData.int) ((0 : Nat) : Int) = some (.int j0) := atI_nat (by rw [List.getElem?_map, hj0]; rfl)
      have hjd : atI (k.js.map PyData.int) 0 = some (.int j0) := hjd
      obtain ⟨el, hel⟩ : ∃ el, es.getLast? = some el := by
        cases z : es.getLast? with
        | none => rw [List.getLast?_eq_none_iff] at z; rw [z] at e1; simp at e1
        | some el => exact ⟨el, rfl⟩
      refine ra_1 (XD.go (M := []) xd_bl fun vf Hf sf hvf => ⟨_, _, rfl, ?_⟩)
      have evf := dp_bl hvf
      subst evf
      have hpl9 := sf _ _ hpl9
      have hxl9 := hxl9.up (hid_mono (M := [b]) sf)
      have hB9 := hB9.up sf (Nat.le_refl _)
      have sB89 : SameB b H8 Hf := sB89.trans (.of sf)
      generalize Hf = H9 at hpl9 hxl9 hB9 sB89
      have g89 : Same (hid [b] H8) (hid [b] H9) := sB89.hid (List.mem_singleton.mpr rfl)
      have hv9 := hv8.up g89
      have kl9 : Dq K (hid [b] H9) (.ref pl) (.list (es.map stepD)) := .lst (by rw [hid_of (by simp [nplb])]; exact hpl9) hxl9
      have L9 : Live [b] H9 := fun y hy => by rw [List.mem_singleton.mp hy]; exact hB9.some
      refine rb_bendF (el := el) (j0 := j0) 7 GT FT hr1 (xv_name 2 rfl) hB9 (by omega) nplb hpl9 hxl9 e1 (fun _ => xv_name 6 rfl) (fun Hx sx hBx => ?bent) scLaw.nd (fun es' xs' σx Ha hes sA hBa hpla hxa => ?main)
      case bent =>
        have gx : Same (hid [b] H9) (hid [b] Hx) := sx.hid (List.mem_singleton.mpr rfl)
        have Lx : Live [b] Hx := fun y hy => by
          rw [List.mem_singleton.mp hy]
          exact hBx.some
        have klx := kl9.up gx
        exact xd_tup (ds := [.int el.1, .int (el.2 + j0)]) Lx (xa_cons (xd_ixT (fun _ _ => rfl) (xd_ixL (fun _ _ => rfl) (xd_name 6 rfl klx) (xd_neg xd_int) (last_step hel)) xd_int step0) (xa_cons (xd_add (xd_ixT (fun _ _ => rfl) (xd_ixL (fun _ _ => rfl) (xd_name 6 rfl klx) (xd_neg xd_int) (last_step hel)) xd_int step1) (xd_ixL (fun _ _ => rfl) (xd_ixT (fun _ _ => rfl) (xd_name 3 rfl (hv9.up gx)) xd_int k0) xd_int hjd)) xa_nil))
      obtain ⟨fb, hσx, hfz, fw', hbd'⟩ : ∃ fb : Bool, σx = [some (.ref a), some (.int (i : Int)), some (.ref b), some vk, some (.ref y), some (.ref t), some (.ref pl), some (.bl fb), u8, u9, u10, u11, u12, u13] ∧ (fb = true → Fz k es' off st) ∧ Few k es' ∧ ∀ e ∈ es', e.1.natAbs < 2 ^ 190 := by
        rcases hes with ⟨e, e2⟩ | ⟨e, e2⟩
        · exact ⟨true, e2, fun _ => e ▸ fz, e ▸ ⟨ko, m2, e1, e3, asc⟩, e ▸ ebd⟩
        · have hl : (lastE es j0 el).length = es.length := by unfold lastE; rw [List.length_set]
          refine ⟨false, e2, (fun z => by cases z), e ▸ ⟨ko, m2, by omega, by omega, asc_fst (lastE_fst hel) asc⟩, fun x hx => ?_⟩
          rw [e] at hx
          unfold lastE at hx
          rcases List.mem_or_eq_of_mem_set hx with z | z
          · exact ebd x z
          · rw [z]; exact ebd el (List.mem_of_getLast? hel)
      subst hσx
      have sB8a : SameB b H8 Ha := fun x o nx e => sA x o nx (fun q => by rw [q, hpl8] at e; cases e) (sB89 x o nx e)
      have g8a : Same (hid [b] H8) (hid [b] Ha) := sB8a.hid (List.mem_singleton.mpr rfl)
      have hka := hk8.up g8a
      have hva := hv8.up g8a
      have kpa := kp8.up g8a
      have s0a : Same H' Ha := fun x o e => sB8a x o (ne_of_none e hb0) (s08 x o e)
      have hla : Dq K (hid [b] Ha) (.ref pl) (.list (es'.map stepD)) := .lst (by rw [hid_of (by simp [nplb])]; exact hpla) hxa
      have La : Live [b] Ha := fun y hy => by rw [List.mem_singleton.mp hy]; exact hBa.some
      clear hBd hB8 hB9 hxl9 kl9 hpl9 hxl hes ebd elen e1 e3 asc hel fz
      generalize es' = es at hla hfz fw' hbd' hxa
      have e1 := fw'.l1
      have e3 := fw'.l3
      have asc := fw'.asc
      have lo := log_log e1 (by omega) asc
      have hel : ((es.map stepD).length : Int) = (es.length : Int) := by rw [List.length_map]
      -- its zones; another log
      refine rb_parR 8 9 (ra_cons (XL.go (M := [b]) (xl_call (ds2 := (fitL k es []).map planD') La GG hr2 FG.g FG.F.kp FG.b (xa_cons (xd_name 3 rfl hva) (xa_cons (xd_name 6 rfl hla) (xa_cons (xd_lst (ds := []) La xa_nil) xa_nil))) ⟨k, es, [], rfl, few_fit0 fw', rfl⟩) fun pz xz H2 s2 hpz h2 hxz => ?_)) scLaw.nd
      have L2' := La.mono s2
      have kz2 : Dq K (hid [b] H2) (.ref pz) (.list ((fitL k es []).map planD')) := .lst (by rw [hid_of (La.fresh hpz)]; exact h2) hxz
      have hB2 := hBa.up s2 (Nat.le_refl _)
      have g2 := hid_mono (M := [b]) s2
      have hk2 := hka.up g2
      have hv2 := hva.up g2
      have kp2 := kpa.up g2
      have hl2 := hla.up g2
      have s02 := s0a.trans s2
      clear hBa
      refine ra_1 (re_call GL hr2 FL.g FL.F.kp FL.b (ra_cons (XV.go (xv_name 2 rfl) fun Ja ja => ra_cons ⟨_, pe_tup ra_, ra_cons (XV.go xv_int fun Jb jb => ra_1 (re_call GS hr2 FS.g FS.F.kp FS.b (ra_cons (XV.go (xv_name 2 rfl) fun Jc jc => ra_cons (XD.go (M := [b]) (xd_name 3 rfl (hv2.up (hid_mono ((ja.trans jb).trans jc)))) fun vq2 Jd jd hvq2 => ra_1 (XV.go xv_int fun Je je =>
        ⟨[], b, _, k, vq2, 0, rfl, Live.nil, hB2.up ((((ja.trans jb).trans jc).trans jd).trans je) (Nat.le_refl _), by omega, hvq2.up (hid_mono je), ⟨hj1, by omega⟩, ⟨m0, by omega⟩, fun st2 vst2 Jf of2 hlen2 hmb2 sBf hBf hst2 => ?_⟩))))))⟩)))
      refine ⟨by show 2 ≤ sizeLine; decide, fun t2 ht2 => ?_⟩
      have hst2 : Dq K (hid [b] Jf) vst2 (.list (st2.map stepD)) := hst2
      have nt2 : t2 ≠ b := fun e => by rw [e] at ht2; exact hBf.some ht2
      have kp2' : Dq K (hid [b] (upd Jf t2 (.tup [.int 60, vst2]))) (.ref t2) (planD 60 st2) := .tup (SqT.of (xs := [V.int 60, vst2]) (by rw [hid_of (by simp [nt2])]; exact upd_same)) (.cons (.int _) (.cons (hst2.up (hid_mono (same_new ht2))) .nil))
      have sB2f : SameB b H2 (upd Jf t2 (.tup [.int 60, vst2])) := ((SameB.of ((((ja.trans jb).trans jc).trans jd).trans je)).trans sBf).trans (sameB_new ht2)
      have hBf2 := bag_new (o := .tup [.int 60, vst2]) hBf ht2
      have g2f : Same (hid [b] H2) (hid [b] (upd Jf t2 (.tup [.int 60, vst2]))) := sB2f.hid (List.mem_singleton.mpr rfl)
      refine ra_1 (XV.go ((xd_len (M := [b]) T.len (xd_name 6 rfl (hl2.up g2f))).vint) fun Jg jg => ?_)
      refine ⟨[], b, _, .ref t2, 60, st2, es.length, by rw [hel], Live.nil, hBf2.up jg (Nat.le_refl _), by omega, kp2'.up (hid_mono jg), by omega, e1, by omega, fun ms2 po xo Jh hpw2 l12 l22 hnb2 sBh hBh hpo0 hpo hxo => ⟨_, _, rfl, ?_⟩⟩
      have hxo : DqAll K (hid [b] Jh) xo ((readE 60 st2 ms2).map stepD) := hxo
      have asc2 := readE_asc (f := 60) (st := st2) hpw2
      have elen2 := readE_len 60 st2 ms2
      generalize readE 60 st2 ms2 = es2 at hxo asc2 elen2
      have fw2 : Few k es2 := ⟨ko, m2, by omega, by omega, asc2⟩
      have lo2 := log_log fw2.l1 (show es2.length ≤ 12 by have := fw2.l3; omega) asc2
      have sB2h : SameB b H2 Jh := (sB2f.trans (.of jg)).trans sBh
      have npob : po ≠ b := fun e => by rw [e] at hpo; obtain ⟨g, m, c, q1, _⟩ := hBf2.up jg (Nat.le_refl _); rw [e, q1] at hpo0; cases hpo0
      have g2h : Same (hid [b] H2) (hid [b] Jh) := sB2h.hid (List.mem_singleton.mpr rfl)
      have ko' : Dq K (hid [b] Jh) (.ref po) (.list (es2.map stepD)) := .lst (by rw [hid_of (by simp [npob])]; exact hpo) hxo
      have Lh : Live [b] Jh := fun y hy => by rw [List.mem_singleton.mp hy]; exact hBh.some
      have hkh := hk2.up g2h
      have hvh := hv2.up g2h
      have kph := kp2.up g2h
      have hlh := hl2.up g2h
      have kzh := kz2.up g2h
      have s0h : Same H' Jh := fun x o e => sB2h x o (ne_of_none e hb0) (s02 x o e)
      clear hB2 hBf hBf2
      -- what is due for it
      refine rb_set 10 (M := [b]) (d := betwD k es2) (XD.to (xd_call (d := if (fitL k es2 []).isEmpty then .none else .list ((betwL (fitL k es2 []) es2 (es2.length - 1)).map stepD)) Lh GW hr1 FW.g FW.F.kp FW.b (xa_cons (XL.dd (xl_call (ds2 := (fitL k es2 []).map planD') Lh GG hr2 FG.g FG.F.kp FG.b (xa_cons (xd_name 3 rfl hvh) (xa_cons (xd_name 9 rfl ko') (xa_cons (xd_lst (ds := []) Lh xa_nil) xa_nil))) ⟨k, es2, [], rfl, few_fit0 fw2, rfl⟩) Lh) (xa_cons (xd_name 9 rfl ko') xa_nil)) ⟨fitL k es2 [], es2, rfl, few_len fw2 [] (by simp), fit_steps fw2, by have := fw2.l3; omega, rfl⟩) (betw_law ko asc2 fw2.l1)) (fun vd Hd sd hvd => ?_) scLaw.nd
      have Ld := Lh.mono sd
      have hBd := hBh.up sd (Nat.le_refl _)
      have gd := hid_mono (M := [b]) sd
      have hkd := hkh.up gd
      have hvd' := hvh.up gd
      have kpd := kph.up gd
      have hld := hlh.up gd
      have kzd := kzh.up gd
      have kod := ko'.up gd
      have s0d := s0h.trans sd
      have hfew : (strAll k es).length ≤ 200 := strAll_few fw' hjm
      have htl := told_len (strAll k es)
      -- told twice
      refine rb_range T.rng (XV.go xv_int fun Hr sr => ⟨2, rfl, by decide, fun q σ' J => SameB b Hd J ∧ BagAt J b (1000 + 5000 * q) ∧ ∃ w11 w12 w13, σ' = [some (.ref a), some (.int (i : Int)), some (.ref b), some vk, some (.ref y), some (.ref t), some (.ref pl), some (.bl fb), some (.ref pz), some (.ref po), some vd, w11, w12, w13],
        ⟨.of sr, hBd.up sr (by omega), u11, u12, u13, rfl⟩, fun q σ' J hq w => ?_, fun σ' J w => ?_⟩)
      · obtain ⟨sJ, hBJ, w11, w12, w13, rfl⟩ := w
        have gJ : Same (hid [b] Hd) (hid [b] J) := sJ.hid (List.mem_singleton.mpr rfl)
        have LJ : Live [b] J := fun y hy => by rw [List.mem_singleton.mp hy]; exact hBJ.some
        have hkJ := hkd.up gJ
        have hvJ := hvd'.up gJ
        have kpJ := kpd.up gJ
        have hlJ := hld.up gJ
        have kzJ := kzd.up gJ
        have koJ := kod.up gJ
        have hdJ := hvd.up gJ
        refine rg_name 11 ?_ scLaw.nd
        refine rb_ifF ((xt_neS (M := [b]) (xd_reprBetw hA hr.units T.rep ko asc2 fw2.l1 (by have := fw2.l3; omega) (xd_betw (CK := CK) (kb := false) LJ GE hr6 FE (xv_name 4 rfl) hkJ ko (xd_name 9 rfl koJ) lo2)) (xd_reprBetw hA hr.units T.rep ko asc2 fw2.l1 (by have := fw2.l3; omega) (xd_name 10 rfl hdJ))).to (by rw [decide_eq_true rfl]; rfl)) fun J1 s1 => ?_
        have L1 := LJ.mono s1
        have g1 := hid_mono (M := [b]) s1
        have hk1 := hkJ.up g1
        have hv1 := hvJ.up g1
        have kp1 := kpJ.up g1
        have hl1 := hlJ.up g1
        have kz1 := kzJ.up g1
        have hB1 := hBJ.up s1 (Nat.le_refl _)
        refine rb_parR 12 13 (ra_cons (re_betwR (CK := CK) (M := [b]) (kb := false) L1 GE hr6 FE (xv_name 4 rfl) hk1 ko (xd_name 6 rfl hl1) lo fun vf J2 s2 hvf hfl => ra_1 (XL.go (M := [b]) (xl_chStr (CK := CK) (kb := true) (L1.mono s2) GO hr6 FO (xv_name 4 rfl) (hk1.up (hid_mono s2)) ko (xd_tupleL T.tup (L1.mono s2) (xd_name 6 rfl (hl1.up (hid_mono s2)))) lo (by omega)) fun pt xt J3 s3 hpt hpt3 hxt => ⟨_, _, rfl, ?_⟩))) scLaw.nd
        have s13 := s2.trans s3
        have g13 := hid_mono (M := [b]) s13
        have L3' := L1.mono s13
        have kt3 : Dq K (hid [b] J3) (.ref pt) (.list ((joinL (srtP (strAll k es))).map stepD)) := .lst (by rw [hid_of ((L1.mono s2).fresh hpt)]; exact hpt3) hxt
        have hvf3 : Dq K (hid [b] J3) vf (betwD k es) := hvf.up (hid_mono s3)
        have hv3 := hv1.up g13
        have kp3 := kp1.up g13
        have hl3 := hl1.up g13
        have kz3 := kz1.up g13
        have hB3' := hB1.up s13 (Nat.le_refl _)
        refine rb_ifF ((xt_neS (M := [b]) (xd_reprBetw hA hr.units T.rep ko asc e1 (by omega) (xd_name 12 rfl hvf3)) (xd_reprBetw hA hr.units T.rep ko asc e1 (by omega) (XD.to (xd_call (d := if (fitL k es []).isEmpty then .none else .list ((betwL (fitL k es []) es (es.length - 1)).map stepD)) L3' GW hr1 FW.g FW.F.kp FW.b (xa_cons (xd_name 8 rfl kz3) (xa_cons (xd_name 6 rfl hl3) xa_nil)) ⟨fitL k es [], es, rfl, few_len fw' [] (by simp), fit_steps fw', by omega, rfl⟩) (betw_law ko asc e1)))).to (by rw [decide_eq_true rfl]; rfl)) fun J4 s4 => ?_
        have g4 := hid_mono (M := [b]) s4
        have L4' := L3'.mono s4
        -- the stretches
        refine rb_ifF ((xt_not (xt_val (M := [b]) (fun I0 i0 Qx qx => re_call GR hr4 FR.g FR.F.kp FR.b (ra_cons (XD.go (M := [b]) (xd_name 3 rfl (hv3.up (g4.trans (hid_mono i0)))) fun x1 I1 i1 h1 => ra_cons (XD.go (M := [b]) (xd_name 5 rfl (kp3.up (g4.trans (hid_mono (i0.trans i1))))) fun x2 I2 i2 h2 => ra_cons (XD.go (M := [b]) (xd_name 6 rfl (hl3.up (g4.trans (hid_mono ((i0.trans i1).trans i2))))) fun x3 I3 i3 h3 => ra_cons (XD.go (M := [b]) (xd_name 13 rfl (kt3.up (g4.trans (hid_mono (((i0.trans i1).trans i2).trans i3))))) fun x4 I4 i4 h4 => ra_1 (XV.go (xv_name 7 rfl) fun I5 i5 =>
          ⟨[b], x1, x2, x3, x4, fb, k, es, off, st, joinL (srtP (strAll k es)), rfl, L4'.mono (((((i0.trans i1).trans i2).trans i3).trans i4).trans i5), h1.up (hid_mono (((i2.trans i3).trans i4).trans i5)), h2.up (hid_mono ((i3.trans i4).trans i5)), h3.up (hid_mono (i4.trans i5)), h4.up (hid_mono i5), fw', by omega, told_ok fw', hfz, fun I6 i6 => qx _ I6 (((((i1.trans i2).trans i3).trans i4).trans i5).trans i6) (.bl true)⟩))))))))).to rfl) fun J5 s5 => ?_
        have s35 := s4.trans s5
        have g35 := hid_mono (M := [b]) s35
        have L5' := L3'.mono s35
        have hB5 := hB3'.up s35 (Nat.le_refl _)
        -- drawn moments
        refine rb_ifR (rt_notR (rt_valR (re_call GD hr4 FD.g FD.F.kp FD.b (ra_cons (XV.go (xv_name 2 rfl) fun I0 i0 => ra_cons (XD.go (M := [b]) (xd_name 3 rfl (hv3.up (g35.trans (hid_mono i0)))) fun x1 I1 i1 h1 => ra_cons (XD.go (M := [b]) (xd_name 6 rfl (hl3.up (g35.trans (hid_mono (i0.trans i1))))) fun x2 I2 i2 h2 => ra_1 (XD.go (M := [b]) (xd_name 13 rfl (kt3.up (g35.trans (hid_mono ((i0.trans i1).trans i2))))) fun x3 I3 i3 h3 =>
          ⟨[], b, _, x1, x2, x3, k, es, joinL (srtP (strAll k es)), rfl, Live.nil, hB5.up (((i0.trans i1).trans i2).trans i3) (Nat.le_refl _), by omega, h1.up (hid_mono (i2.trans i3)), h2.up (hid_mono i3), h3, fw', by omega, told_ok fw', hbd', fun J6 sB6 hB6 => ⟨true, rfl, ?_⟩⟩))))))))
        rw [if_neg (by decide)]
        have i03 := ((i0.trans i1).trans i2).trans i3
        have sB36 : SameB b J3 J6 := (SameB.of (s35.trans i03)).trans sB6
        have g36 : Same (hid [b] J3) (hid [b] J6) := sB36.hid (List.mem_singleton.mpr rfl)
        have L6' : Live [b] J6 := fun y hy => by rw [List.mem_singleton.mp hy]; exact hB6.some
        have nptb : pt ≠ b := fun e => L1.mono s2 b (List.mem_singleton.mpr rfl) (e ▸ hpt)
        refine rb_nil (rb_ifF (show XT _ _ _ _ false from ?zs) fun J7 s7 => ?_)
        case zs =>
          have kz6 := kz3.up g36
          have kt6 := kt3.up g36
          cases ez : (fitL k es []).isEmpty with
          | true =>
            have e0 : fitL k es [] = [] := List.isEmpty_iff.mp ez
            rw [told_none fw' ez] at kt6
            rw [e0] at kz6
            exact XT.to (xt_and2 (k1 := PyData.eqv (.list (([] : List (Int × List Step)).map planD')) (.list [])) (k2 := !PyData.eqv (.list (([] : List (Int × Int)).map stepD)) (.list [])) (xt_eqD (M := [b]) hr.units (xd_name 8 rfl kz6) (xd_lst L6' xa_nil) shaped_nil shaped_nil) fun _ => xt_neD (M := [b]) hr.units (xd_name 13 rfl kt6) (xd_lst L6' xa_nil) shaped_nil shaped_nil) (by rw [show PyData.eqv (.list (([] : List (Int × Int)).map stepD)) (.list []) = true from by rw [eqv_list_nil]; rfl]; exact Bool.and_false _)
          | false =>
            exact XT.to (xt_and2 (k1 := false) (k2 := false) (XT.to (xt_eqD (M := [b]) hr.units (xd_name 8 rfl kz6) (xd_lst L6' xa_nil) (shaped_plans _) shaped_nil) (by rw [eqv_list_nil]; cases hz : fitL k es [] with | nil => rw [hz] at ez; cases ez | cons _ _ => rfl)) fun z => Bool.noConfusion z) rfl
        refine rb_appendE (xv_name 13 rfl) (s7 _ _ (sB36 _ _ nptb hpt3)) (by rw [dpa_len hxt, List.length_map]; omega) fun J8 s8 => XV.go xv_str fun J9 s9 => ⟨s9 _ _ (s8 _ _ (s7 _ _ (sB36 _ _ nptb hpt3))), ?_⟩
        have s69 := (s7.trans s8).trans s9
        have hJpt : J pt = none := (s1.trans s2).free hpt
        have sBJ9 : SameB b J (upd J9 pt (.lst (xt ++ [.str "late1"]))) := fun x o nx e => by
          rw [upd_ne (ne_of_none e hJpt)]
          exact s69 _ _ (sB36 x o nx ((s1.trans s13) x o e))
        have hB9 : BagAt (upd J9 pt (.lst (xt ++ [.str "late1"]))) b (1000 + 5000 * (q + 1)) := by
          obtain ⟨g, m, c, e1, e2, e3, e4, e5⟩ := hB6
          exact ⟨g, m, c, by rw [upd_ne (Ne.symm nptb)]; exact s69 _ _ e1, e2, e3, e4, by omega⟩
        have hpf : ∀ y xs, vf = .ref y → J1 y = none → J2 y = some (.lst xs) → y ≠ pt ∧ y ≠ b ∧ upd J9 pt (.lst (xt ++ [.str "late1"])) y = some (.lst xs) ∧ J y = none := fun y xs _ hy h2 => by
          have n1 : y ≠ pt := fun e => by rw [e, hpt] at h2; cases h2
          have n2 : y ≠ b := fun e => by rw [e] at hy; exact L1 b (List.mem_singleton.mpr rfl) hy
          exact ⟨n1, n2, by rw [upd_ne n1]; exact s69 _ _ (sB36 y _ n2 (s3 _ _ h2)), s1.free hy⟩
        generalize upd J9 pt (.lst (xt ++ [.str "late1"])) = Jx at sBJ9 hB9 hpf
        by_cases zn : vf = .non
        · refine rb_ifF (XT.to (xt_notNone (M := []) ((xv_name 12 rfl).dd (d := .none) (by rw [zn]; exact .non))) rfl) fun J10 s10 => rb_nil ⟨(sJ.trans sBJ9).trans (.of s10), hB9.up s10 (Nat.le_refl _), _, _, _, rfl⟩
        · obtain ⟨yf, xf, rfl, hy1, hy2, hyl⟩ := hfl zn
          obtain ⟨n1, n2, hyx, hyJ⟩ := hpf yf xf rfl hy1 hy2
          have hxlen : xf.length ≤ 10 := by
            rw [hyl]
            unfold betwP
            rw [List.length_map, List.length_range]
            omega
          refine rb_ifT (xt_notNoneR (xv_name 12 rfl) (fun z => by cases z)) fun J10 s10 => ?_
          refine rb_appendE (xv_name 12 rfl) (s10 _ _ hyx) (by omega) fun J11 s11 => XV.go xv_str fun J12 s12 => ⟨s12 _ _ (s11 _ _ (s10 _ _ hyx)), rb_nil (rb_nil ?_)⟩
          have sx := (s10.trans s11).trans s12
          refine ⟨sJ.trans fun x o nx e => ?_, ?_, _, _, _, rfl⟩
          · rw [upd_ne (ne_of_none e hyJ)]
            exact sx _ _ (sBJ9 x o nx e)
          · obtain ⟨g, m, c, e1, e2, e3, e4, e5⟩ := hB9
            exact ⟨g, m, c, by rw [upd_ne (Ne.symm n2)]; exact sx _ _ e1, e2, e3, e4, e5⟩
      · obtain ⟨sJ, hBJ, w11, w12, w13, rfl⟩ := w
        refine rb_ifR (rt_notR (rt_valR (re_call GX hr7 FX.g FX.F.kp FX.b (ra_1 (XV.go (xv_name 2 rfl) fun I0 i0 => ⟨b, _, rfl, hBJ.up i0 (Nat.le_refl _), by omega, fun I1 sB1 hB1 => ⟨true, rfl, ?_⟩⟩)))))
        rw [if_neg (by decide)]
        exact rb_nil (rb_nil ⟨sH0.trans fun x o e => sB1 x o (ne_of_none e hb0) (i0 _ _ (sJ x o (ne_of_none e hb0) (s0d x o e))), _, _, _, _, _, _, _, _, _, _, _, _, _, rfl⟩)
    · obtain ⟨sH0, u1, u2, u3, u4, u5, u6, u7, u8, u9, u10, u11, u12, u13, rfl⟩ := w
      exact rb_ret (M := []) xd_bl fun v H1 s1 hv => by
        rw [dp_bl hv]
        exact q H1 (sH0.trans s1)
end
end Zn

set_option Elab.async false
set_option linter.all false
set_option maxRecDepth 100000
set_option maxHeartbeats 8000000
namespace Zn
open PySem PySem.Spec PyProof.Rows L2 Dl
/-! ### the law called behind the top -/
section
variable {P : Program} {w : World} {K : PySem.W.Frag} {mg mb : Str → Option Value} {fa a : Addr} {fd : FuncData} {t : Shared} {us : List Value} {ns : List Int}
/-- from a heap H that tells of the script at most -/
theorem head_from {H : Hp} (KX : K.In t.heap) (hg : t.heap.Ns mainGlobals mg) (hb : t.heap.Ns builtinsNs mb) (hbb : ∀ x : Str, x ≠ "__name__" → mb x = bootBuiltins x) (hlim : t.heap.NoLimit) (gens : t.gens = #[])
    (hobj : t.heap.get? a = some { cls := .type "list", data := .seq us.toArray })
    (F : ∀ base : Heap, K.In base → base.Ns mainGlobals mg → FnG P w K mg base 10 fa fd ["_law_script"] (spLaw K)) (hbd : ∀ (s : Shared) (u : Value), BindsTo s fd ⟨[u], []⟩ [("_law_script", u)])
    (only : Only H) (hS : SqL K H a (ns.map V.int)) (hok : HOk P w H t.heap) (at1 : ∀ b, H b ≠ none → b = a) (nk : H a ≠ none → K.lookup a = none) :
    codeAny (model P w) callerA (.call (.ref fa) ⟨[.ref a], []⟩) (fun r s => r = .ok (.ret (.bool true)) ∧ OldK t.heap s.heap ∧ s.os = t.os ∧ AllBare s.gens) t := by
  have kept : ∀ {b : Addr} {o : Obj}, t.heap.get? b = some o → H b = none → (hidT t.heap H).get? b = some o := fun p q => hidT_get p q
  have free : ∀ {b : Addr} {o : Obj}, t.heap.get? b = some o → (b = a → False) → H b = none := fun {b o} _ nb => Classical.byContradiction fun z => nb (at1 b z)
  have spaces : ∀ {b : Addr} {m : Str → Option Value}, t.heap.Ns b m → (hidT t.heap H).Ns b m := fun {b m} z => by
    obtain ⟨o, es, ep, p, q, r⟩ := z
    refine ⟨o, es, ep, kept p (free p fun e => ?_), q, r⟩
    rw [e, hobj] at p
    injection p with p
    rw [← p] at q
    injection q
  have kin : K.In (hidT t.heap H) := fun b o e => kept (KX b o e) (Classical.byContradiction fun z => by
    have eb := at1 b z
    rw [eb] at z e
    rw [nk z] at e
    cases e)
  obtain ⟨mc, hl1, hl2⟩ := hlim
  have md : Mod K mg (hidT t.heap H) := ⟨kin, spaces hg, ⟨mb, spaces hb, hbb⟩, mc, spaces hl1, hl2⟩
  have env : Env0 P w K mg (hidT t.heap H) callerA [] t H := { frames := rfl, mod := md, bs := fun b o e => of_hidT e, bsz := Nat.le_of_eq (hidT_size _ _), funs := trivial, frf := fun b z => absurd z List.not_mem_nil, hok := hok, bare := .of_eq gens }
  have run := (F _ kin (spaces hg)).run callerA rfl ⟨rfl, by decide, by decide⟩ [] t H ⟨[.ref a], []⟩ [.ref a] [.ref a] (fun v _ => v = .bl true) (fun _ _ _ => False) env (hbd t (.ref a)) (.cons rfl .nil) ⟨a, ns, rfl, hS, fun _ _ => rfl⟩
  refine codeAny_mono run fun r s z => ?_
  match r, z with
  | .error e, z => exact z.elim
  | .ok .next, z => exact z.elim
  | .ok .brk, z => exact z.elim
  | .ok .cont, z => exact z.elim
  | .ok (.ret u), z =>
    obtain ⟨v, H2, os, bare, un, hok2, rv, ev⟩ := z
    have ev' : v = .bl true := ev
    rw [ev'] at rv
    have eu : u = Value.bool true := rv
    rw [eu]
    refine ⟨rfl, OldK.of_keep fun b o e => ?_, os, bare⟩
    rcases only b with n | ⟨ob, xs, fz⟩
    · exact un.keep b o e n (fun q => absurd (show b ∈ ([] : List Addr) from q) List.not_mem_nil) (by simp)
    · have p1 := (hok b _ fz).1
      have p2 := (hok2 b _ (un.frzs b ob _ fz)).1
      rw [e] at p1
      injection p1 with p1
      rw [p1]
      exact p2
/-- the law, called with a script -/
theorem head_g (KX : K.In t.heap) (hg : t.heap.Ns mainGlobals mg) (hb : t.heap.Ns builtinsNs mb) (hbb : ∀ x : Str, x ≠ "__name__" → mb x = bootBuiltins x) (hlim : t.heap.NoLimit) (gens : t.gens = #[])
    (hobj : t.heap.get? a = some { cls := .type "list", data := .seq us.toArray }) (hi : IntsAre us ns) (hl : ns.length ≤ sizeLine)
    (F : ∀ base : Heap, K.In base → base.Ns mainGlobals mg → FnG P w K mg base 10 fa fd ["_law_script"] (spLaw K)) (hbd : ∀ (s : Shared) (u : Value), BindsTo s fd ⟨[u], []⟩ [("_law_script", u)]) :
    codeAny (model P w) callerA (.call (.ref fa) ⟨[.ref a], []⟩) (fun r s => r = .ok (.ret (.bool true)) ∧ OldK t.heap s.heap ∧ s.os = t.os ∧ AllBare s.gens) t := by
  have vi := vals_ints hi
  have el := hi.length
  rcases lk : K.lookup a with _ | o
  · have e1 : ∀ b, b ≠ a → (if b = a then some (HO.frz { cls := .type "list", data := .seq us.toArray } (.lst (ns.map V.int))) else none) = none := fun b n => if_neg n
    refine head_from (H := fun b => if b = a then some (.frz { cls := .type "list", data := .seq us.toArray } (.lst (ns.map V.int))) else none) (ns := ns) KX hg hb hbb hlim gens hobj F hbd (fun b => ?_) (.inl (.inr ⟨_, if_pos rfl⟩)) (fun b u z => ?_) (fun b z => Classical.byContradiction fun n => z (e1 b n)) fun _ => lk
    · exact (Classical.em (b = a)).elim (fun z => .inr ⟨_, _, if_pos z⟩) fun z => .inl (e1 b z)
    · rcases Classical.em (b = a) with e | e
      · rw [e] at z ⊢
        have z' := (if_pos rfl).symm.trans z
        injection z' with z'
        rw [← z']
        exact ⟨hobj, by rw [List.length_map]; exact hl, us, _, vi, hobj⟩
      · exact absurd ((e1 b e).symm.trans z) (fun q => nomatch q)
  · have e := KX a o lk
    rw [hobj] at e
    injection e with e
    rw [← e] at lk
    exact head_from (H := fun _ => none) (ns := ns) KX hg hb hbb hlim gens hobj F hbd (fun _ => .inl rfl) (.inr ⟨_, us.toArray, _, lk, rfl, rfl, rfl, by rw [List.size_toArray, el]; exact hl, by simpa using vi⟩) (fun _ _ z => nomatch z) (fun _ z => absurd rfl z) (fun z => absurd rfl z)
end
theorem walk_g {l : PySem.W.OpenLaw} {q : Program} {loose : List Str} {XP : (Str → Option Value) → Heap → Prop} {YP : World → Heap → Prop} {d : DefRec} {K : Params → PySem.W.Frag} (hn : l.most = some 63) (hdf : d.params.defaults = [])
    (hY : ∀ (w : World) (h : Heap), YP w h → (K w.params).In h)
    (F : ∀ (w : World) (mg : Str → Option Value) (fa : Addr) (h : Heap), (K w.params).In h → h.Ns mainGlobals mg → mg d.name = some (.ref fa) →
      ∃ fd : FuncData, (∀ (s : Shared) (u : Value), BindsTo s fd ⟨[u], []⟩ [("_law_script", u)]) ∧ ∀ base : Heap, (K w.params).In base → base.Ns mainGlobals mg → FnG l.prog w (K w.params) mg base 10 fa fd ["_law_script"] (spLaw (K w.params))) :
    PySem.W.WalkO q loose XP YP l.row.toRowW d [] (fun f vs => PySem.call f vs) :=
  Att.attach_call hn hdf fun w _ s1 mg _ fa _ _ _ _ a us ns G Y _ _ _ hm hobj hi hl hg => by
    have KX := hY w _ Y
    obtain ⟨fd, hb, hF⟩ := F w mg fa _ KX G.T.g hm
    exact head_g KX G.T.g G.T.b G.T.builtins G.T.nolimit hg hobj hi (Nat.le_trans hl (by decide)) hF hb
end Zn

set_option Elab.async false
set_option linter.all false
set_option maxRecDepth 100000
set_option maxHeartbeats 8000000
namespace Zn
open PySem PySem.Spec PyProof.Rows L2 Dl
/-! ### what the start has written, put together -/
def DfE (K : PySem.W.Frag) (mg : Str → Option Value) (x : Str) (st : Stmt) (ps : List Str) : Prop := ∃ f fd, Df K mg x st ps f fd
theorem df_mk {K : PySem.W.Frag} {h : Heap} {mg : Str → Option Value} {x : Str} {st : Stmt} {ps : List Str} {f : Addr} {od an : Option Addr} {osl : Array (Option Value)} {oc kV dc pm cd ct : Value} (X : K.In h) (G : h.Ns mainGlobals mg)
    (a : PySem.W.nsIn K mainGlobals x = some (some (.ref f))) (l : K.lookup f = some ⟨oc, od, .func (PySem.W.fnOf x x (defArgs st) (defBody st) (defScope st) .none kV dc pm an cd ct), osl⟩) (c : PySem.W.codeIn K cd x = true) (k : PySem.W.keepIn K (.ref f) = true)
    (hb : ∀ (us : List Value), us.length = ps.length → bindArgs (PySem.W.fnOf x x (defArgs st) (defBody st) (defScope st) .none kV dc pm an cd ct) ⟨us, []⟩ = pure (ps.zip us)) : DfE K mg x st ps :=
  ⟨f, _, fun_mk l c k, PySem.W.mg_of X G a, .all hb⟩
def MtE (K : PySem.W.Frag) (C : Addr) (x q : Str) (st : Stmt) (ps : List Str) : Prop := ∃ f fd, Mt K C x q st ps f fd
theorem mt_mk {K : PySem.W.Frag} {C : Addr} {x q : Str} {st : Stmt} {ps : List Str} {f : Addr} {od an : Option Addr} {osl : Array (Option Value)} {oc kV dc pm cd ct : Value}
    (a : PySem.W.findIn K (.ref C) x = some (some (.ref f))) (i : PySem.W.isFn K (.ref f) = true) (l : K.lookup f = some ⟨oc, od, .func (PySem.W.fnOf x q (defArgs st) (defBody st) (defScope st) .none kV dc pm an cd ct), osl⟩) (c : PySem.W.codeIn K cd q = true) (k : PySem.W.keepIn K (.ref f) = true)
    (hb : ∀ (us : List Value), us.length = ps.length → bindArgs (PySem.W.fnOf x q (defArgs st) (defBody st) (defScope st) .none kV dc pm an cd ct) ⟨us, []⟩ = pure (ps.zip us)) : MtE K C x q st ps :=
  ⟨f, _, fun_mk l c k, .all hb, a, i, k⟩
/-- a property -/
def PrE (K : PySem.W.Frag) (C : Addr) (x q : Str) (st : Stmt) : Prop := ∃ pp f fd, PropOf K C x pp f ∧ Fun K x q st f fd ∧ Binds K fd ["self"] []
theorem prE_mk {K : PySem.W.Frag} {C pp f : Addr} {x q : Str} {st : Stmt} {od an : Option Addr} {osl : Array (Option Value)} {oc kV dc pm cd ct : Value} {rest : List Value} (a : PySem.W.findIn K (.ref C) x = some (some (.ref pp))) (b : PySem.W.specialIn K (.ref pp) "__get__" = some (some (.builtin "property.__get__"))) (t : PySem.W.takesIn K (.ref pp) = some true)
    (r : PySem.W.recIn K pp "property" = some (.ref f :: rest)) (l : K.lookup f = some ⟨oc, od, .func (PySem.W.fnOf x q (defArgs st) (defBody st) (defScope st) .none kV dc pm an cd ct), osl⟩) (c : PySem.W.codeIn K cd q = true) (k : PySem.W.keepIn K (.ref f) = true)
    (hb : ∀ (us : List Value), us.length = 1 → bindArgs (PySem.W.fnOf x q (defArgs st) (defBody st) (defScope st) .none kV dc pm an cd ct) ⟨us, []⟩ = pure ([("self" : Str)].zip us)) : PrE K C x q st :=
  ⟨pp, f, _, ⟨a, b, t, rest, r⟩, fun_mk l c k, .all hb⟩
structure KC (K : PySem.W.Frag) (C : Addr) : Prop where
  aC : PySem.W.nsIn K mainGlobals "Kind" = some (some (.ref C))
  pg : PySem.W.plainGet K C Str.empty = true
  hd : PySem.W.hasDictIn K C = true
  po : PySem.W.plainOver K C = true
  sa : PySem.W.findIn K (.ref C) "__setattr__" = some (some (.builtin "object.__setattr__"))
  ha : PySem.W.findIn K (.ref C) "__class__" = some (some (.builtin "object.__class__"))
  hm : PySem.W.mroIn K C (.type "object") = some true
  bq : (Value.ref C == Value.ref C) = true
  mks : PySem.W.makesIn K C = true
  kc : PySem.W.keepIn K (.ref C) = true
  nS : PySem.W.findIn K (.ref C) "sizes" = some none
  nD : PySem.W.findIn K (.ref C) "distance" = some none
  nM : PySem.W.findIn K (.ref C) "many" = some none
  pj : PrE K C "jumps" "Kind.jumps" sKJumps
  pa : PrE K C "apart" "Kind.apart" sKApart
  pm : PrE K C "most" "Kind.most" sKMost
structure PC (K : PySem.W.Frag) (C : Addr) : Prop where
  aC : PySem.W.nsIn K mainGlobals "Plan" = some (some (.ref C))
  pg : PySem.W.plainGet K C Str.empty = true
  hd : PySem.W.hasDictIn K C = true
  po : PySem.W.plainOver K C = true
  sa : PySem.W.findIn K (.ref C) "__setattr__" = some (some (.builtin "object.__setattr__"))
  mks : PySem.W.makesIn K C = true
  kc : PySem.W.keepIn K (.ref C) = true
  nB : PySem.W.findIn K (.ref C) "base" = some none
  nS : PySem.W.findIn K (.ref C) "slots" = some none
  nH : PySem.W.findIn K (.ref C) "hops" = some none
  nE : PySem.W.findIn K (.ref C) "earliest" = some none
/-- what all classes share -/
structure ObF (K : PySem.W.Frag) : Prop where
  hn : PySem.W.specialIn K (.builtin "object.__class__") "__get__" = some (some (.builtin "getset_descriptor.__get__"))
  htk : PySem.W.takesIn K (.builtin "object.__class__") = some true
/-- the maker of kinds -/
structure KnF (K : PySem.W.Frag) (C : Addr) : Prop where
  ex : ∃ (f dt : Addr) (t : Tok) (od an : Option Addr) (osl : Array (Option Value)) (oc kV dc pm cd ct : Value) (o : Obj) (n : Nat), PySem.W.findIn K (.ref C) "__init__" = some (some (.ref f)) ∧ PySem.W.isFn K (.ref f) = true ∧
    K.lookup f = some ⟨oc, od, .func (PySem.W.fnOf "__init__" "Kind.__init__" (defArgs sKInit) (defBody sKInit) (defScope sKInit) (.ref dt) kV dc pm an cd ct), osl⟩ ∧ PySem.W.codeIn K cd "Kind.__init__" = true ∧ K.lookup dt = some o ∧ o.data = .seq #[.int 2 t] n
theorem kn_mk {K : PySem.W.Frag} {C f dt : Addr} {t : Tok} {od an : Option Addr} {osl : Array (Option Value)} {oc kV dc pm cd ct : Value} {o : Obj} {n : Nat} (a : PySem.W.findIn K (.ref C) "__init__" = some (some (.ref f))) (i : PySem.W.isFn K (.ref f) = true)
    (l : K.lookup f = some ⟨oc, od, .func (PySem.W.fnOf "__init__" "Kind.__init__" (defArgs sKInit) (defBody sKInit) (defScope sKInit) (.ref dt) kV dc pm an cd ct), osl⟩) (c : PySem.W.codeIn K cd "Kind.__init__" = true) (d : K.lookup dt = some o) (dd : o.data = .seq #[.int 2 t] n) : KnF K C :=
  ⟨⟨f, dt, t, od, an, osl, oc, kV, dc, pm, cd, ct, o, n, a, i, l, c, d, dd⟩⟩
theorem binds_kinit {K : PySem.W.Frag} {dt : Addr} {t : Tok} {an : Option Addr} {kV dc pm cd ct : Value} {o : Obj} {n : Nat} (ld : K.lookup dt = some o) (dd : o.data = .seq #[.int 2 t] n) :
    Binds K (PySem.W.fnOf "__init__" "Kind.__init__" (defArgs sKInit) (defBody sKInit) (defScope sKInit) (.ref dt) kV dc pm an cd ct) ["self", "jumps", "apart", "most"] [] ∧ Binds K (PySem.W.fnOf "__init__" "Kind.__init__" (defArgs sKInit) (defBody sKInit) (defScope sKInit) (.ref dt) kV dc pm an cd ct) ["self", "jumps", "apart", "most"] [.int 2 t] :=
  ⟨fun s us X hl => by
    rw [List.append_nil] at hl ⊢
    match us, hl with
    | [_, _, _, _], _ => exact PySem.W.binds_K X rfl ld dd rfl rfl, fun s us X hl => by
    rw [List.length_append] at hl
    have h2 : us.length = 3 := by simpa using hl
    match us, h2 with
    | [_, _, _], _ => exact PySem.W.binds_K X rfl ld dd rfl rfl⟩
def GlI (K : PySem.W.Frag) (x : Str) (n : Int) : Prop := ∃ t, PySem.W.nsIn K mainGlobals x = some (some (.int n t))
theorem gi_mk {K : PySem.W.Frag} {x : Str} {n : Int} {t : Tok} (h : PySem.W.nsIn K mainGlobals x = some (some (.int n t))) : GlI K x n := ⟨t, h⟩
/-- the maker of plans -/
structure PlF (K : PySem.W.Frag) (C : Addr) : Prop where
  ex : ∃ (f : Addr) (od an : Option Addr) (osl : Array (Option Value)) (oc kV dc pm cd ct : Value), PySem.W.findIn K (.ref C) "__init__" = some (some (.ref f)) ∧ PySem.W.isFn K (.ref f) = true ∧
    K.lookup f = some ⟨oc, od, .func (PySem.W.fnOf "__init__" "Plan.__init__" (defArgs sPInit) (defBody sPInit) (defScope sPInit) .none kV dc pm an cd ct), osl⟩ ∧ PySem.W.codeIn K cd "Plan.__init__" = true
theorem pl_mk {K : PySem.W.Frag} {C f : Addr} {od an : Option Addr} {osl : Array (Option Value)} {oc kV dc pm cd ct : Value} (a : PySem.W.findIn K (.ref C) "__init__" = some (some (.ref f))) (i : PySem.W.isFn K (.ref f) = true)
    (l : K.lookup f = some ⟨oc, od, .func (PySem.W.fnOf "__init__" "Plan.__init__" (defArgs sPInit) (defBody sPInit) (defScope sPInit) .none kV dc pm an cd ct), osl⟩) (c : PySem.W.codeIn K cd "Plan.__init__" = true) : PlF K C :=
  ⟨⟨f, od, an, osl, oc, kV, dc, pm, cd, ct, a, i, l, c⟩⟩
theorem binds_pinit {K : PySem.W.Frag} {an : Option Addr} {kV dc pm cd ct : Value} : Binds K (PySem.W.fnOf "__init__" "Plan.__init__" (defArgs sPInit) (defBody sPInit) (defScope sPInit) .none kV dc pm an cd ct) pinN [] :=
  .all fun us hl => match us, hl with | [_, _, _, _, _], _ => rfl
structure Gls (K : PySem.W.Frag) : Prop where
  g1 : GlI K "GREATEST_JUMP" 720
  g2 : GlI K "MOST_JUMPS" 4
  g3 : GlI K "MOST_CHANGES" 3
  g4 : GlI K "MOST_ENTRIES" 12
theorem kit_self {K : PySem.W.Frag} {C : Addr} (h : (Value.ref C == Value.ref C) = true) : PySem.W.kitOne K (.ref C) (.ref C) = some true := by
  unfold PySem.W.kitOne
  exact if_pos h
theorem kit_list {K : PySem.W.Frag} {C : Addr} {co} (h : (Value.type "list" == Value.ref C) = false) (c : PySem.W.clsIn K C = some co) (t : PySem.W.typeIn K (.ref C) = some (.type "type")) (s : PySem.W.subIn K (.type "list") (.ref C) = some false) : PySem.W.kitOne K (.type "list") (.ref C) = some false := by
  unfold PySem.W.kitOne
  rw [if_neg (by rw [h]; decide)]
  unfold PySem.W.kitCls
  show (if ((PySem.W.clsIn K C).isSome && PySem.W.typeIn K (.ref C) == some (.type "type")) = true then PySem.W.subIn K (.type "list") (.ref C) else none) = some false
  rw [c, t, if_pos (by rfl), s]
structure NoB (K : PySem.W.Frag) : Prop where
  isi : PySem.W.nsIn K mainGlobals "isinstance" = some none
  int : PySem.W.nsIn K mainGlobals "int" = some none
  bool : PySem.W.nsIn K mainGlobals "bool" = some none
  lst : PySem.W.nsIn K mainGlobals "list" = some none
  tup : PySem.W.nsIn K mainGlobals "tuple" = some none
  len : PySem.W.nsIn K mainGlobals "len" = some none
  abs : PySem.W.nsIn K mainGlobals "abs" = some none
  min : PySem.W.nsIn K mainGlobals "min" = some none
  max : PySem.W.nsIn K mainGlobals "max" = some none
  rep : PySem.W.nsIn K mainGlobals "repr" = some none
  rng : PySem.W.nsIn K mainGlobals "range" = some none
  srt : PySem.W.nsIn K mainGlobals "sorted" = some none
  enu : PySem.W.nsIn K mainGlobals "enumerate" = some none
  zip : PySem.W.nsIn K mainGlobals "zip" = some none
  set : PySem.W.nsIn K mainGlobals "set" = some none
  sum : PySem.W.nsIn K mainGlobals "sum" = some none
  rev : PySem.W.nsIn K mainGlobals "reversed" = some none
structure DfA (K : PySem.W.Frag) (mg : Str → Option Value) : Prop where
  d0 : DfE K mg "is_whole" sWhole ["value"]
  d1 : DfE K mg "is_whole_pair" sPair ["value"]
  d2 : DfE K mg "is_integer" sIsInt ["value", "low", "high"]
  d3 : DfE K mg "is_jump" sIsJump ["value"]
  d4 : DfE K mg "checked_jumps" sChk ["jumps"]
  d5 : DfE K mg "need_kind" sNeedK ["value"]
  d6 : DfE K mg "plans_for" sPFor ["kind", "points"]
  d7 : DfE K mg "plans_over" sPOver ["kind", "plan", "points", "slot"]
  d8 : DfE K mg "plans_with_change" sPWith ["kind", "plan", "points", "slot"]
  d9 : DfE K mg "plans_upto" sPUpto ["plan", "offset"]
  d10 : DfE K mg "points_of" sPtsOf ["log"]
  d11 : DfE K mg "need_log" sNeedL ["value"]
  d12 : DfE K mg "stretches_in" sStrIn ["kind", "plan", "points"]
  d13 : DfE K mg "joined" sJoined ["stretches"]
  d14 : DfE K mg "changes_between" sBetw ["kind", "log"]
  d15 : DfE K mg "change_stretches" sChStr ["kind", "log"]
  d16 : DfE K mg "_law_cell" sCell ["_law_script", "_law_index"]
  d17 : DfE K mg "_law_bag" sBag ["_law_cell_here"]
  d18 : DfE K mg "_law_take" sTake ["_law_bag_here", "_law_many"]
  d19 : DfE K mg "_law_kind" sLKind ["_law_bag_here"]
  d20 : DfE K mg "_law_steps" sLSteps ["_law_bag_here", "_law_kind_here", "_law_moment"]
  d21 : DfE K mg "_law_read" sLRead ["_law_plan", "_law_moment"]
  d22 : DfE K mg "_law_log" sLLog ["_law_bag_here", "_law_plan", "_law_many"]
  d23 : DfE K mg "_law_rows" sLRows ["_law_kind_here", "_law_many"]
  d24 : DfE K mg "_law_anchors" sLAnch ["_law_kind_here", "_law_moments"]
  d25 : DfE K mg "_law_placed" sLPlaced ["_law_kind_here", "_law_many", "_law_anchors_here"]
  d26 : DfE K mg "_law_fitting" sLFit ["_law_kind_here", "_law_log_here", "_law_more"]
  d27 : DfE K mg "_law_between" sLBetw ["_law_zones", "_law_log_here"]
  d28 : DfE K mg "_law_can_change" sLCan ["_law_plain", "_law_log_here", "_law_moment"]
  d29 : DfE K mg "_law_drawn_right" sLDrawn ["_law_bag_here", "_law_plain", "_law_log_here", "_law_told"]
  d30 : DfE K mg "_law_stretches_right" sLStr ["_law_plain", "_law_plan", "_law_log_here", "_law_told", "_law_fits_it"]
  d31 : DfE K mg "_law_far_right" sLFar ["_law_bag_here"]
  d32 : DfE K mg "law" sLaw ["_law_script"]
theorem al_of {P : Program} {w : World} {K : PySem.W.Frag} {h : Heap} {mg : Str → Option Value} {base : Heap} {CK CP : Addr} (X : K.In h) (G : h.Ns mainGlobals mg) (hGl : Gls K) (B : NoB K) (D : DfA K mg) (O : ObF K) (R : KC K CK) (S : PC K CP) (N : KnF K CK) (V : PlF K CP) : Al P w K mg base CK := by
  have T : Nm mg := ⟨PySem.W.mg_none_of X G B.isi, PySem.W.mg_none_of X G B.int, PySem.W.mg_none_of X G B.bool, PySem.W.mg_none_of X G B.lst, PySem.W.mg_none_of X G B.tup, PySem.W.mg_none_of X G B.len, PySem.W.mg_none_of X G B.abs, PySem.W.mg_none_of X G B.min, PySem.W.mg_none_of X G B.max, PySem.W.mg_none_of X G B.rep, PySem.W.mg_none_of X G B.rng⟩
  have hsrt := PySem.W.mg_none_of X G B.srt
  have henu := PySem.W.mg_none_of X G B.enu
  have hzip := PySem.W.mg_none_of X G B.zip
  have hset := PySem.W.mg_none_of X G B.set
  have hsum := PySem.W.mg_none_of X G B.sum
  have hrev := PySem.W.mg_none_of X G B.rev
  have Y : KT K mg CK := ⟨⟨R.pg, R.hd, R.po, R.sa⟩, R.nS, R.nD, R.nM, PySem.W.mg_of X G R.aC⟩
  have PL : PT K mg CP := ⟨⟨S.pg, S.hd, S.po, S.sa⟩, S.nB, S.nS, S.nH, S.nE, PySem.W.mg_of X G S.aC⟩
  have IK : KI K CK := ⟨R.ha, O.hn, O.htk, R.hm, kit_self R.bq⟩
  obtain ⟨⟨tg, hg⟩, ⟨tg2, hg2⟩, ⟨tg3, hg3⟩, ⟨tg4, hg4⟩⟩ := hGl
  have hG : ∃ t, mg "GREATEST_JUMP" = some (.int 720 t) := ⟨tg, PySem.W.mg_of X G hg⟩
  have hG2 : ∃ t, mg "MOST_JUMPS" = some (.int 4 t) := ⟨tg2, PySem.W.mg_of X G hg2⟩
  have hG3 : ∃ t, mg "MOST_CHANGES" = some (.int 3 t) := ⟨tg3, PySem.W.mg_of X G hg3⟩
  have hE : ∃ t, mg "MOST_ENTRIES" = some (.int 12 t) := ⟨tg4, PySem.W.mg_of X G hg4⟩
  obtain ⟨f0, fd0, F0⟩ := D.d0
  obtain ⟨f1, fd1, F1⟩ := D.d1
  obtain ⟨f2, fd2, F2⟩ := D.d2
  obtain ⟨f3, fd3, F3⟩ := D.d3
  obtain ⟨f4, fd4, F4⟩ := D.d4
  obtain ⟨f5, fd5, F5⟩ := D.d5
  obtain ⟨f6, fd6, F6⟩ := D.d6
  obtain ⟨f7, fd7, F7⟩ := D.d7
  obtain ⟨f8, fd8, F8⟩ := D.d8
  obtain ⟨f9, fd9, F9⟩ := D.d9
  obtain ⟨f10, fd10, F10⟩ := D.d10
  obtain ⟨f11, fd11, F11⟩ := D.d11
  obtain ⟨f12, fd12, F12⟩ := D.d12
  obtain ⟨f13, fd13, F13⟩ := D.d13
  obtain ⟨f14, fd14, F14⟩ := D.d14
  obtain ⟨f15, fd15, F15⟩ := D.d15
  obtain ⟨f16, fd16, F16⟩ := D.d16
  obtain ⟨f17, fd17, F17⟩ := D.d17
  obtain ⟨f18, fd18, F18⟩ := D.d18
  obtain ⟨f19, fd19, F19⟩ := D.d19
  obtain ⟨f20, fd20, F20⟩ := D.d20
  obtain ⟨f21, fd21, F21⟩ := D.d21
  obtain ⟨f22, fd22, F22⟩ := D.d22
  obtain ⟨f23, fd23, F23⟩ := D.d23
  obtain ⟨f24, fd24, F24⟩ := D.d24
  obtain ⟨f25, fd25, F25⟩ := D.d25
  obtain ⟨f26, fd26, F26⟩ := D.d26
  obtain ⟨f27, fd27, F27⟩ := D.d27
  obtain ⟨f28, fd28, F28⟩ := D.d28
  obtain ⟨f29, fd29, F29⟩ := D.d29
  obtain ⟨f30, fd30, F30⟩ := D.d30
  obtain ⟨f31, fd31, F31⟩ := D.d31
  obtain ⟨pp1, p1, pd1, hp1, P1, PB1⟩ := R.pj
  obtain ⟨pp2, p2, pd2, hp2, P2, PB2⟩ := R.pa
  obtain ⟨pp3, p3, pd3, hp3, P3, PB3⟩ := R.pm
  obtain ⟨fk, dk, tk, odk, ank, oslk, ock, kVk, dck, pmk, cdk, ctk, ok, nk, j1, j2, j3, j4, j5, j6⟩ := N
  obtain ⟨fp, odp, anp, oslp, ocp, kVp, dcp, pmp, cdp, ctp, l1, l2, l3, l4⟩ := V
  have WK : KMk P w K mg base CK fk (PySem.W.fnOf "__init__" "Kind.__init__" (defArgs sKInit) (defBody sKInit) (defScope sKInit) (.ref dk) kVk dck pmk ank cdk ctk) :=
    ⟨Y, ⟨R.mks, j1, j2, R.kc⟩, ok_kinit (fd := fd0) T hsrt Y hG hG2 hG3 F0 F2 F3 F4 j3 j4, (binds_kinit j5 j6).1, ⟨tk, (binds_kinit j5 j6).2⟩⟩
  have WP : PMk P w K mg base CP fp (PySem.W.fnOf "__init__" "Plan.__init__" (defArgs sPInit) (defBody sPInit) (defScope sPInit) .none kVp dcp pmp anp cdp ctp) :=
    ⟨PL, ⟨S.mks, l1, l2, S.kc⟩, ok_pinit PL l3 l4, binds_pinit⟩
  have KJ : KPr P w K mg base CK "jumps" (fun k => .tuple ((isort k.js).map PyData.int)) pp1 p1 pd1 := ⟨hp1, ok_kjumps Y P1, PB1⟩
  have KA : KPr P w K mg base CK "apart" (fun k => .int k.ap) pp2 p2 pd2 := ⟨hp2, ok_kapart Y P2, PB2⟩
  have KM : KPr P w K mg base CK "most" (fun k => .int k.mo) pp3 p3 pd3 := ⟨hp3, ok_kmost Y P3, PB3⟩
  have GPR : FnOk P w K mg base CX0 2 f1 fd1 ["value"] (spR K RPair) := ok_pair T F0 F1
  have GNK : FnOk P w K mg base CX0 1 f5 fd5 ["value"] (spNeedK K CK) := ok_needK T Y IK F5
  have GNL : FnOk P w K mg base CX0 3 f11 fd11 ["value"] (spR K RNeedL) := ok_needL T henu hE GPR F1 F11
  have GPW : FnOk P w K mg base CX0 3 f8 fd8 ["kind", "plan", "points", "slot"] (spPWith K CK CP) := ok_pwith T Y WP KA KJ F8
  have GPO : FnOk P w K mg base CX0 4 f7 fd7 ["kind", "plan", "points", "slot"] (spPOver K CK CP) := ok_pover T Y WP KM GPW F8 F7
  have GPU : FnOk P w K mg base CX0 3 f9 fd9 ["plan", "offset"] (spPUpto K CP) := ok_pupto hsum WP F9
  have GPF : FnOk P w K mg base CX0 5 f6 fd6 ["kind", "points"] (spPFor K CK CP) := ok_pfor T WP GPO F7 GPU F9 F6
  have GPT : FnOk P w K mg base CX0 1 f10 fd10 ["log"] (spL K RPts) := ok_ptsOf F10
  have LRD : FnOk P w K mg base CX0 1 f21 fd21 ["_law_plan", "_law_moment"] (spR K RLRead) := ok_lread hsum F21
  have LLG : FnOk P w K mg base CX0 2 f22 fd22 ["_law_bag_here", "_law_plan", "_law_many"] (spLLog K) := ok_llog T hsrt hset F18 LRD F21 F22
  have LFT : FnOk P w K mg base CX0 2 f26 fd26 ["_law_kind_here", "_law_log_here", "_law_more"] (spL K RLFit) := ok_lfit T hzip hsum (ok_lanch T hsrt hset F24) F24 (ok_lrows T F23) F23 (ok_lplaced T F25) F25 LRD F21 F26
  have GSI : FnOk P w K mg base CX0 3 f12 fd12 ["kind", "plan", "points"] (spStrIn K CK CP) := ok_strIn T hzip hrev Y PL KA F12
  have GJN : FnOk P w K mg base CX0 1 f13 fd13 ["stretches"] (spL K RJoin) := ok_joined T hsrt F13
  have GCS : FnOk P w K mg base CX0 6 f15 fd15 ["kind", "log"] (spChStr K CK) := ok_chStr GNK F5 GNL F11 GPF F6 GPT F10 GSI F12 GJN F13 F15
  have GBT : FnOk P w K mg base CX0 6 f14 fd14 ["kind", "log"] (spBetw K CK) := ok_betw T PL GNK F5 GNL F11 GPF F6 GPT F10 F14
  have GTK : FnOk P w K mg base CX0 1 f18 fd18 ["_law_bag_here", "_law_many"] spTake := ok_take F18
  have LCN : FnOk P w K mg base CX0 3 f28 fd28 ["_law_plain", "_law_log_here", "_law_moment"] (spR K RLCan) := ok_lcan LFT F26 F28
  exact
  { T := T
    cell := ⟨_, _, F16, ok_cell T F16⟩
    bag := ⟨_, _, F17, ok_bag T F17⟩
    take := ⟨_, _, F18, ok_take F18⟩
    lkind := ⟨_, _, F19, ok_lkind T F18 F19⟩
    lsteps := ⟨_, _, F20, ok_lsteps T F18 F20⟩
    llog := ⟨_, _, F22, LLG⟩
    lfit := ⟨_, _, F26, LFT⟩
    lbetw := ⟨_, _, F27, ok_lbetw T hzip F27⟩
    lstr := ⟨_, _, F30, ok_lstr LCN F28 F30⟩
    ldrawn := ⟨_, _, F29, ok_ldrawn T GTK F18 LCN F28 F29⟩
    lfar := ⟨_, _, F31, ok_lfar WK GTK F18 GCS F15 GBT F14 F31⟩
    kmk := ⟨_, _, WK⟩
    betw := ⟨_, _, F14, GBT⟩
    chstr := ⟨_, _, F15, GCS⟩ }
theorem all_g {l : PySem.W.OpenLaw} {w : World} {K : PySem.W.Frag} {h : Heap} {mg : Str → Option Value} {fa CK CP : Addr} (X : K.In h) (G : h.Ns mainGlobals mg) (hfa : mg "law" = some (.ref fa)) (hGl : Gls K) (B : NoB K) (D : DfA K mg) (O : ObF K) (R : KC K CK) (S : PC K CP) (N : KnF K CK) (V : PlF K CP) :
    ∃ fd : FuncData, (∀ (s : Shared) (v : Value), BindsTo s fd ⟨[v], []⟩ [("_law_script", v)]) ∧ ∀ base : Heap, K.In base → base.Ns mainGlobals mg → FnG l.prog w K mg base 10 fa fd ["_law_script"] (spLaw K) := by
  obtain ⟨f, fd, F⟩ := D.d32
  have e := hfa.symm.trans F.g
  injection e with e
  injection e with e
  subst e
  obtain ⟨oc, od, kV, dc, pm, an, cdv, ct, osl, rfl, _⟩ := F.F.ex
  exact ⟨_, fun s v => .of_eq rfl, fun base _ _ => ok_law (al_of X G hGl B D O R S N V) F.F⟩
end Zn

set_option Elab.async false
open PySem PySem.W PyProof.Rows in
set_option maxRecDepth 100000 in
set_option maxHeartbeats 0 in
theorem PySem.Challenge.cw_everyzone_k36_changes_left_by_logs_holds : PySem.Challenge.rw_everyzone_k36_changes_left_by_logs.Holds := by
  w_on; o_law; k_head; (case hw => w_witness2)
  k_fill
  refine Zn.walk_g (l := PySem.Challenge.rw_everyzone_k36_changes_left_by_logs) rfl rfl (fun w h Y => PySem.W.kIn_of Y) ?F
  case F =>
    intro w mg fa h KX G hmg
    refine' Zn.all_g KX G hmg ⟨Zn.gi_mk ?gj, Zn.gi_mk ?gj2, Zn.gi_mk ?gj3, Zn.gi_mk ?gj4⟩ ?B ?D ⟨?ohn, ?ohtk⟩ ?R ?S ?knn ?pln
    case R =>
      refine' ⟨?aC, ?pg, ?hd, ?po, ?sa, ?ha, ?hm, ?bq, ?mks, ?kc, ?nS, ?nD, ?nM, ?pj, ?pa, ?pm⟩
      (case aC => k_is)
      (case pg => k_is)
      (case hd => k_is)
      (case po => k_is)
      (case sa => k_is)
      (case ha => k_is)
      (case hm => k_is)
      (case bq => rfl)
      (case mks => k_is)
      (case kc => k_is)
      (case nS => k_is)
      (case nD => k_is)
      (case nM => k_is)
      case pj =>
        refine' Zn.prE_mk ?a ?b ?t ?r ?l ?c ?k ?hb
        (case a => k_is)
        (case b => k_is)
        (case t => k_is)
        (case r => k_is)
        (case l => k_is)
        (case c => k_is)
        (case k => k_is)
        (case hb => exact fun us hl => match us, hl with | [_], _ => rfl)
      case pa =>
        refine' Zn.prE_mk ?a ?b ?t ?r ?l ?c ?k ?hb
        (case a => k_is)
        (case b => k_is)
        (case t => k_is)
        (case r => k_is)
        (case l => k_is)
        (case c => k_is)
        (case k => k_is)
        (case hb => exact fun us hl => match us, hl with | [_], _ => rfl)
      case pm =>
        refine' Zn.prE_mk ?a ?b ?t ?r ?l ?c ?k ?hb
        (case a => k_is)
        (case b => k_is)
        (case t => k_is)
        (case r => k_is)
        (case l => k_is)
        (case c => k_is)
        (case k => k_is)
        (case hb => exact fun us hl => match us, hl with | [_], _ => rfl)
    case S =>
      refine' ⟨?aC, ?pg, ?hd, ?po, ?sa, ?mks, ?kc, ?nB, ?nS, ?nH, ?nE⟩
      (case aC => k_is)
      (case pg => k_is)
      (case hd => k_is)
      (case po => k_is)
      (case sa => k_is)
      (case mks => k_is)
      (case kc => k_is)
      (case nB => k_is)
      (case nS => k_is)
      (case nH => k_is)
      (case nE => k_is)
    case knn =>
      refine' Zn.kn_mk ?a ?i ?l ?c ?d ?dd
      (case a => k_is)
      (case i => k_is)
      (case l => k_is)
      (case c => k_is)
      (case d => k_is)
      (case dd => rfl)
    case pln =>
      refine' Zn.pl_mk ?a ?i ?l ?c
      (case a => k_is)
      (case i => k_is)
      (case l => k_is)
      (case c => k_is)
    (case gj => k_is)
    (case gj2 => k_is)
    (case gj3 => k_is)
    (case gj4 => k_is)
    (case ohn => k_is)
    (case ohtk => k_is)
    case B =>
      refine' ⟨?n0, ?n1, ?n2, ?n3, ?n4, ?n5, ?n6, ?n7, ?n8, ?n9, ?n10, ?n11, ?n12, ?n13, ?n14, ?n15, ?n16⟩
      (case n0 => k_is)
      (case n1 => k_is)
      (case n2 => k_is)
      (case n3 => k_is)
      (case n4 => k_is)
      (case n5 => k_is)
      (case n6 => k_is)
      (case n7 => k_is)
      (case n8 => k_is)
      (case n9 => k_is)
      (case n10 => k_is)
      (case n11 => k_is)
      (case n12 => k_is)
      (case n13 => k_is)
      (case n14 => k_is)
      (case n15 => k_is)
      (case n16 => k_is)
    case D =>
      refine' ⟨?d0, ?d1, ?d2, ?d3, ?d4, ?d5, ?d6, ?d7, ?d8, ?d9, ?d10, ?d11, ?d12, ?d13, ?d14, ?d15, ?d16, ?d17, ?d18, ?d19, ?d20, ?d21, ?d22, ?d23, ?d24, ?d25, ?d26, ?d27, ?d28, ?d29, ?d30, ?d31, ?d32⟩
      case d0 =>
        refine' Zn.df_mk KX G ?a ?l ?c ?k ?b
        (case a => k_is)
        (case l => k_is)
        (case c => k_is)
        (case k => k_is)
        (case b => exact fun us hl => match us, hl with | [_], _ => rfl)
      case d1 =>
        refine' Zn.df_mk KX G ?a ?l ?c ?k ?b
        (case a => k_is)
        (case l => k_is)
        (case c => k_is)
        (case k => k_is)
        (case b => exact fun us hl => match us, hl with | [_], _ => rfl)
      case d2 =>
        refine' Zn.df_mk KX G ?a ?l ?c ?k ?b
        (case a => k_is)
        (case l => k_is)
        (case c => k_is)
        (case k => k_is)
        (case b => exact fun us hl => match us, hl with | [_, _, _], _ => rfl)
      case d3 =>
        refine' Zn.df_mk KX G ?a ?l ?c ?k ?b
        (case a => k_is)
        (case l => k_is)
        (case c => k_is)
        (case k => k_is)
        (case b => exact fun us hl => match us, hl with | [_], _ => rfl)
      case d4 =>
        refine' Zn.df_mk KX G ?a ?l ?c ?k ?b
        (case a => k_is)
        (case l => k_is)
        (case c => k_is)
        (case k => k_is)
        (case b => exact fun us hl => match us, hl with | [_], _ => rfl)
      case d5 =>
        refine' Zn.df_mk KX G ?a ?l ?c ?k ?b
        (case a => k_is)
        (case l => k_is)
        (case c => k_is)
        (case k => k_is)
        (case b => exact fun us hl => match us, hl with | [_], _ => rfl)
      case d6 =>
        refine' Zn.df_mk KX G ?a ?l ?c ?k ?b
        (case a => k_is)
        (case l => k_is)
        (case c => k_is)
        (case k => k_is)
        (case b => exact fun us hl => match us, hl with | [_, _], _ => rfl)
      case d7 =>
        refine' Zn.df_mk KX G ?a ?l ?c ?k ?b
        (case a => k_is)
        (case l => k_is)
        (case c => k_is)
        (case k => k_is)
        (case b => exact fun us hl => match us, hl with | [_, _, _, _], _ => rfl)
      case d8 =>
        refine' Zn.df_mk KX G ?a ?l ?c ?k ?b
        (case a => k_is)
        (case l => k_is)
        (case c => k_is)
        (case k => k_is)
        (case b => exact fun us hl => match us, hl with | [_, _, _, _], _ => rfl)
      case d9 =>
        refine' Zn.df_mk KX G ?a ?l ?c ?k ?b
        (case a => k_is)
        (case l => k_is)
        (case c => k_is)
        (case k => k_is)
        (case b => exact fun us hl => match us, hl with | [_, _], _ => rfl)
      case d10 =>
        refine' Zn.df_mk KX G ?a ?l ?c ?k ?b
        (case a => k_is)
        (case l => k_is)
        (case c => k_is)
        (case k => k_is)
        (case b => exact fun us hl => match us, hl with | [_], _ => rfl)
      case d11 =>
        refine' Zn.df_mk KX G ?a ?l ?c ?k ?b
        (case a => k_is)
        (case l => k_is)
        (case c => k_is)
        (case k => k_is)
        (case b => exact fun us hl => match us, hl with | [_], _ => rfl)
      case d12 =>
        refine' Zn.df_mk KX G ?a ?l ?c ?k ?b
        (case a => k_is)
        (case l => k_is)
        (case c => k_is)
        (case k => k_is)
        (case b => exact fun us hl => match us, hl with | [_, _, _], _ => rfl)
      case d13 =>
        refine' Zn.df_mk KX G ?a ?l ?c ?k ?b
        (case a => k_is)
        (case l => k_is)
        (case c => k_is)
        (case k => k_is)
        (case b => exact fun us hl => match us, hl with | [_], _ => rfl)
      case d14 =>
        refine' Zn.df_mk KX G ?a ?l ?c ?k ?b
        (case a => k_is)
        (case l => k_is)
        (case c => k_is)
        (case k => k_is)
        (case b => exact fun us hl => match us, hl with | [_, _], _ => rfl)
      case d15 =>
        refine' Zn.df_mk KX G ?a ?l ?c ?k ?b
        (case a => k_is)
        (case l => k_is)
        (case c => k_is)
        (case k => k_is)
        (case b => exact fun us hl => match us, hl with | [_, _], _ => rfl)
      case d16 =>
        refine' Zn.df_mk KX G ?a ?l ?c ?k ?b
        (case a => k_is)
        (case l => k_is)
        (case c => k_is)
        (case k => k_is)
        (case b => exact fun us hl => match us, hl with | [_, _], _ => rfl)
      case d17 =>
        refine' Zn.df_mk KX G ?a ?l ?c ?k ?b
        (case a => k_is)
        (case l => k_is)
        (case c => k_is)
        (case k => k_is)
        (case b => exact fun us hl => match us, hl with | [_], _ => rfl)
      case d18 =>
        refine' Zn.df_mk KX G ?a ?l ?c ?k ?b
        (case a => k_is)
        (case l => k_is)
        (case c => k_is)
        (case k => k_is)
        (case b => exact fun us hl => match us, hl with | [_, _], _ => rfl)
      case d19 =>
        refine' Zn.df_mk KX G ?a ?l ?c ?k ?b
        (case a => k_is)
        (case l => k_is)
        (case c => k_is)
        (case k => k_is)
        (case b => exact fun us hl => match us, hl with | [_], _ => rfl)
      case d20 =>
        refine' Zn.df_mk KX G ?a ?l ?c ?k ?b
        (case a => k_is)
        (case l => k_is)
        (case c => k_is)
        (case k => k_is)
        (case b => exact fun us hl => match us, hl with | [_, _, _], _ => rfl)
      case d21 =>
        refine' Zn.df_mk KX G ?a ?l ?c ?k ?b
        (case a => k_is)
        (case l => k_is)
        (case c => k_is)
        (case k => k_is)
        (case b => exact fun us hl => match us, hl with | [_, _], _ => rfl)
      case d22 =>
        refine' Zn.df_mk KX G ?a ?l ?c ?k ?b
        (case a => k_is)
        (case l => k_is)
        (case c => k_is)
        (case k => k_is)
        (case b => exact fun us hl => match us, hl with | [_, _, _], _ => rfl)
      case d23 =>
        refine' Zn.df_mk KX G ?a ?l ?c ?k ?b
        (case a => k_is)
        (case l => k_is)
        (case c => k_is)
        (case k => k_is)
        (case b => exact fun us hl => match us, hl with | [_, _], _ => rfl)
      case d24 =>
        refine' Zn.df_mk KX G ?a ?l ?c ?k ?b
        (case a => k_is)
        (case l => k_is)
        (case c => k_is)
        (case k => k_is)
        (case b => exact fun us hl => match us, hl with | [_, _], _ => rfl)
      case d25 =>
        refine' Zn.df_mk KX G ?a ?l ?c ?k ?b
        (case a => k_is)
        (case l => k_is)
        (case c => k_is)
        (case k => k_is)
        (case b => exact fun us hl => match us, hl with | [_, _, _], _ => rfl)
      case d26 =>
        refine' Zn.df_mk KX G ?a ?l ?c ?k ?b
        (case a => k_is)
        (case l => k_is)
        (case c => k_is)
        (case k => k_is)
        (case b => exact fun us hl => match us, hl with | [_, _, _], _ => rfl)
      case d27 =>
        refine' Zn.df_mk KX G ?a ?l ?c ?k ?b
        (case a => k_is)
        (case l => k_is)
        (case c => k_is)
        (case k => k_is)
        (case b => exact fun us hl => match us, hl with | [_, _], _ => rfl)
      case d28 =>
        refine' Zn.df_mk KX G ?a ?l ?c ?k ?b
        (case a => k_is)
        (case l => k_is)
        (case c => k_is)
        (case k => k_is)
        (case b => exact fun us hl => match us, hl with | [_, _, _], _ => rfl)
      case d29 =>
        refine' Zn.df_mk KX G ?a ?l ?c ?k ?b
        (case a => k_is)
        (case l => k_is)
        (case c => k_is)
        (case k => k_is)
        (case b => exact fun us hl => match us, hl with | [_, _, _, _], _ => rfl)
      case d30 =>
        refine' Zn.df_mk KX G ?a ?l ?c ?k ?b
        (case a => k_is)
        (case l => k_is)
        (case c => k_is)
        (case k => k_is)
        (case b => exact fun us hl => match us, hl with | [_, _, _, _, _], _ => rfl)
      case d31 =>
        refine' Zn.df_mk KX G ?a ?l ?c ?k ?b
        (case a => k_is)
        (case l => k_is)
        (case c => k_is)
        (case k => k_is)
        (case b => exact fun us hl => match us, hl with | [_], _ => rfl)
      case d32 =>
        refine' Zn.df_mk KX G ?a ?l ?c ?k ?b
        (case a => k_is)
        (case l => k_is)
        (case c => k_is)
        (case k => k_is)
        (case b => exact fun us hl => match us, hl with | [_], _ => rfl)
