import PyProof.Rows.All
import Wide.All
import OpenK.AllK
import Wide.FinOn
import PyProof.EqAt
import PyProof.EqKinds
import PyProof.TupleCall
import PyProof.ReprRoads
import HandS.ForMost
import HandS.IsInst
import HandS.Wide
import PyProof.InstNe
import HandS.Property
import HandS.SetBool
import HandS.Strs
import HandS.RaiseMore
import HandS.Dict
import KE.SortData
import HandS.SetFor
import KE.KTupSum
import KE.GoesEnum
import HandS.Star
import HandS.Iter
import HandS.Text
import HandS.Steps
import HandS.TryMany
import HandS.ExcInit
import HandS.ExcField
import HandS.ExcOwn
import HandS.WordsExc
import PyProof.InstStore
import PyProof.ExcBaseAll.LookupError
import PyProof.Rows.StrIntSpec
import HandS.FStr
import PySem.Challenge.RW_everyzone_k16_bounds_judged
import HandS.DictComp
import HandS.NoneIn
import HandS.Conv
import HandS.More
import HandS.Style
import HandS.DeepEq
import HandS.ListItems
set_option Elab.async false
set_option linter.all false
set_option maxRecDepth 100000
set_option maxHeartbeats 4000000
/-! Data layer: pure expressions by the data they come to. M: addresses that may change; what is known stands outside of M. -/
namespace Dl
open PySem PySem.Spec PyProof.Rows L2

/-! ### what is known -/
def hid (M : List Addr) (H : Hp) : Hp := fun a => if a ∈ M then none else H a
def Live (M : List Addr) (H : Hp) : Prop := ∀ a ∈ M, H a ≠ none
section
variable {M : List Addr} {H H' : Hp} {a p : Addr} {o : HO}
theorem hid_of (n : a ∉ M) : hid M H a = H a := if_neg n
theorem hid_le : Same (hid M H) H := fun b o e => by
  unfold hid at e
  split at e
  · cases e
  · exact e
theorem hid_mono (s : Same H H') : Same (hid M H) (hid M H') := fun b o e => by
  unfold hid at e ⊢
  split at e
  · cases e
  · rename_i n; rw [if_neg n]; exact s b o e
theorem hid_nil : hid [] H = H := by funext b; unfold hid; rw [if_neg (by simp)]
theorem hid_upd_mem (h : p ∈ M) : hid M (upd H p o) = hid M H := by
  funext b; unfold hid
  split
  · rfl
  · rename_i n; rw [upd_ne (fun z => n (by rw [z]; exact h))]
theorem Live.mono (L : Live M H) (s : Same H H') : Live M H' := fun b hb z => by
  cases e : H b with
  | none => exact L b hb e
  | some o => rw [s b o e] at z; cases z
theorem Live.fresh (L : Live M H) (hp : H p = none) : p ∉ M := fun h => L p h hp
theorem Live.nil : Live [] H := fun _ h => by simp at h
theorem hid_new (L : Live M H) (hp : H p = none) : hid M (upd H p o) = upd (hid M H) p o := by
  funext b; unfold hid upd
  by_cases hb : b = p
  · subst hb; rw [if_neg (L.fresh hp), if_pos rfl, if_pos rfl]
  · rw [if_neg hb, if_neg hb]
theorem hid_free (hp : H p = none) : hid M H p = none := by unfold hid; split <;> first | rfl | exact hp
theorem hid_cons (hp : H p = none) : hid (p :: M) (upd H p o) = hid M H := by
  funext b; unfold hid
  by_cases hb : b = p
  · subst hb
    rw [if_pos (List.mem_cons_self ..)]
    split <;> first | rfl | exact hp.symm
  · by_cases hm : b ∈ M
    · rw [if_pos (List.mem_cons_of_mem _ hm), if_pos hm]
    · rw [if_neg (by simp [hb, hm]), if_neg hm, upd_ne hb]
theorem Live.cons (L : Live M H) (hp : H p = none) : Live (p :: M) (upd H p o) := fun b hb => by
  rcases List.mem_cons.mp hb with e | hb
  · subst e; rw [upd_same]; simp
  · rw [upd_ne (fun z => L b hb (by rw [z]; exact hp))]; exact L b hb
theorem Live.upd (L : Live M H) : Live M (upd H p o) := fun b hb => by
  by_cases e : b = p
  · subst e; rw [upd_same]; simp
  · rw [upd_ne e]; exact L b hb
theorem same_new (hp : H p = none) : Same H (upd H p o) := fun b u e => by rw [upd_ne (ne_of_none e hp)]; exact e
theorem Live.to (L : Live M H) (s : Same (hid [] H) H') : Live M H' := L.mono (by rw [hid_nil] at s; exact s)
theorem hid_hid : hid M (hid M H) = hid M H := by
  funext b; unfold hid; split <;> rfl
end
theorem same_seqT {K : PySem.W.Frag} {H H' : Hp} {a : Addr} {xs : List V} (e : Same H H') (h : SqT K H a xs) : SqT K H' a xs := by
  rcases h with (h | ⟨o, h⟩) | h
  · exact .inl (.inl (e _ _ h))
  · exact .inl (.inr ⟨o, e _ _ h⟩)
  · exact .inr h
mutual
/-- a value is the data (every list is one that is tracked) -/
inductive Dq (K : PySem.W.Frag) (H : Hp) : V → PyData → Prop
  | non : Dq K H .non .none
  | bl (b : Bool) : Dq K H (.bl b) (.bool b)
  | int (i : Int) : Dq K H (.int i) (.int i)
  | str (x : Str) : Dq K H (.str x) (.str x)
  | lst {a : Addr} {xs : List V} {ds : List PyData} : H a = some (.lst xs) → DqAll K H xs ds → Dq K H (.ref a) (.list ds)
  | tup {a : Addr} {xs : List V} {ds : List PyData} : SqT K H a xs → DqAll K H xs ds → Dq K H (.ref a) (.tuple ds)
inductive DqAll (K : PySem.W.Frag) (H : Hp) : List V → List PyData → Prop
  | nil : DqAll K H [] []
  | cons {v : V} {vs : List V} {d : PyData} {ds : List PyData} : Dq K H v d → DqAll K H vs ds → DqAll K H (v :: vs) (d :: ds)
end
mutual
theorem Dq.dp {K : PySem.W.Frag} {H : Hp} : ∀ (d : PyData) (v : V), Dq K H v d → Dp K H v d
  | .none, _, h => by cases h; exact .non
  | .bool b, _, h => by cases h; exact .bl b
  | .int i, _, h => by cases h; exact .int i
  | .str x, _, h => by cases h; exact .str x
  | .list ds, _, h => by
    cases h with
    | lst hs ha => exact .lst (SqL.of hs) (DqAll.dp ds _ ha)
  | .tuple ds, _, h => by
    cases h with
    | tup hs ha => exact .tup hs (DqAll.dp ds _ ha)
  | .dict _, _, h => by cases h
theorem DqAll.dp {K : PySem.W.Frag} {H : Hp} : ∀ (ds : List PyData) (vs : List V), DqAll K H vs ds → DpAll K H vs ds
  | [], _, h => by cases h; exact .nil
  | d :: ds, _, h => by
    cases h with
    | cons h1 h2 => exact .cons (Dq.dp d _ h1) (DqAll.dp ds _ h2)
end
mutual
theorem dp_mono {K : PySem.W.Frag} {H H' : Hp} (e : Same H H') : ∀ (d : PyData) (v : V), Dq K H v d → Dq K H' v d
  | .none, _, h => by cases h; exact .non
  | .bool b, _, h => by cases h; exact .bl b
  | .int i, _, h => by cases h; exact .int i
  | .str x, _, h => by cases h; exact .str x
  | .list ds, _, h => by
    cases h with
    | lst hs ha => exact .lst (e _ _ hs) (dpa_mono e ds _ ha)
  | .tuple ds, _, h => by
    cases h with
    | tup hs ha => exact .tup (same_seqT e hs) (dpa_mono e ds _ ha)
  | .dict _, _, h => by cases h
theorem dpa_mono {K : PySem.W.Frag} {H H' : Hp} (e : Same H H') : ∀ (ds : List PyData) (vs : List V), DqAll K H vs ds → DqAll K H' vs ds
  | [], _, h => by cases h; exact .nil
  | d :: ds, _, h => by
    cases h with
    | cons h1 h2 => exact .cons (dp_mono e d _ h1) (dpa_mono e ds _ h2)
end
section
variable {K : PySem.W.Frag} {H H' : Hp} {v : V} {vs : List V} {ds es : List PyData} {d : PyData}
theorem Dq.up (h : Dq K H v d) (e : Same H H') : Dq K H' v d := dp_mono e d v h
theorem DqAll.up (h : DqAll K H vs ds) (e : Same H H') : DqAll K H' vs ds := dpa_mono e ds vs h
theorem dpa_len : ∀ {vs : List V} {ds : List PyData}, DqAll K H vs ds → vs.length = ds.length
  | _, _, .nil => rfl
  | _, _, .cons _ h => by rw [List.length_cons, List.length_cons, dpa_len h]
theorem dpa_app : ∀ {vs ws : List V} {ds es : List PyData}, DqAll K H vs ds → DqAll K H ws es → DqAll K H (vs ++ ws) (ds ++ es)
  | _, _, _, _, .nil, h => h
  | _, _, _, _, .cons a b, h => .cons a (dpa_app b h)
theorem dpa_get : ∀ {vs : List V} {ds : List PyData} {i : Nat} {d : PyData}, DqAll K H vs ds → ds[i]? = some d → ∃ v, vs[i]? = some v ∧ Dq K H v d
  | _, _, _, _, .nil, e => by simp at e
  | _, _, 0, _, .cons a _, e => by simp at e; subst e; exact ⟨_, rfl, a⟩
  | _, _, i + 1, d, .cons _ b, e => by
    obtain ⟨v, h1, h2⟩ := dpa_get (i := i) (d := d) b (by simpa using e)
    exact ⟨v, by simpa using h1, h2⟩
theorem dpa_get' : ∀ {vs : List V} {ds : List PyData} {i : Nat} {v : V}, DqAll K H vs ds → vs[i]? = some v → ∃ d, ds[i]? = some d ∧ Dq K H v d
  | _, _, _, _, .nil, e => by simp at e
  | _, _, 0, _, .cons a _, e => by simp at e; subst e; exact ⟨_, rfl, a⟩
  | _, _, i + 1, v, .cons _ b, e => by
    obtain ⟨d, h1, h2⟩ := dpa_get' (i := i) (v := v) b (by simpa using e)
    exact ⟨d, by simpa using h1, h2⟩
theorem dpa_drop : ∀ (n : Nat) {vs : List V} {ds : List PyData}, DqAll K H vs ds → DqAll K H (vs.drop n) (ds.drop n)
  | 0, _, _, h => h
  | _ + 1, _, _, .nil => .nil
  | n + 1, _, _, .cons _ b => dpa_drop n b
theorem dpa_take : ∀ (n : Nat) {vs : List V} {ds : List PyData}, DqAll K H vs ds → DqAll K H (vs.take n) (ds.take n)
  | 0, _, _, _ => .nil
  | _ + 1, _, _, .nil => .nil
  | n + 1, _, _, .cons a b => .cons a (dpa_take n b)
theorem dp_int {i : Int} (h : Dq K H v (.int i)) : v = .int i := by cases h; rfl
theorem dp_bl {b : Bool} (h : Dq K H v (.bool b)) : v = .bl b := by cases h; rfl
theorem dp_str {x : Str} (h : Dq K H v (.str x)) : v = .str x := by cases h; rfl
theorem dp_non (h : Dq K H v .none) : v = .non := by cases h; rfl
theorem dp_lst (h : Dq K H v (.list ds)) : ∃ a xs, v = .ref a ∧ H a = some (.lst xs) ∧ DqAll K H xs ds := by
  cases h with
  | lst h1 h2 => exact ⟨_, _, rfl, h1, h2⟩
theorem dp_tup (h : Dq K H v (.tuple ds)) : ∃ a xs, v = .ref a ∧ SqT K H a xs ∧ DqAll K H xs ds := by
  cases h with
  | tup h1 h2 => exact ⟨_, _, rfl, h1, h2⟩
end
/-! ### readings by themselves -/
def RE (X : Cx) (e : Expr) : TE := fun σ H Q => ∃ t, PE X e t ∧ t σ H Q
def RT (X : Cx) (e : Expr) : TT := fun σ H Q => ∃ t, PT X e t ∧ t σ H Q
def RW (X : Cx) (e : Expr) : TT := fun σ H Q => ∃ t, PW X e t ∧ t σ H Q
def RA (X : Cx) (es : List Expr) : TA := fun σ H Q => ∃ t, PA X es t ∧ t σ H Q
def RS (X : Cx) (st : Stmt) : TS := fun D σ H => ∃ t, PS X st t ∧ t D σ H
def RB (X : Cx) (st : List Stmt) : TS := fun D σ H => ∃ t, PSs X st t ∧ t D σ H
def RI (X : Cx) (tg e : Expr) : TI := fun σ H R => ∃ t, PI X tg e t ∧ t σ H R
section
variable {X : Cx} {e tg : Expr} {es : List Expr} {st : Stmt} {sts : List Stmt}
theorem re_ : PE X e (RE X e) := ⟨fun pins s σ H Q I ⟨_, h, q⟩ => h.run pins s σ H Q I q⟩
theorem rt_ : PT X e (RT X e) := ⟨fun pins s σ H Q I ⟨_, h, q⟩ => h.run pins s σ H Q I q⟩
theorem rw_ : PW X e (RW X e) := ⟨fun wh pins s σ H Q I ⟨_, h, q⟩ => h.run wh pins s σ H Q I q⟩
theorem ra_ : PA X es (RA X es) := ⟨fun pos pins s σ H Q I ⟨_, h, q⟩ => h.run pos pins s σ H Q I q⟩
theorem rs_ : PS X st (RS X st) := ⟨fun pins s σ H D I ⟨_, h, q⟩ => h.run pins s σ H D I q⟩
theorem rb_ : PSs X sts (RB X sts) := ⟨fun pins s σ H D I ⟨_, h, q⟩ => h.run pins s σ H D I q⟩
theorem ri_ : PI X tg e (RI X tg e) := ⟨fun pins s σ H R I ⟨_, h, q⟩ => h.run pins s σ H R I q⟩
end
/-! ### what an expression comes to -/
/-- the data d; an exact value v; a new list of the data ds; arguments; a test -/
def XD (X : Cx) (M : List Addr) (σ : L2.St) (H : Hp) (e : Expr) (d : PyData) : Prop := ∀ H1, Same H H1 → ∀ Q : VK, (∀ v H2, Same H1 H2 → Dq X.K (hid M H2) v d → Q v H2) → RE X e σ H1 Q
def XV (X : Cx) (σ : L2.St) (H : Hp) (e : Expr) (v : V) : Prop := ∀ H1, Same H H1 → ∀ Q : VK, (∀ H2, Same H1 H2 → Q v H2) → RE X e σ H1 Q
def XL (X : Cx) (M : List Addr) (σ : L2.St) (H : Hp) (e : Expr) (ds : List PyData) : Prop :=
  ∀ H1, Same H H1 → ∀ Q : VK, (∀ p xs H2, Same H1 H2 → H1 p = none → H2 p = some (.lst xs) → DqAll X.K (hid M H2) xs ds → Q (.ref p) H2) → RE X e σ H1 Q
def XA (X : Cx) (M : List Addr) (σ : L2.St) (H : Hp) (es : List Expr) (ds : List PyData) : Prop := ∀ H1, Same H H1 → ∀ Q : List V → Hp → Prop, (∀ vs H2, Same H1 H2 → DqAll X.K (hid M H2) vs ds → Q vs H2) → RA X es σ H1 Q
def XT (X : Cx) (σ : L2.St) (H : Hp) (e : Expr) (b : Bool) : Prop := ∀ H1, Same H H1 → ∀ Q : Bool → Hp → Prop, (∀ H2, Same H1 H2 → Q b H2) → RT X e σ H1 Q
def XW (X : Cx) (σ : L2.St) (H : Hp) (e : Expr) (b : Bool) : Prop := ∀ H1, Same H H1 → ∀ Q : Bool → Hp → Prop, (∀ H2, Same H1 H2 → Q b H2) → RW X e σ H1 Q
section
variable {X : Cx} {M : List Addr} {σ : L2.St} {H H' : Hp} {e a b c : Expr} {es : List Expr} {d d1 d2 : PyData} {ds es' : List PyData} {i : Nat} {x : Str} {v : V} {pos : Pos}
theorem XD.up (h : XD X M σ H e d) (s : Same H H') : XD X M σ H' e d := fun H1 q => h H1 (s.trans q)
theorem XV.up (h : XV X σ H e v) (s : Same H H') : XV X σ H' e v := fun H1 q => h H1 (s.trans q)
theorem XL.up (h : XL X M σ H e ds) (s : Same H H') : XL X M σ H' e ds := fun H1 q => h H1 (s.trans q)
theorem XA.up (h : XA X M σ H es ds) (s : Same H H') : XA X M σ H' es ds := fun H1 q => h H1 (s.trans q)
theorem XT.up {b : Bool} (h : XT X σ H e b) (s : Same H H') : XT X σ H' e b := fun H1 q => h H1 (s.trans q)
theorem XD.to {d' : PyData} (h : XD X M σ H e d) (q : d = d') : XD X M σ H e d' := q ▸ h
theorem XL.to {ds' : List PyData} (h : XL X M σ H e ds) (q : ds = ds') : XL X M σ H e ds' := q ▸ h
theorem XT.to {k k' : Bool} (h : XT X σ H e k) (q : k = k') : XT X σ H e k' := q ▸ h
theorem XV.dd (h : XV X σ H e v) (hd : Dq X.K (hid M H) v d) : XD X M σ H e d := fun H1 s Q q => h H1 s Q fun H2 s2 => q v H2 s2 (dp_mono (hid_mono (s.trans s2)) d v hd)
theorem XV.int {n : Int} (h : XV X σ H e (.int n)) : XD X M σ H e (.int n) := h.dd (.int n)
theorem XD.vint {n : Int} (h : XD X M σ H e (.int n)) : XV X σ H e (.int n) := fun H1 s Q q => h H1 s Q fun v H2 s2 hv => by rw [dp_int hv]; exact q H2 s2
theorem XD.vbl {k : Bool} (h : XD X M σ H e (.bool k)) : XV X σ H e (.bl k) := fun H1 s Q q => h H1 s Q fun v H2 s2 hv => by rw [dp_bl hv]; exact q H2 s2
theorem XD.vstr {z : Str} (h : XD X M σ H e (.str z)) : XV X σ H e (.str z) := fun H1 s Q q => h H1 s Q fun v H2 s2 hv => by rw [dp_str hv]; exact q H2 s2
theorem XL.dd (h : XL X M σ H e ds) (L : Live M H) : XD X M σ H e (.list ds) := fun H1 s Q q => h H1 s Q fun p xs H2 s2 hp h2 hd =>
  q _ H2 s2 (.lst (by rw [hid_of (fun z => (L.mono s) p z hp)]; exact h2) hd)
/-! names, constants -/
theorem xv_name (i : Nat) {x : Str} {v : V} {pos : Pos} (hv : σ[i]? = some (some v)) (hN : X.N[i]? = some x := by rfl) (hs : Vis X.env.scope x := by first | exact Or.inl rfl | exact Or.inr (Or.inl rfl) | exact Or.inr (Or.inr rfl))
    (hb : (x == ("__debug__" : Str)) = false := by decide) (hc : (x == ("__classdict__" : Str)) = false := by decide) : XV X σ H (.Name x pos) v := fun H1 _ Q q => ⟨_, pe_var hN hs hb hc, v, hv, q H1 (Same.refl _)⟩
theorem xd_name (i : Nat) {x : Str} {v : V} {pos : Pos} (hv : σ[i]? = some (some v)) (hd : Dq X.K (hid M H) v d) (hN : X.N[i]? = some x := by rfl) (hs : Vis X.env.scope x := by first | exact Or.inl rfl | exact Or.inr (Or.inl rfl) | exact Or.inr (Or.inr rfl))
    (hb : (x == ("__debug__" : Str)) = false := by decide) (hc : (x == ("__classdict__" : Str)) = false := by decide) : XD X M σ H (.Name x pos) d := (xv_name i hv hN hs hb hc).dd hd
theorem xv_int {n : Int} {j} : XV X σ H (.Constant (.int n) j pos) (.int n) := fun H1 _ Q q => ⟨_, pe_int, q H1 (Same.refl _)⟩
theorem xd_int {n : Int} {j} : XD X M σ H (.Constant (.int n) j pos) (.int n) := xv_int.int
theorem xv_str {z : Str} {j} : XV X σ H (.Constant (.str z) j pos) (.str z) := fun H1 _ Q q => ⟨_, pe_str, q H1 (Same.refl _)⟩
theorem xd_str {z : Str} {j} : XD X M σ H (.Constant (.str z) j pos) (.str z) := xv_str.dd (.str z)
theorem xd_bl {k : Bool} {j} : XD X M σ H (.Constant (.bool k) j pos) (.bool k) := fun H1 _ Q q => ⟨_, pe_bl, q _ H1 (Same.refl _) (.bl k)⟩
theorem xd_non {j} : XD X M σ H (.Constant .none j pos) .none := fun H1 _ Q q => ⟨_, pe_non, q _ H1 (Same.refl _) .non⟩
theorem xv_glob {u : Value} (hm : X.mg x = some u) (r : RelV v u) (hg : Gl X x := by rfl) (hd : (x == ("__debug__" : Str)) = false := by decide) : XV X σ H (.Name x pos) v := fun H1 _ Q q => ⟨_, pe_glob hg hm r hd, q H1 (Same.refl _)⟩
theorem xv_bltn {u : Value} (hm : X.mg x = none) (hv : bootBuiltins x = some u) (r : RelV v u) (hg : Gl X x := by rfl) (hn : x ≠ "__name__" := by decide) (hd : (x == ("__debug__" : Str)) = false := by decide) : XV X σ H (.Name x pos) v :=
  fun H1 _ Q q => ⟨_, pe_bltn hg hm hv r hn hd, q H1 (Same.refl _)⟩
/-! displays -/
theorem xa_nil : XA X M σ H [] [] := fun H1 _ Q q => ⟨_, pa_nil, q [] H1 (Same.refl _) .nil⟩
theorem xa_cons (ha : XD X M σ H e d) (hr : XA X M σ H es ds) (hs : starEach (e :: es) X.env = (false, eval e X.env) :: starEach es X.env := by rfl) : XA X M σ H (e :: es) (d :: ds) := fun H1 s Q q =>
  ⟨_, pa_cons re_ ra_ hs, ha H1 s _ fun v H2 s2 hv => hr H2 (s.trans s2) _ fun vs H3 s3 hvs => q _ H3 (s2.trans s3) (.cons (hv.up (hid_mono s3)) hvs)⟩
theorem small_sz {n : Nat} (h : n ≤ 100000) : n ≤ sizeLine := Nat.le_trans h (by decide)
theorem xd_tup {x1} (L : Live M H) (h : XA X M σ H es ds) (hl : ds.length ≤ 100000 := by simp) : XD X M σ H (.Tuple es x1 pos) (.tuple ds) := fun H1 s Q q =>
  ⟨_, pe_tup ra_, h H1 s _ fun vs H2 s2 hvs => ⟨by rw [dpa_len hvs]; exact small_sz hl, fun p hp => q _ _ (s2.trans (same_new hp)) (by
    rw [hid_new (L.mono (s.trans s2)) hp]
    exact .tup (SqT.of upd_same) (hvs.up (same_new (hid_free hp))))⟩⟩
theorem xl_lst (L : Live M H) (h : XA X M σ H es ds) (hl : ds.length ≤ 100000 := by simp) : XL X M σ H (.List es pos) ds := fun H1 s Q q =>
  ⟨_, pe_lst ra_, h H1 s _ fun vs H2 s2 hvs => ⟨by rw [dpa_len hvs]; exact small_sz hl, fun p hp => q p vs _ (s2.trans (same_new hp)) (s2.free hp) upd_same (by
    rw [hid_new (L.mono (s.trans s2)) hp]
    exact hvs.up (same_new (hid_free hp)))⟩⟩
theorem xd_lst (L : Live M H) (h : XA X M σ H es ds) (hl : ds.length ≤ 100000 := by simp) : XD X M σ H (.List es pos) (.list ds) := (xl_lst L h hl).dd L
/-! operators -/
theorem xd_bin {op : Operator} {r : R2} (ho : OpR X (binaryOp op) r) (ha : XD X M σ H a d1) (hb : XD X M σ H b d2)
    (hr : ∀ H1 v w, Same H H1 → Dq X.K (hid M H1) v d1 → Dq X.K (hid M H1) w d2 → ∀ Q : VK, (∀ u H2, Same H1 H2 → Dq X.K (hid M H2) u d → Q u H2) → r v w H1 Q) : XD X M σ H (.BinOp a op b pos) d := fun H1 s Q q =>
  ⟨_, pe_op ho re_ re_, ha H1 s _ fun v H2 s2 hv => hb H2 (s.trans s2) _ fun w H3 s3 hw => hr H3 v w ((s.trans s2).trans s3) (hv.up (hid_mono s3)) hw Q fun u H4 s4 hu => q u H4 ((s2.trans s3).trans s4) hu⟩
theorem xd_binI {op : Operator} {C : Int → Int → Prop} {g : Int → Int → Int} {m n : Int} (ho : OpR X (binaryOp op) (rI C fun i j => .int (g i j))) (ha : XD X M σ H a (.int m)) (hb : XD X M σ H b (.int n)) (hc : C m n) : XD X M σ H (.BinOp a op b pos) (.int (g m n)) :=
  xd_bin ho ha hb fun H1 v w s hv hw Q q => ⟨m, n, dp_int hv, dp_int hw, hc, q _ H1 (Same.refl _) (.int _)⟩
theorem xd_binI0 {op : Operator} {g : Int → Int → Int} {m n : Int} (ho : OpR X (binaryOp op) (rI0 fun i j => .int (g i j))) (ha : XD X M σ H a (.int m)) (hb : XD X M σ H b (.int n)) : XD X M σ H (.BinOp a op b pos) (.int (g m n)) :=
  xd_bin ho ha hb fun H1 v w s hv hw Q q => ⟨m, n, dp_int hv, dp_int hw, q _ H1 (Same.refl _) (.int _)⟩
theorem xd_add {m n : Int} (ha : XD X M σ H a (.int m)) (hb : XD X M σ H b (.int n)) : XD X M σ H (.BinOp a .Add b pos) (.int (m + n)) := xd_binI0 op_add ha hb
theorem xd_sub {m n : Int} (ha : XD X M σ H a (.int m)) (hb : XD X M σ H b (.int n)) : XD X M σ H (.BinOp a .Sub b pos) (.int (m - n)) := xd_binI0 op_sub ha hb
theorem xd_mul {m n : Int} (ha : XD X M σ H a (.int m)) (hb : XD X M σ H b (.int n)) (hc : (-(2 ^ 64) < m ∧ m < 2 ^ 64) ∨ (-(2 ^ 64) < n ∧ n < 2 ^ 64)) : XD X M σ H (.BinOp a .Mult b pos) (.int (m * n)) := xd_binI op_mul ha hb hc
theorem xd_neg {m : Int} (ha : XD X M σ H a (.int m)) : XD X M σ H (.UnaryOp .USub a pos) (.int (-m)) := fun H1 s Q q =>
  ⟨_, pe_un un_neg re_, ha H1 s _ fun v H2 s2 hv => ⟨m, dp_int hv, q _ H2 s2 (.int _)⟩⟩
/-! comparisons -/
theorem xd_cmp {op : CmpOp} {r : R2} (ho : OpR X (compareOp op) r) (ha : XD X M σ H a d1) (hb : XD X M σ H b d2)
    (hr : ∀ H1 v w, Same H H1 → Dq X.K (hid M H1) v d1 → Dq X.K (hid M H1) w d2 → ∀ Q : VK, (∀ u H2, Same H1 H2 → Dq X.K (hid M H2) u d → Q u H2) → r v w H1 Q)
    (hm : behindInMarks op b = false := by first | exact nomark _ | rfl) : XD X M σ H (.Compare a [op] [b] pos) d := fun H1 s Q q =>
  ⟨_, pe_cmpR ho re_ re_ hm, ha H1 s _ fun v H2 s2 hv => hb H2 (s.trans s2) _ fun w H3 s3 hw => hr H3 v w ((s.trans s2).trans s3) (hv.up (hid_mono s3)) hw Q fun u H4 s4 hu => q u H4 ((s2.trans s3).trans s4) hu⟩
theorem xt_cmp {k : Bool} {op : CmpOp} {r : R2} (ho : OpR X (compareOp op) r) (ha : XD X M σ H a d1) (hb : XD X M σ H b d2)
    (hr : ∀ H1 v w, Same H H1 → Dq X.K (hid M H1) v d1 → Dq X.K (hid M H1) w d2 → ∀ Q : VK, (∀ H2, Same H1 H2 → Q (.bl k) H2) → r v w H1 Q)
    (hm : behindInMarks op b = false := by first | exact nomark _ | rfl) : XT X σ H (.Compare a [op] [b] pos) k := fun H1 s Q q =>
  ⟨_, pt_cmpR ho re_ re_ hm, ha H1 s _ fun v H2 s2 hv => hb H2 (s.trans s2) _ fun w H3 s3 hw => hr H3 v w ((s.trans s2).trans s3) (hv.up (hid_mono s3)) hw _ fun H4 s4 => ⟨k, rfl, q H4 ((s2.trans s3).trans s4)⟩⟩
theorem xt_cmpI {op : CmpOp} {g : Int → Int → Bool} {m n : Int} (ho : OpR X (compareOp op) (rI0 fun i j => .bl (g i j))) (ha : XD X M σ H a (.int m)) (hb : XD X M σ H b (.int n)) (hm : behindInMarks op b = false := by exact nomark _) : XT X σ H (.Compare a [op] [b] pos) (g m n) :=
  xt_cmp ho ha hb (fun H1 v w s hv hw Q q => ⟨m, n, dp_int hv, dp_int hw, q H1 (Same.refl _)⟩) hm
theorem xd_cmpI {op : CmpOp} {g : Int → Int → Bool} {m n : Int} (ho : OpR X (compareOp op) (rI0 fun i j => .bl (g i j))) (ha : XD X M σ H a (.int m)) (hb : XD X M σ H b (.int n)) (hm : behindInMarks op b = false := by exact nomark _) : XD X M σ H (.Compare a [op] [b] pos) (.bool (g m n)) :=
  xd_cmp ho ha hb (fun H1 v w s hv hw Q q => ⟨m, n, dp_int hv, dp_int hw, q _ H1 (Same.refl _) (.bl _)⟩) hm
theorem dec_int {m n : Int} : decide (V.int m = V.int n) = decide (m = n) := by
  by_cases h : m = n
  · subst h; simp
  · rw [decide_eq_false h, decide_eq_false fun z => h (V.int.inj z)]
theorem xd_eqI {m n : Int} (ha : XD X M σ H a (.int m)) (hb : XD X M σ H b (.int n)) : XD X M σ H (.Compare a [.Eq] [b] pos) (.bool (decide (m = n))) :=
  xd_cmp op_eq ha hb fun H1 v w s hv hw Q q => by
    rw [dp_int hv, dp_int hw]
    exact ⟨rfl, by rw [dec_int]; exact q _ H1 (Same.refl _) (.bl _)⟩
theorem xd_neI {m n : Int} (ha : XD X M σ H a (.int m)) (hb : XD X M σ H b (.int n)) : XD X M σ H (.Compare a [.NotEq] [b] pos) (.bool (!decide (m = n))) :=
  xd_cmp op_ne ha hb fun H1 v w s hv hw Q q => by
    rw [dp_int hv, dp_int hw]
    exact ⟨rfl, by rw [dec_int]; exact q _ H1 (Same.refl _) (.bl _)⟩
theorem xt_eqI {m n : Int} (ha : XD X M σ H a (.int m)) (hb : XD X M σ H b (.int n)) : XT X σ H (.Compare a [.Eq] [b] pos) (decide (m = n)) :=
  xt_cmp op_eq ha hb fun H1 v w s hv hw Q q => by
    rw [dp_int hv, dp_int hw]
    exact ⟨rfl, by rw [dec_int]; exact q H1 (Same.refl _)⟩
theorem xt_neI {m n : Int} (ha : XD X M σ H a (.int m)) (hb : XD X M σ H b (.int n)) : XT X σ H (.Compare a [.NotEq] [b] pos) (!decide (m = n)) :=
  xt_cmp op_ne ha hb fun H1 v w s hv hw Q q => by
    rw [dp_int hv, dp_int hw]
    exact ⟨rfl, by rw [dec_int]; exact q H1 (Same.refl _)⟩
theorem xd_eqD (hu : X.A.units + 64 < cLine) (ha : XD X M σ H a d1) (hb : XD X M σ H b d2) (s1 : SeqAt.shaped d1 = true) (s2 : SeqAt.shaped d2 = true) : XD X M σ H (.Compare a [.Eq] [b] pos) (.bool (PyData.eqv d1 d2)) :=
  xd_cmp (op_eqD hu) ha hb fun H1 v w s hv hw Q q => ⟨d1, d2, (hv.up hid_le).dp, (hw.up hid_le).dp, s1, s2, q _ H1 (Same.refl _) (.bl _)⟩
theorem xd_neD (hu : X.A.units + 64 < cLine) (ha : XD X M σ H a d1) (hb : XD X M σ H b d2) (s1 : SeqAt.shaped d1 = true) (s2 : SeqAt.shaped d2 = true) : XD X M σ H (.Compare a [.NotEq] [b] pos) (.bool (!PyData.eqv d1 d2)) :=
  xd_cmp (op_neD hu) ha hb fun H1 v w s hv hw Q q => ⟨d1, d2, (hv.up hid_le).dp, (hw.up hid_le).dp, s1, s2, q _ H1 (Same.refl _) (.bl _)⟩
theorem xt_eqD (hu : X.A.units + 64 < cLine) (ha : XD X M σ H a d1) (hb : XD X M σ H b d2) (s1 : SeqAt.shaped d1 = true) (s2 : SeqAt.shaped d2 = true) : XT X σ H (.Compare a [.Eq] [b] pos) (PyData.eqv d1 d2) :=
  xt_cmp (op_eqD hu) ha hb fun H1 v w s hv hw Q q => ⟨d1, d2, (hv.up hid_le).dp, (hw.up hid_le).dp, s1, s2, q H1 (Same.refl _)⟩
theorem xt_neD (hu : X.A.units + 64 < cLine) (ha : XD X M σ H a d1) (hb : XD X M σ H b d2) (s1 : SeqAt.shaped d1 = true) (s2 : SeqAt.shaped d2 = true) : XT X σ H (.Compare a [.NotEq] [b] pos) (!PyData.eqv d1 d2) :=
  xt_cmp (op_neD hu) ha hb fun H1 v w s hv hw Q q => ⟨d1, d2, (hv.up hid_le).dp, (hw.up hid_le).dp, s1, s2, q H1 (Same.refl _)⟩
/-! not, and, or -/
theorem xd_not {k : Bool} (ha : XD X M σ H a (.bool k)) : XD X M σ H (.UnaryOp .Not a pos) (.bool (!k)) := fun H1 s Q q =>
  ⟨_, pe_not re_, ha H1 s _ fun v H2 s2 hv => ⟨k, dp_bl hv, q _ H2 s2 (.bl _)⟩⟩
theorem xd_one {op} (ha : XD X M σ H a d) : XD X M σ H (.BoolOp op [a] pos) d := fun H1 s Q q => ⟨_, pe_one re_, ha H1 s Q q⟩
theorem xd_andT {rest : List Expr} (ha : XD X M σ H a (.bool true)) (hb : XD X M σ H (.BoolOp .And (b :: rest) pos) d) : XD X M σ H (.BoolOp .And (a :: b :: rest) pos) d := fun H1 s Q q =>
  ⟨_, pe_and re_ re_, ha H1 s _ fun v H2 s2 hv => ⟨true, dp_bl hv, iteT (hb H2 (s.trans s2) Q fun u H3 s3 hu => q u H3 (s2.trans s3) hu)⟩⟩
theorem xd_andF {rest : List Expr} (ha : XD X M σ H a (.bool false)) : XD X M σ H (.BoolOp .And (a :: b :: rest) pos) (.bool false) := fun H1 s Q q =>
  ⟨_, pe_and re_ re_, ha H1 s _ fun v H2 s2 hv => ⟨false, dp_bl hv, iteF (q _ H2 s2 (.bl _))⟩⟩
theorem xd_and2 {k1 k2 : Bool} (ha : XD X M σ H a (.bool k1)) (hb : k1 = true → XD X M σ H b (.bool k2)) : XD X M σ H (.BoolOp .And [a, b] pos) (.bool (k1 && k2)) := by
  cases k1 with
  | true => exact xd_andT ha (xd_one (hb rfl))
  | false => exact xd_andF ha
theorem xd_orF {rest : List Expr} (ha : XD X M σ H a (.bool false)) (hb : XD X M σ H (.BoolOp .Or (b :: rest) pos) d) : XD X M σ H (.BoolOp .Or (a :: b :: rest) pos) d := fun H1 s Q q =>
  ⟨_, pe_or re_ re_, ha H1 s _ fun v H2 s2 hv => ⟨false, dp_bl hv, iteF (hb H2 (s.trans s2) Q fun u H3 s3 hu => q u H3 (s2.trans s3) hu)⟩⟩
theorem xd_orT {rest : List Expr} (ha : XD X M σ H a (.bool true)) : XD X M σ H (.BoolOp .Or (a :: b :: rest) pos) (.bool true) := fun H1 s Q q =>
  ⟨_, pe_or re_ re_, ha H1 s _ fun v H2 s2 hv => ⟨true, dp_bl hv, iteT (q _ H2 s2 (.bl _))⟩⟩
theorem xt_val {k : Bool} (h : XD X M σ H e (.bool k)) (he : ∀ whole, isTrue e X.env whole = (do let v ← whole; standAt e.pos; holding [v] (truthy v)) := by intro _; rfl) : XT X σ H e k := fun H1 s Q q =>
  ⟨_, pt_val re_ he, h H1 s _ fun v H2 s2 hv => ⟨k, dp_bl hv, q H2 s2⟩⟩
theorem xt_not {k : Bool} (ha : XT X σ H a k) : XT X σ H (.UnaryOp .Not a pos) (!k) := fun H1 s Q q => ⟨_, pt_not rt_, ha H1 s _ q⟩
theorem xw_and1 {k : Bool} (ha : XT X σ H a k) : XW X σ H (.BoolOp .And [a] pos) k := fun H1 s Q q => ⟨_, pw_and1 rt_, ha H1 s _ q⟩
theorem xw_or1 {k : Bool} (ha : XT X σ H a k) : XW X σ H (.BoolOp .Or [a] pos) k := fun H1 s Q q => ⟨_, pw_or1 rt_, ha H1 s _ q⟩
theorem xw_andT {k : Bool} {rest : List Expr} (ha : XT X σ H a true) (hb : XW X σ H (.BoolOp .And (b :: rest) pos) k) : XW X σ H (.BoolOp .And (a :: b :: rest) pos) k := fun H1 s Q q =>
  ⟨_, pw_and rt_ rw_, ha H1 s _ fun H2 s2 => iteT (hb H2 (s.trans s2) Q fun H3 s3 => q H3 (s2.trans s3))⟩
theorem xw_andF {rest : List Expr} (ha : XT X σ H a false) : XW X σ H (.BoolOp .And (a :: b :: rest) pos) false := fun H1 s Q q =>
  ⟨_, pw_and rt_ rw_, ha H1 s _ fun H2 s2 => iteF (q H2 s2)⟩
theorem xw_orF {k : Bool} {rest : List Expr} (ha : XT X σ H a false) (hb : XW X σ H (.BoolOp .Or (b :: rest) pos) k) : XW X σ H (.BoolOp .Or (a :: b :: rest) pos) k := fun H1 s Q q =>
  ⟨_, pw_or rt_ rw_, ha H1 s _ fun H2 s2 => iteF (hb H2 (s.trans s2) Q fun H3 s3 => q H3 (s2.trans s3))⟩
theorem xw_orT {rest : List Expr} (ha : XT X σ H a true) : XW X σ H (.BoolOp .Or (a :: b :: rest) pos) true := fun H1 s Q q =>
  ⟨_, pw_or rt_ rw_, ha H1 s _ fun H2 s2 => iteT (q H2 s2)⟩
theorem XW.t {k : Bool} (h : XW X σ H e k) : XT X σ H e k := fun H1 s Q q => ⟨_, PW.pt rw_, h H1 s Q q⟩
theorem xt_and2 {k1 k2 : Bool} (ha : XT X σ H a k1) (hb : k1 = true → XT X σ H b k2) : XT X σ H (.BoolOp .And [a, b] pos) (k1 && k2) := by
  cases k1 with
  | true => exact (xw_andT ha (xw_and1 (hb rfl))).t
  | false => exact (xw_andF ha).t
theorem xt_or2 {k1 k2 : Bool} (ha : XT X σ H a k1) (hb : k1 = false → XT X σ H b k2) : XT X σ H (.BoolOp .Or [a, b] pos) (k1 || k2) := by
  cases k1 with
  | false => exact (xw_orF ha (xw_or1 (hb rfl))).t
  | true => exact (xw_orT ha).t
theorem xd_ifT {k : Expr} (hc : XT X σ H k true) (ha : XD X M σ H a d) : XD X M σ H (.IfExp k a b pos) d := fun H1 s Q q =>
  ⟨_, pe_ifExp rt_ re_ re_, hc H1 s _ fun H2 s2 => iteT (ha H2 (s.trans s2) Q fun u H3 s3 hu => q u H3 (s2.trans s3) hu)⟩
theorem xd_ifF {k : Expr} (hc : XT X σ H k false) (hb : XD X M σ H b d) : XD X M σ H (.IfExp k a b pos) d := fun H1 s Q q =>
  ⟨_, pe_ifExp rt_ re_ re_, hc H1 s _ fun H2 s2 => iteF (hb H2 (s.trans s2) Q fun u H3 s3 hu => q u H3 (s2.trans s3) hu)⟩
end
end Dl

set_option Elab.async false
set_option linter.all false
set_option maxRecDepth 100000
set_option maxHeartbeats 4000000
/-! Data layer, part 2: statements, subscripts, built-ins, lists, comprehensions, loops. -/
namespace Dl
open PySem PySem.Spec PyProof.Rows L2
section
variable {X : Cx} {M : List Addr} {σ : L2.St} {H H' : Hp} {e a b c o : Expr} {es : List Expr} {d d1 d2 : PyData} {ds es' : List PyData} {i : Nat} {x : Str} {v : V} {pos p1 p2 p3 : Pos} {D : Ends} {rest sts : List Stmt} {st : Stmt}
theorem XD.go {Q : VK} (h : XD X M σ H e d) (k : ∀ v H2, Same H H2 → Dq X.K (hid M H2) v d → Q v H2) : RE X e σ H Q := h H (Same.refl H) Q k
theorem XL.go {Q : VK} (h : XL X M σ H e ds) (k : ∀ p xs H2, Same H H2 → H p = none → H2 p = some (.lst xs) → DqAll X.K (hid M H2) xs ds → Q (.ref p) H2) : RE X e σ H Q := h H (Same.refl H) Q k
theorem XV.go {Q : VK} (h : XV X σ H e v) (k : ∀ H2, Same H H2 → Q v H2) : RE X e σ H Q := h H (Same.refl H) Q k
theorem XA.go {Q : List V → Hp → Prop} (h : XA X M σ H es ds) (k : ∀ vs H2, Same H H2 → DqAll X.K (hid M H2) vs ds → Q vs H2) : RA X es σ H Q := h H (Same.refl H) Q k
/-! ### statements -/
theorem rb_nil (h : D.nx σ H) : RB X [] D σ H := ⟨_, pss_nil, h⟩
theorem rb_cons (h : RS X st { D with nx := RB X rest D } σ H) : RB X (st :: rest) D σ H := ⟨_, pss_cons rs_ rb_, h⟩
/-- x = e, by the raw reading -/
theorem rb_setR (i : Nat) {x : Str} {pos' : Pos} (h : RE X e σ H fun v H1 => RB X rest D (σ.set i (some v)) H1) (hN : X.N.Nodup) (hi : X.N[i]? = some x := by rfl) (hx : Loc X.env.scope x := by first | exact Or.inl rfl | exact Or.inr rfl)
    (hs : swapsWith e (some (.Name x pos')) pos.line X.env = pure false := by rfl) (hf : X.fn x = true ∨ X.env.scope.names.lookup x = some .local := by first | exact .inl rfl | exact .inr rfl) : RB X (.Assign [.Name x pos'] e pos :: rest) D σ H :=
  ⟨_, pss_cons (ps_set hN hi hx re_ hs hf) rb_, h⟩
theorem rb_set (i : Nat) {x : Str} {pos' : Pos} (h : XD X M σ H e d) (k : ∀ v H1, Same H H1 → Dq X.K (hid M H1) v d → RB X rest D (σ.set i (some v)) H1) (hN : X.N.Nodup) (hi : X.N[i]? = some x := by rfl) (hx : Loc X.env.scope x := by first | exact Or.inl rfl | exact Or.inr rfl)
    (hs : swapsWith e (some (.Name x pos')) pos.line X.env = pure false := by rfl) (hf : X.fn x = true ∨ X.env.scope.names.lookup x = some .local := by first | exact .inl rfl | exact .inr rfl) : RB X (.Assign [.Name x pos'] e pos :: rest) D σ H :=
  rb_setR i (h H (Same.refl H) _ fun v H1 s hv => k v H1 s hv) hN hi hx hs hf
theorem rb_setL (i : Nat) {x : Str} {pos' : Pos} (h : XL X M σ H e ds) (k : ∀ p xs H1, Same H H1 → H p = none → H1 p = some (.lst xs) → DqAll X.K (hid M H1) xs ds → RB X rest D (σ.set i (some (.ref p))) H1) (hN : X.N.Nodup) (hi : X.N[i]? = some x := by rfl) (hx : Loc X.env.scope x := by first | exact Or.inl rfl | exact Or.inr rfl)
    (hs : swapsWith e (some (.Name x pos')) pos.line X.env = pure false := by rfl) (hf : X.fn x = true ∨ X.env.scope.names.lookup x = some .local := by first | exact .inl rfl | exact .inr rfl) : RB X (.Assign [.Name x pos'] e pos :: rest) D σ H :=
  rb_setR i (h H (Same.refl H) _ fun p xs H1 s hp h1 hd => k p xs H1 s hp h1 hd) hN hi hx hs hf
theorem rb_setV (i : Nat) {x : Str} {pos' : Pos} (h : XV X σ H e v) (k : ∀ H1, Same H H1 → RB X rest D (σ.set i (some v)) H1) (hN : X.N.Nodup) (hi : X.N[i]? = some x := by rfl) (hx : Loc X.env.scope x := by first | exact Or.inl rfl | exact Or.inr rfl)
    (hs : swapsWith e (some (.Name x pos')) pos.line X.env = pure false := by rfl) (hf : X.fn x = true ∨ X.env.scope.names.lookup x = some .local := by first | exact .inl rfl | exact .inr rfl) : RB X (.Assign [.Name x pos'] e pos :: rest) D σ H :=
  rb_setR i (h H (Same.refl H) _ fun H1 s => k H1 s) hN hi hx hs hf
theorem rb_retR (h : RE X e σ H D.rt) : RB X (.Return (some e) pos :: rest) D σ H := ⟨_, pss_cons (ps_ret re_) rb_, h⟩
theorem rb_ret (h : XD X M σ H e d) (k : ∀ v H1, Same H H1 → Dq X.K (hid M H1) v d → D.rt v H1) : RB X (.Return (some e) pos :: rest) D σ H := rb_retR (h H (Same.refl H) _ fun v H1 s hv => k v H1 s hv)
theorem rb_exprR (h : RE X e σ H fun _ H1 => RB X rest D σ H1) (hs : swapsWith e none pos.line X.env = pure false := by rfl) : RB X (.Expr e pos :: rest) D σ H := ⟨_, pss_cons (ps_expr re_ hs) rb_, h⟩
theorem rb_expr (h : XD X M σ H e d) (k : ∀ H1, Same H H1 → RB X rest D σ H1) (hs : swapsWith e none pos.line X.env = pure false := by rfl) : RB X (.Expr e pos :: rest) D σ H := rb_exprR (h H (Same.refl H) _ fun _ H1 s _ => k H1 s) hs
theorem rb_ifR {t f : List Stmt} (h : RT X c σ H fun k H1 => if k = true then RB X t { D with nx := RB X rest D } σ H1 else RB X f { D with nx := RB X rest D } σ H1) : RB X (.If c t f pos :: rest) D σ H := ⟨_, pss_cons (ps_if rt_ rb_ rb_) rb_, h⟩
theorem rb_if {k : Bool} {t f : List Stmt} (h : XT X σ H c k) (hT : k = true → ∀ H1, Same H H1 → RB X t { D with nx := RB X rest D } σ H1) (hF : k = false → ∀ H1, Same H H1 → RB X f { D with nx := RB X rest D } σ H1) : RB X (.If c t f pos :: rest) D σ H :=
  rb_ifR (h H (Same.refl H) _ fun H1 s => by
    cases k with
    | true => exact iteT (hT rfl H1 s)
    | false => exact iteF (hF rfl H1 s))
/-- if c: .. (no else) with c false -/
theorem rb_ifF {t : List Stmt} (h : XT X σ H c false) (k : ∀ H1, Same H H1 → RB X rest D σ H1) : RB X (.If c t [] pos :: rest) D σ H := rb_if h (fun z => Bool.noConfusion z) fun _ H1 s => rb_nil (k H1 s)
theorem rb_ifT {t f : List Stmt} (h : XT X σ H c true) (k : ∀ H1, Same H H1 → RB X t { D with nx := RB X rest D } σ H1) : RB X (.If c t f pos :: rest) D σ H := rb_if h (fun _ => k) fun z => Bool.noConfusion z
theorem rb_par (i j : Nat) {x y : Str} {px py pt : Pos} {kt k2 pt2} (ha : XA X M σ H [a, b] [d1, d2]) (k : ∀ v w H1, Same H H1 → Dq X.K (hid M H1) v d1 → Dq X.K (hid M H1) w d2 → RB X rest D ((σ.set i (some v)).set j (some w)) H1) (hN : X.N.Nodup)
    (hw : swappedStores [.Tuple [.Name x px, .Name y py] kt pt] (.Tuple [a, b] k2 pt2) X.env = pure (some [x, y]) := by rfl) (hc : X.calm = true := by rfl) (hi : X.N[i]? = some x := by rfl) (hj : X.N[j]? = some y := by rfl) (hij : i ≠ j := by decide)
    (hx : X.env.scope.names.lookup x = some .local := by rfl) (hy : X.env.scope.names.lookup y = some .local := by rfl)
    (hs : swapsWithSole [.Tuple [.Name x px, .Name y py] kt pt] (.Tuple [a, b] k2 pt2) pos.line X.env = pure false := by rfl) : RB X (.Assign [.Tuple [.Name x px, .Name y py] kt pt] (.Tuple [a, b] k2 pt2) pos :: rest) D σ H :=
  ⟨_, pss_cons (ps_par hc hN hi hj hij hx hy ra_ hw hs) rb_, ha H (Same.refl H) _ fun vs H1 s hv => by
    cases hv with
    | cons h1 h2 => cases h2 with
      | cons h2 h3 => cases h3; exact ⟨_, _, rfl, k _ _ H1 s h1 h2⟩⟩
/-- targets: a name; names of a tuple -/
def RG (X : Cx) (tg : Expr) : TG := fun v σ H Q => ∃ g, PG X tg g ∧ g v σ H Q
theorem rg_ {tg : Expr} : PG X tg (RG X tg) := ⟨fun pins s σ H v u Q I r ⟨_, h, q⟩ => h.run pins s σ H v u Q I r q⟩
def RGs (X : Cx) (tg : List Expr) : TGs := fun v σ H Q => ∃ g, PGs X tg g ∧ g v σ H Q
theorem rgs_ {tg : List Expr} : PGs X tg (RGs X tg) := ⟨fun pins s σ H v u Q I r ⟨_, h, q⟩ => h.run pins s σ H v u Q I r q⟩
theorem rg_name (i : Nat) {x : Str} {Q : L2.St → Hp → Prop} (q : Q (σ.set i (some v)) H) (hN : X.N.Nodup) (hi : X.N[i]? = some x := by rfl) (hx : Loc X.env.scope x := by first | exact Or.inl rfl | exact Or.inr rfl) (hf : X.fn x = true ∨ X.env.scope.names.lookup x = some .local := by first | exact .inl rfl | exact .inr rfl) :
    RG X (.Name x pos) v σ H Q := ⟨_, pg_name hN hi hx hf, q⟩
theorem rgs_nil {Q : L2.St → Hp → Prop} (q : Q σ H) : RGs X [] [] σ H Q := ⟨_, pgs_nil, rfl, q⟩
theorem rgs_cons {tg : Expr} {tgs : List Expr} {vs : List V} {Q : L2.St → Hp → Prop} (h : RG X tg v σ H fun σ1 H1 => RGs X tgs vs σ1 H1 Q) (hs : (assignEach (tg :: tgs) X.env).map (·.2) = assign tg X.env :: (assignEach tgs X.env).map (·.2) := by rfl) : RGs X (tg :: tgs) (v :: vs) σ H Q :=
  ⟨_, pgs_cons rg_ rgs_ hs, v, vs, rfl, h⟩
theorem rg_tup {tgs : List Expr} {k : Nat} {xs : List V} {p : Addr} {Q : L2.St → Hp → Prop} (hT : SqT X.K H p xs) (h : RGs X tgs xs σ H Q) (hc : X.calm = true := by rfl)
    (hn : (assignEach tgs X.env).length = xs.length := by rfl) (hst : (assignEach tgs X.env).findIdx? (·.1) = none := by rfl) : RG X (.Tuple tgs k pos) (.ref p) σ H Q := ⟨_, pg_tup (n := xs.length) hc rgs_ hn hst, p, xs, rfl, hT, rfl, h⟩
theorem rb_asgR {tg : Expr} (h : RE X e σ H fun v H1 => RG X tg v σ H1 (RB X rest D)) (hs : swapsWithSole [tg] e pos.line X.env = pure false := by rfl) (hw : swappedStores [tg] e X.env = pure none := by rfl)
    (h1 : (assignEach [tg] X.env).map (·.2) = [assign tg X.env] := by rfl) : RB X (.Assign [tg] e pos :: rest) D σ H := ⟨_, pss_cons (ps_asg re_ rg_ hs hw h1) rb_, h⟩
/-! ### calls of built-ins -/
theorem re_B {id : String} {r : List V → Hp → VK → Prop} {Q : VK} (hc : CallR X (.builtin id) r) (h : RA X (e :: es) σ H fun vs H1 => r vs H1 Q) (hm : X.mg x = none) (hv : bootBuiltins x = some (.builtin id)) (hg : Gl X x := by rfl) (hn : x ≠ "__name__" := by decide) (hdb : (x == ("__debug__" : Str)) = false := by decide)
    (he : starEach (e :: es) X.env = (false, eval e X.env) :: starEach es X.env := by rfl) (hpl : (backTo pos (starEach es X.env)).any (·.1) = false := by rfl) : RE X (.Call (.Name x p1) (e :: es) [] pos) σ H Q := ⟨_, pe_callB hc hg hm hv ra_ hn hdb he hpl, h⟩
theorem re_Ty {T : String} {r : List V → Hp → VK → Prop} {Q : VK} (hc : CallR X (.type T) r) (h : RA X (e :: es) σ H fun vs H1 => r vs H1 Q) (hm : X.mg x = none) (hv : bootBuiltins x = some (.type T)) (hg : Gl X x := by rfl) (hn : x ≠ "__name__" := by decide) (hdb : (x == ("__debug__" : Str)) = false := by decide)
    (he : starEach (e :: es) X.env = (false, eval e X.env) :: starEach es X.env := by rfl) (hpl : (backTo pos (starEach es X.env)).any (·.1) = false := by rfl) : RE X (.Call (.Name x p1) (e :: es) [] pos) σ H Q := ⟨_, pe_callTy hc hg hm hv ra_ hn hdb he hpl, h⟩
theorem ra_nil {Q : List V → Hp → Prop} (q : Q [] H) : RA X [] σ H Q := ⟨_, pa_nil, q⟩
theorem ra_cons {Q : List V → Hp → Prop} (h : RE X e σ H fun v H1 => RA X es σ H1 fun vs H2 => Q (v :: vs) H2) (hs : starEach (e :: es) X.env = (false, eval e X.env) :: starEach es X.env := by rfl) : RA X (e :: es) σ H Q := ⟨_, pa_cons re_ ra_ hs, h⟩
end
end Dl

set_option Elab.async false
set_option linter.all false
set_option maxRecDepth 100000
set_option maxHeartbeats 4000000
/-! Data layer, part 3: built-ins, subscripts, lists, loops, comprehensions. -/
namespace Dl
open PySem PySem.Spec PyProof.Rows L2
section
variable {X : Cx} {M : List Addr} {σ : L2.St} {H H' : Hp} {e a b c o : Expr} {es : List Expr} {d d1 d2 : PyData} {ds ds2 es' : List PyData} {x : Str} {v : V} {pos p1 p2 p3 : Pos} {D : Ends} {rest sts : List Stmt} {st : Stmt}
theorem re_mono {Q Q' : VK} (h : RE X e σ H Q) (k : ∀ v H1, Q v H1 → Q' v H1) : RE X e σ H Q' := by
  obtain ⟨t, ht, q⟩ := h
  exact ⟨fun σ H Q' => ∃ Q, t σ H Q ∧ ∀ v H1, Q v H1 → Q' v H1, ⟨fun pins s σ H Q' I ⟨Q, q, k⟩ => thn (ht.run pins s σ H Q I q) fun u s' ⟨v, H1, I1, r1, q1⟩ => ⟨v, H1, I1, r1, k v H1 q1⟩⟩, Q, q, k⟩
theorem ra_mono {Q Q' : List V → Hp → Prop} (h : RA X es σ H Q) (k : ∀ v H1, Q v H1 → Q' v H1) : RA X es σ H Q' := by
  obtain ⟨t, ht, q⟩ := h
  exact ⟨fun σ H Q' => ∃ Q, t σ H Q ∧ ∀ v H1, Q v H1 → Q' v H1, ⟨fun pos pins s σ H Q' I ⟨Q, q, k⟩ => thn (ht.run pos pins s σ H Q I q) fun u s' ⟨v, H1, I1, r1, q1⟩ => ⟨v, H1, I1, r1, k v H1 q1⟩⟩, Q, q, k⟩
theorem rb_mono {D D' : Ends} (h : RB X sts D σ H) (h1 : ∀ σ H, D.nx σ H → D'.nx σ H) (h2 : ∀ v H, D.rt v H → D'.rt v H) (h3 : ∀ σ H, D.bk σ H → D'.bk σ H) (h4 : ∀ σ H, D.ct σ H → D'.ct σ H) : RB X sts D' σ H := by
  obtain ⟨t, ht, q⟩ := h
  refine ⟨fun D' σ H => ∃ D, t D σ H ∧ (∀ σ H, D.nx σ H → D'.nx σ H) ∧ (∀ v H, D.rt v H → D'.rt v H) ∧ (∀ σ H, D.bk σ H → D'.bk σ H) ∧ (∀ σ H, D.ct σ H → D'.ct σ H), ⟨fun pins s σ H D' I ⟨D, q, h1, h2, h3, h4⟩ => thn (ht.run pins s σ H D I q) fun f s' hs => ?_⟩, D, q, h1, h2, h3, h4⟩
  cases f with
  | next => obtain ⟨σ', H', I', q⟩ := hs; exact ⟨σ', H', I', h1 _ _ q⟩
  | brk => obtain ⟨σ', H', I', q⟩ := hs; exact ⟨σ', H', I', h3 _ _ q⟩
  | cont => obtain ⟨σ', H', I', q⟩ := hs; exact ⟨σ', H', I', h4 _ _ q⟩
  | ret u => obtain ⟨v, σ', H', I', r, q⟩ := hs; exact ⟨v, σ', H', I', r, h2 _ _ q⟩
theorem ra_1 {Q : List V → Hp → Prop} (h : RE X e σ H fun v H1 => Q [v] H1) (hs : starEach [e] X.env = (false, eval e X.env) :: starEach [] X.env := by rfl) : RA X [e] σ H Q := ra_cons (re_mono h fun v H1 q => ra_nil q) hs
/-- a call of a built-in whose reading asks nothing but data -/
theorem xd_B {id : String} {r : List V → Hp → VK → Prop} (hc : CallR X (.builtin id) r) (ha : XA X M σ H (e :: es) ds)
    (hr : ∀ H1 vs, Same H H1 → DqAll X.K (hid M H1) vs ds → ∀ Q : VK, (∀ u H2, Same H1 H2 → Dq X.K (hid M H2) u d → Q u H2) → r vs H1 Q) (hm : X.mg x = none) (hv : bootBuiltins x = some (.builtin id)) (hg : Gl X x := by rfl) (hn : x ≠ "__name__" := by decide) (hdb : (x == ("__debug__" : Str)) = false := by decide)
    (he : starEach (e :: es) X.env = (false, eval e X.env) :: starEach es X.env := by rfl) (hpl : (backTo pos (starEach es X.env)).any (·.1) = false := by rfl) : XD X M σ H (.Call (.Name x p1) (e :: es) [] pos) d := fun H1 s Q q =>
  re_B hc (ha H1 s _ fun vs H2 s2 hvs => hr H2 vs (s.trans s2) hvs Q fun u H3 s3 hu => q u H3 (s2.trans s3) hu) hm hv hg hn hdb he hpl
theorem xd_len (hm : X.mg "len" = none) (ha : XD X M σ H e (.list ds)) (hg : Gl X "len" := by rfl) (he : starEach [e] X.env = (false, eval e X.env) :: starEach [] X.env := by rfl) (hpl : (backTo pos (starEach [] X.env)).any (·.1) = false := by rfl) :
    XD X M σ H (.Call (.Name "len" p1) [e] [] pos) (.int ds.length) :=
  xd_B call_len_seq (xa_cons ha xa_nil he) (fun H1 vs s h Q q => by
    cases h with
    | cons h1 h2 =>
      cases h2
      obtain ⟨p, xs, rfl, hp, hx⟩ := dp_lst h1
      exact ⟨p, xs, rfl, .inl (SqL.of (hid_le _ _ hp)), by rw [dpa_len hx]; exact q _ _ (Same.refl _) (.int _)⟩) hm PySem.boot_len hg (by decide) (by decide) he hpl
theorem xd_lenT (hm : X.mg "len" = none) (ha : XD X M σ H e (.tuple ds)) (hg : Gl X "len" := by rfl) (he : starEach [e] X.env = (false, eval e X.env) :: starEach [] X.env := by rfl) (hpl : (backTo pos (starEach [] X.env)).any (·.1) = false := by rfl) :
    XD X M σ H (.Call (.Name "len" p1) [e] [] pos) (.int ds.length) :=
  xd_B call_len_seq (xa_cons ha xa_nil he) (fun H1 vs s h Q q => by
    cases h with
    | cons h1 h2 =>
      cases h2
      obtain ⟨p, xs, rfl, hp, hx⟩ := dp_tup h1
      exact ⟨p, xs, rfl, .inr (same_seqT hid_le hp), by rw [dpa_len hx]; exact q _ _ (Same.refl _) (.int _)⟩) hm PySem.boot_len hg (by decide) (by decide) he hpl
theorem xd_abs {n : Int} (hm : X.mg "abs" = none) (ha : XD X M σ H e (.int n)) (hg : Gl X "abs" := by rfl) (he : starEach [e] X.env = (false, eval e X.env) :: starEach [] X.env := by rfl) (hpl : (backTo pos (starEach [] X.env)).any (·.1) = false := by rfl) :
    XD X M σ H (.Call (.Name "abs" p1) [e] [] pos) (.int (if n < 0 then -n else n)) :=
  xd_B call_abs (xa_cons ha xa_nil he) (fun H1 vs s h Q q => by
    cases h with
    | cons h1 h2 => cases h2; exact ⟨n, by rw [dp_int h1], q _ _ (Same.refl _) (.int _)⟩) hm (by decide +kernel) hg (by decide) (by decide) he hpl
theorem xd_max {m n : Int} (hm : X.mg "max" = none) (ha : XA X M σ H [a, b] [.int m, .int n]) (hc : X.calm = true := by rfl) (hg : Gl X "max" := by rfl) (he : starEach [a, b] X.env = (false, eval a X.env) :: starEach [b] X.env := by rfl) (hpl : (backTo pos (starEach [b] X.env)).any (·.1) = false := by rfl) :
    XD X M σ H (.Call (.Name "max" p1) [a, b] [] pos) (.int (if n > m then n else m)) :=
  xd_B (call_max2 hc) ha (fun H1 vs s h Q q => by
    cases h with
    | cons h1 h2 => cases h2 with
      | cons h2 h3 => cases h3; exact ⟨m, n, by rw [dp_int h1, dp_int h2], q _ _ (Same.refl _) (.int _)⟩) hm (by decide +kernel) hg (by decide) (by decide) he hpl
theorem xd_min {m n : Int} (hm : X.mg "min" = none) (ha : XA X M σ H [a, b] [.int m, .int n]) (hc : X.calm = true := by rfl) (hg : Gl X "min" := by rfl) (he : starEach [a, b] X.env = (false, eval a X.env) :: starEach [b] X.env := by rfl) (hpl : (backTo pos (starEach [b] X.env)).any (·.1) = false := by rfl) :
    XD X M σ H (.Call (.Name "min" p1) [a, b] [] pos) (.int (if n < m then n else m)) :=
  xd_B (call_min2 hc) ha (fun H1 vs s h Q q => by
    cases h with
    | cons h1 h2 => cases h2 with
      | cons h2 h3 => cases h3; exact ⟨m, n, by rw [dp_int h1, dp_int h2], q _ _ (Same.refl _) (.int _)⟩) hm (by decide +kernel) hg (by decide) (by decide) he hpl
/-- list(x) of a list, of a tuple -/
theorem xl_listT (hm : X.mg "list" = none) (L : Live M H) (ha : XD X M σ H e (.tuple ds)) (hg : Gl X "list" := by rfl) (he : starEach [e] X.env = (false, eval e X.env) :: starEach [] X.env := by rfl) (hpl : (backTo pos (starEach [] X.env)).any (·.1) = false := by rfl) :
    XL X M σ H (.Call (.Name "list" p1) [e] [] pos) ds := fun H1 s Q q =>
  re_Ty call_list_of (ra_1 (ha H1 s _ fun v H2 s2 hv => by
    obtain ⟨p, xs, rfl, hp, hx⟩ := dp_tup hv
    refine ⟨p, xs, rfl, .inr (same_seqT hid_le hp), fun l hl => q l xs _ (s2.trans (same_new hl)) (s2.free hl) upd_same ?_⟩
    rw [hid_new (L.mono (s.trans s2)) hl]
    exact hx.up (same_new (hid_free hl))) he) hm (by decide +kernel) hg (by decide) (by decide) he hpl
theorem xl_listL (hm : X.mg "list" = none) (L : Live M H) (ha : XD X M σ H e (.list ds)) (hg : Gl X "list" := by rfl) (he : starEach [e] X.env = (false, eval e X.env) :: starEach [] X.env := by rfl) (hpl : (backTo pos (starEach [] X.env)).any (·.1) = false := by rfl) :
    XL X M σ H (.Call (.Name "list" p1) [e] [] pos) ds := fun H1 s Q q =>
  re_Ty call_list_of (ra_1 (ha H1 s _ fun v H2 s2 hv => by
    obtain ⟨p, xs, rfl, hp, hx⟩ := dp_lst hv
    refine ⟨p, xs, rfl, .inl (SqL.of (hid_le _ _ hp)), fun l hl => q l xs _ (s2.trans (same_new hl)) (s2.free hl) upd_same ?_⟩
    rw [hid_new (L.mono (s.trans s2)) hl]
    exact hx.up (same_new (hid_free hl))) he) hm (by decide +kernel) hg (by decide) (by decide) he hpl
/-- tuple(x) of a list -/
theorem xd_tupleL (hm : X.mg "tuple" = none) (L : Live M H) (ha : XD X M σ H e (.list ds)) (hg : Gl X "tuple" := by rfl) (he : starEach [e] X.env = (false, eval e X.env) :: starEach [] X.env := by rfl) (hpl : (backTo pos (starEach [] X.env)).any (·.1) = false := by rfl) :
    XD X M σ H (.Call (.Name "tuple" p1) [e] [] pos) (.tuple ds) := fun H1 s Q q =>
  re_Ty call_tuple_of (ra_1 (ha H1 s _ fun v H2 s2 hv => by
    obtain ⟨p, xs, rfl, hp, hx⟩ := dp_lst hv
    refine ⟨p, xs, rfl, .inl ⟨SqL.of (hid_le _ _ hp), fun l hl => q _ _ (s2.trans (same_new hl)) ?_⟩⟩
    rw [hid_new (L.mono (s.trans s2)) hl]
    exact .tup (SqT.of upd_same) (hx.up (same_new (hid_free hl)))) he) hm (by decide +kernel) hg (by decide) (by decide) he hpl
theorem xd_intB {k : Bool} (hm : X.mg "int" = none) (ha : XD X M σ H e (.bool k)) (hg : Gl X "int" := by rfl) (he : starEach [e] X.env = (false, eval e X.env) :: starEach [] X.env := by rfl) (hpl : (backTo pos (starEach [] X.env)).any (·.1) = false := by rfl) :
    XD X M σ H (.Call (.Name "int" p1) [e] [] pos) (.int (if k then 1 else 0)) := fun H1 s Q q =>
  re_Ty call_int1 (ra_1 (ha H1 s _ fun v H2 s2 hv => .inr ⟨k, by rw [dp_bl hv], q _ _ s2 (.int _)⟩) he) hm (by decide +kernel) hg (by decide) (by decide) he hpl
/-! ### subscripts -/
theorem atI_map {α β : Type} {xs : List α} {ys : List β} {P : α → β → Prop} (hl : xs.length = ys.length) (hg : ∀ (i : Nat) (y : β), ys[i]? = some y → ∃ x, xs[i]? = some x ∧ P x y) {n : Int} {y : β} (h : atI ys n = some y) : ∃ x, atI xs n = some x ∧ P x y := by
  unfold atI at h ⊢
  rw [hl]
  cases e : ixN ys.length n with
  | none => rw [e] at h; cases h
  | some j =>
    rw [e] at h
    exact hg j y h
theorem xd_ixL {n : Int} (hs : PlainIx b) (ha : XD X M σ H a (.list ds)) (hb : XD X M σ H b (.int n)) (h : atI ds n = some d) : XD X M σ H (.Subscript a b pos) d := fun H1 s Q q =>
  ⟨_, pe_ix ix_list re_ re_ hs, ha H1 s _ fun v H2 s2 hv => hb H2 (s.trans s2) _ fun w H3 s3 hw => by
    obtain ⟨p, xs, rfl, hp, hx⟩ := dp_lst (hv.up (hid_mono s3))
    obtain ⟨u, hu, hd⟩ := atI_map (dpa_len hx) (fun i y h => dpa_get hx h) h
    exact ⟨p, xs, n, u, rfl, dp_int hw, SqL.of (hid_le _ _ hp), hu, q u H3 (s2.trans s3) hd⟩⟩
theorem xd_ixT {n : Int} (hs : PlainIx b) (ha : XD X M σ H a (.tuple ds)) (hb : XD X M σ H b (.int n)) (h : atI ds n = some d) : XD X M σ H (.Subscript a b pos) d := fun H1 s Q q =>
  ⟨_, pe_ix ix_tup re_ re_ hs, ha H1 s _ fun v H2 s2 hv => hb H2 (s.trans s2) _ fun w H3 s3 hw => by
    obtain ⟨p, xs, rfl, hp, hx⟩ := dp_tup (hv.up (hid_mono s3))
    obtain ⟨u, hu, hd⟩ := atI_map (dpa_len hx) (fun i y h => dpa_get hx h) h
    exact ⟨p, xs, n, u, rfl, dp_int hw, same_seqT hid_le hp, hu, q u H3 (s2.trans s3) hd⟩⟩
/-- xs[lo:hi] of a list -/
def XO (X : Cx) (σ : L2.St) (H : Hp) (e : Option Expr) (n : Option Int) : Prop := ∀ H1, Same H H1 → ∀ Q : Option Int → Hp → Prop, (∀ H2, Same H1 H2 → Q n H2) → ∃ t, PO X e t ∧ t σ H1 Q
theorem xo_none : XO X σ H none none := fun H1 s Q q => ⟨_, po_none, q H1 (Same.refl _)⟩
theorem xo_some {n : Int} (h : XD X M σ H e (.int n)) : XO X σ H (some e) (some n) := fun H1 s Q q => ⟨_, po_some re_, h H1 s _ fun v H2 s2 hv => ⟨n, dp_int hv, q H2 s2⟩⟩
def cutD (xs : List PyData) (lo hi : Option Int) : List PyData := (xs.drop (HT.sIx xs.length 0 lo)).take (HT.sIx xs.length xs.length hi - HT.sIx xs.length 0 lo)
def RO (X : Cx) (e : Option Expr) : L2.St → Hp → (Option Int → Hp → Prop) → Prop := fun σ H Q => ∃ t, PO X e t ∧ t σ H Q
theorem ro_ {e : Option Expr} : PO X e (RO X e) := ⟨fun pins s σ H Q I ⟨_, h, q⟩ => h.run pins s σ H Q I q⟩
theorem xl_cut {lo hi : Option Expr} {m n : Option Int} (L : Live M H) (ha : XD X M σ H a (.list ds)) (hl : XO X σ H lo m) (hu : XO X σ H hi n) : XL X M σ H (.Subscript a (.Slice lo hi none p2) pos) (cutD ds m n) := fun H1 s Q q =>
  ⟨_, pe_slice sl_list re_ ro_ ro_, ha H1 s _ fun v H2 s2 hv => hl H2 (s.trans s2) _ fun H3 s3 => hu H3 ((s.trans s2).trans s3) _ fun H4 s4 => by
    obtain ⟨p, xs, rfl, hp, hx⟩ := dp_lst (hv.up (hid_mono (s3.trans s4)))
    refine ⟨p, xs, rfl, SqL.of (hid_le _ _ hp), fun l hl => q l _ _ ((s2.trans (s3.trans s4)).trans (same_new hl)) ((s2.trans (s3.trans s4)).free hl) upd_same ?_⟩
    rw [hid_new (L.mono (s.trans (s2.trans (s3.trans s4)))) hl]
    have hz := dpa_len hx
    unfold cutV cutD
    rw [hz]
    exact (dpa_take _ (dpa_drop _ hx)).up (same_new (hid_free hl))⟩
/-! ### lists -/
theorem xl_cat (L : Live M H) (ha : XD X M σ H a (.list ds)) (hb : XD X M σ H b (.list ds2)) (hz : ds.length + ds2.length ≤ 100000) : XL X M σ H (.BinOp a .Add b pos) (ds ++ ds2) := fun H1 s Q q =>
  ⟨_, pe_op op_cat re_ re_, ha H1 s _ fun v H2 s2 hv => hb H2 (s.trans s2) _ fun w H3 s3 hw => by
    obtain ⟨p, xs, rfl, hp, hx⟩ := dp_lst (hv.up (hid_mono s3))
    obtain ⟨p', ys, rfl, hp', hy⟩ := dp_lst hw
    refine ⟨p, p', xs, ys, rfl, rfl, hid_le _ _ hp, hid_le _ _ hp', by rw [dpa_len hx, dpa_len hy]; exact small_sz hz, fun l hl => q l _ _ ((s2.trans s3).trans (same_new hl)) ((s2.trans s3).free hl) upd_same ?_⟩
    rw [hid_new (L.mono ((s.trans s2).trans s3)) hl]
    exact (dpa_app hx hy).up (same_new (hid_free hl))⟩
/-- l.append(e), l one of M's lists -/
theorem rb_append {l : Addr} {xs : List V} (hl : l ∈ M) (ho : XV X σ H o (.ref l)) (h1 : H l = some (.lst xs)) (he : XD X M σ H e d) (hz : xs.length < 100000) (k : ∀ v H1, Same H H1 → Dq X.K (hid M H1) v d → RB X rest D σ (upd H1 l (.lst (xs ++ [v]))))
    (hbase : attributeBase o "append" X.env (eval o X.env) = eval o X.env := by rfl)
    (hfew : ((backTo p2 (starEach [e] X.env)).all (fun x => !x.1) && (backToKw p2 (keywordEach [] X.env)).all (fun x => x.1.isSome) && decide ([e].length + ([] : List Keyword).length + (if ([] : List Keyword).isEmpty then 0 else 1) < 30)) = true := by rfl)
    (hline : (p1.endLine == p2.line) = true := by rfl) (hs : starEach [e] X.env = (false, eval e X.env) :: starEach [] X.env := by rfl) (hplain : (backTo p2 (starEach [] X.env)).any (·.1) = false := by rfl)
    (hsw : swapsWith (.Call (.Attribute o "append" p1) [e] [] p2) none pos.line X.env = pure false := by rfl) : RB X (.Expr (.Call (.Attribute o "append" p1) [e] [] p2) pos :: rest) D σ H :=
  rb_exprR ⟨_, pe_bm PySem.F.plainAttrs_list PySem.F.slot_list_append PySem.F.type_list_append mt_append re_ ra_ hbase hfew hline hs hplain,
    ho H (Same.refl H) _ fun H1 s1 => ⟨.inl ⟨rfl, xs, SqL.of (s1 _ _ h1)⟩, ra_1 (he H1 s1 _ fun v H2 s2 hv => ⟨l, xs, v, rfl, rfl, (s1.trans s2) _ _ h1, Nat.lt_of_lt_of_le hz (by decide), k v H2 (s1.trans s2) hv⟩) hs⟩⟩ hsw
/-- l.extend(e) -/
theorem rb_extend {l : Addr} {xs : List V} (hl : l ∈ M) (ho : XV X σ H o (.ref l)) (h1 : H l = some (.lst xs)) (he : XD X M σ H e (.list ds)) (hz : xs.length + ds.length ≤ 100000) (k : ∀ vs H1, Same H H1 → DqAll X.K (hid M H1) vs ds → RB X rest D σ (upd H1 l (.lst (xs ++ vs))))
    (hbase : attributeBase o "extend" X.env (eval o X.env) = eval o X.env := by rfl)
    (hfew : ((backTo p2 (starEach [e] X.env)).all (fun x => !x.1) && (backToKw p2 (keywordEach [] X.env)).all (fun x => x.1.isSome) && decide ([e].length + ([] : List Keyword).length + (if ([] : List Keyword).isEmpty then 0 else 1) < 30)) = true := by rfl)
    (hline : (p1.endLine == p2.line) = true := by rfl) (hs : starEach [e] X.env = (false, eval e X.env) :: starEach [] X.env := by rfl) (hplain : (backTo p2 (starEach [] X.env)).any (·.1) = false := by rfl)
    (hsw : swapsWith (.Call (.Attribute o "extend" p1) [e] [] p2) none pos.line X.env = pure false := by rfl) : RB X (.Expr (.Call (.Attribute o "extend" p1) [e] [] p2) pos :: rest) D σ H :=
  rb_exprR ⟨_, pe_bm PySem.F.plainAttrs_list PySem.F.slot_list_extend PySem.F.type_list_extend mt_extend re_ ra_ hbase hfew hline hs hplain,
    ho H (Same.refl H) _ fun H1 s1 => ⟨.inl ⟨rfl, xs, SqL.of (s1 _ _ h1)⟩, ra_1 (he H1 s1 _ fun v H2 s2 hv => by
      obtain ⟨b, ys, rfl, hb, hy⟩ := dp_lst hv
      exact ⟨l, b, xs, ys, rfl, rfl, (s1.trans s2) _ _ h1, hid_le _ _ hb, by rw [dpa_len hy]; exact small_sz hz, k ys H2 (s1.trans s2) hy⟩) hs⟩⟩ hsw
/-! ### loops -/
/-- for tg in e: .., e a list; Pv: by the turn; the known part must stand -/
theorem rb_for {tg : Expr} {body : List Stmt} (hit : XD X M σ H e (.list ds))
    (h : ∀ H1, Same H H1 → ∃ Pv : Nat → L2.St → Hp → Prop, Pv 0 σ H1 ∧ (∀ k σ' H', Pv k σ' H' → Same (hid M H1) (hid M H')) ∧
      (∀ k d, ds[k]? = some d → ∀ σ' H' v, Pv k σ' H' → Dq X.K (hid M H') v d → RG X tg v σ' H' fun σ2 H2 => RB X body { D with nx := Pv (k + 1), ct := Pv (k + 1), bk := RB X rest D } σ2 H2) ∧ ∀ σ' H', Pv ds.length σ' H' → RB X rest D σ' H')
    (hp : PassesOwn (model X.prog X.w) X.A X.env X.xe := by exact PassesOwn.never) (hc : X.calm = true := by rfl) (hs : ∀ x, foldedSetIterable e X.env x = pure x := by intro _; rfl) : RB X (.For tg e body [] pos :: rest) D σ H :=
  ⟨_, pss_cons (ps_for hp hc (pi_list re_) rg_ rb_ hs) rb_, hit H (Same.refl H) _ fun v H1 s1 hv => by
    obtain ⟨a, xs, rfl, ha, hx⟩ := dp_lst hv
    obtain ⟨Pv, h0, hk, hst, hd⟩ := h H1 s1
    refine ⟨a, rfl, ⟨xs, SqL.of (hid_le _ _ ha)⟩, for_list (xs := xs) Pv h0 (fun i σ' H' _ p => SqL.of (hid_le _ _ (hk i σ' H' p _ _ ha))) (fun i x σ' H' hi p => ?_) (by rw [dpa_len hx]; exact hd)⟩
    obtain ⟨d, h1, h2⟩ := dpa_get' hx hi
    exact hst i d h1 σ' H' x p (h2.up (hk i σ' H' p))⟩
theorem rb_forT {tg : Expr} {body : List Stmt} (hit : XD X M σ H e (.tuple ds))
    (h : ∀ H1, Same H H1 → ∃ Pv : Nat → L2.St → Hp → Prop, Pv 0 σ H1 ∧ (∀ k σ' H', Pv k σ' H' → Same (hid M H1) (hid M H')) ∧
      (∀ k d, ds[k]? = some d → ∀ σ' H' v, Pv k σ' H' → Dq X.K (hid M H') v d → RG X tg v σ' H' fun σ2 H2 => RB X body { D with nx := Pv (k + 1), ct := Pv (k + 1), bk := RB X rest D } σ2 H2) ∧ ∀ σ' H', Pv ds.length σ' H' → RB X rest D σ' H')
    (hp : PassesOwn (model X.prog X.w) X.A X.env X.xe := by exact PassesOwn.never) (hc : X.calm = true := by rfl) (hs : ∀ x, foldedSetIterable e X.env x = pure x := by intro _; rfl) : RB X (.For tg e body [] pos :: rest) D σ H :=
  ⟨_, pss_cons (ps_for hp hc (pi_tup re_) rg_ rb_ hs) rb_, hit H (Same.refl H) _ fun v H1 s1 hv => by
    obtain ⟨a, xs, rfl, ha, hx⟩ := dp_tup hv
    obtain ⟨Pv, h0, hk, hst, hd⟩ := h H1 s1
    refine ⟨a, rfl, ⟨xs, same_seqT hid_le ha⟩, for_tup (xs := xs) Pv h0 (fun i σ' H' _ p => same_seqT hid_le (same_seqT (hk i σ' H' p) ha)) (fun i x σ' H' hi p => ?_) (by rw [dpa_len hx]; exact hd)⟩
    obtain ⟨d, h1, h2⟩ := dpa_get' hx hi
    exact hst i d h1 σ' H' x p (h2.up (hk i σ' H' p))⟩
/-- for tg in range(e): .. -/
theorem rb_range {tg : Expr} {body : List Stmt} (hm : X.mg "range" = none) (hit : RE X e σ H fun v H1 => ∃ n : Nat, v = .int (n : Int) ∧ n < 2 ^ 61 ∧ ∃ Pv : Nat → L2.St → Hp → Prop, Pv 0 σ H1 ∧
      (∀ k σ' H', k < n → Pv k σ' H' → RG X tg (.int (k : Int)) σ' H' fun σ2 H2 => RB X body { D with nx := Pv (k + 1), ct := Pv (k + 1), bk := RB X rest D } σ2 H2) ∧ ∀ σ' H', Pv n σ' H' → RB X rest D σ' H')
    (hg : Gl X "range" := by rfl) (he : starEach [e] X.env = [(false, eval e X.env)] := by rfl) (hp : PassesOwn (model X.prog X.w) X.A X.env X.xe := by exact PassesOwn.never) (hc : X.calm = true := by rfl)
    (hs : ∀ x, foldedSetIterable (.Call (.Name "range" p1) [e] [] p2) X.env x = pure x := by intro _; rfl) : RB X (.For tg (.Call (.Name "range" p1) [e] [] p2) body [] pos :: rest) D σ H :=
  ⟨_, pss_cons (ps_for hp hc (pi_range1 hg hm ra_ he) rg_ rb_ hs) rb_, ra_1 (re_mono hit fun v H1 ⟨n, ev, hn, Pv, h0, hst, hd⟩ => by
    refine ⟨(n : Int), by rw [ev], by omega, by omega, ?_⟩
    rw [Int.toNat_natCast]
    refine for_range Pv h0 (fun i σ' H' hi p => ?_) hd
    rw [Int.zero_add]
    exact hst i σ' H' hi p) he⟩
end
/-! ### comprehensions -/
/-- what is read within a comprehension -/
def BE (X : Cx) (scope : Scope) (e : Expr) : TE := fun σ H Q => ∀ (s : Shared) (H0 : Hp) (C : Addr) (cl : List (Str × Addr)) (fp : List Addr), RE (X.blk s H0 scope (compEnvC scope cl C X.env) fp) e σ H Q
def BG (X : Cx) (scope : Scope) (e : Expr) : TG := fun v σ H Q => ∀ (s : Shared) (H0 : Hp) (C : Addr) (cl : List (Str × Addr)) (fp : List Addr), RG (X.blk s H0 scope (compEnvC scope cl C X.env) fp) e v σ H Q
def BT (X : Cx) (scope : Scope) (es : List Expr) : TT := fun σ H Q => ∀ (s : Shared) (H0 : Hp) (C : Addr) (cl : List (Str × Addr)) (fp : List Addr), ∃ t, PTs (X.blk s H0 scope (compEnvC scope cl C X.env) fp) es t ∧ t σ H Q
section
variable {X : Cx} {M : List Addr} {σ : L2.St} {H H' : Hp} {e a b c o elt tg iter : Expr} {ifs : List Expr} {scope : Scope} {own : List (Str × Nat)} {es : List Expr} {d d1 d2 : PyData} {ds ds2 es' : List PyData} {x : Str} {v : V} {pos p1 p2 p3 : Pos}
theorem be_ {s : Shared} {H0 : Hp} {C : Addr} {cl : List (Str × Addr)} {fp : List Addr} : PE (X.blk s H0 scope (compEnvC scope cl C X.env) fp) e (BE X scope e) := ⟨fun pins s' σ H Q I h => by
  obtain ⟨_, ht, q⟩ := h s H0 C cl fp
  exact ht.run pins s' σ H Q I q⟩
theorem bg_ {s : Shared} {H0 : Hp} {C : Addr} {cl : List (Str × Addr)} {fp : List Addr} : PG (X.blk s H0 scope (compEnvC scope cl C X.env) fp) e (BG X scope e) := ⟨fun pins s' σ H v u Q I r h => by
  obtain ⟨_, ht, q⟩ := h s H0 C cl fp
  exact ht.run pins s' σ H v u Q I r q⟩
theorem bt_ {s : Shared} {H0 : Hp} {C : Addr} {cl : List (Str × Addr)} {fp : List Addr} : PTs (X.blk s H0 scope (compEnvC scope cl C X.env) fp) es (BT X scope es) := ⟨fun pins s' σ H Q I h => by
  obtain ⟨_, ht, q⟩ := h s H0 C cl fp
  exact ht.run pins s' σ H Q I q⟩
theorem bt_nil {Q : Bool → Hp → Prop} (q : Q true H) : BT X scope [] σ H Q := fun _ _ _ _ _ => ⟨_, pts_nil, q⟩
theorem bt_one {k : Bool} {Q : Bool → Hp → Prop} (h : ∀ (s : Shared) (H0 : Hp) (C : Addr) (cl : List (Str × Addr)) (fp : List Addr), XT (X.blk s H0 scope (compEnvC scope cl C X.env) fp) σ H c k) (q : ∀ H2, Same H H2 → Q k H2) : BT X scope [c] σ H Q := fun s H0 C cl fp =>
  ⟨_, pts_one rt_, h s H0 C cl fp H (Same.refl H) _ q⟩
theorem rg_mono {Q Q' : L2.St → Hp → Prop} (h : RG X tg v σ H Q) (k : ∀ σ1 H1, Q σ1 H1 → Q' σ1 H1) : RG X tg v σ H Q' := by
  obtain ⟨g, hg, q⟩ := h
  exact ⟨fun v σ H Q' => ∃ Q, g v σ H Q ∧ ∀ σ1 H1, Q σ1 H1 → Q' σ1 H1, ⟨fun pins s σ H v u Q' I r ⟨Q, q, k⟩ => thn (hg.run pins s σ H v u Q I r q) fun _ s' ⟨σ', H', I', q'⟩ => ⟨σ', H', I', k _ _ q'⟩⟩, Q, q, k⟩
theorem bg_mono {Q Q' : L2.St → Hp → Prop} (h : BG X scope tg v σ H Q) (k : ∀ σ1 H1, Q σ1 H1 → Q' σ1 H1) : BG X scope tg v σ H Q' := fun s H0 C cl fp => rg_mono (h s H0 C cl fp) k
theorem be_mono {Q Q' : VK} (h : BE X scope e σ H Q) (k : ∀ v H1, Q v H1 → Q' v H1) : BE X scope e σ H Q' := fun s H0 C cl fp => re_mono (h s H0 C cl fp) k
theorem bt_mono {Q Q' : Bool → Hp → Prop} (h : BT X scope es σ H Q) (k : ∀ v H1, Q v H1 → Q' v H1) : BT X scope es σ H Q' := fun s H0 C cl fp => by
  obtain ⟨t, ht, q⟩ := h s H0 C cl fp
  exact ⟨fun σ H Q' => ∃ Q, t σ H Q ∧ ∀ v H1, Q v H1 → Q' v H1, ⟨fun pins s σ H Q' I ⟨Q, q, k⟩ => thn (ht.run pins s σ H Q I q) fun u s' ⟨H1, I1, q1⟩ => ⟨H1, I1, k u H1 q1⟩⟩, Q, q, k⟩
theorem hid_step {p : Addr} {H1 : Hp} (hp : H p = none) (s : Same H H1) : Same (hid M H) (hid (p :: M) H1) := fun b o e => by
  have nM : b ∉ M := fun z => by unfold hid at e; rw [if_pos z] at e; cases e
  have e' := hid_le _ _ e
  have np : b ≠ p := ne_of_none e' hp
  rw [hid_of (by simp [np, nM])]
  exact s _ _ e'
theorem hid_upd_ne {p : Addr} {o : HO} {H1 : Hp} : hid (p :: M) (upd H1 p o) = hid (p :: M) H1 := hid_upd_mem (List.mem_cons_self ..)
/-- [elt for tg in iter if ..]: f gives what an item comes to, none where it is left out -/
theorem xl_comp (f : PyData → Option PyData) (L : Live M H) (hN : X.N.Nodup) (hit : XD X M σ H iter (.list ds)) (ok : BlkOk X.N X.env.scope scope own) (hz : ds.length ≤ 100000)
    (hst : ∀ p d v H1, d ∈ ds → H p = none → Same H H1 → Live (p :: M) H1 → Dq X.K (hid (p :: M) H1) v d → BG X scope tg v (wipe σ (own.map (·.2))) H1 fun σ2 H2 => wipe σ2 (own.map (·.2)) = wipe σ (own.map (·.2)) ∧ BT X scope ifs σ2 H2 fun k H3 =>
      Same H1 H3 ∧ ((k = true ∧ ∃ d', f d = some d' ∧ BE X scope elt σ2 H3 fun y H4 => Same H3 H4 ∧ Dq X.K (hid (p :: M) H4) y d') ∨ (k = false ∧ f d = none)))
    (hc : X.calm = true := by rfl) (hs : ∀ x, foldedSetIterable iter X.env x = pure x := by intro _; rfl) : XL X M σ H (.ListComp elt [⟨tg, iter, ifs, 0⟩] scope pos) (ds.filterMap f) := fun H1 s1 Q q =>
  ⟨_, pe_lc (own := own) hc hN (pi_list re_) ok (fun _ _ _ _ _ => bg_) (fun _ _ _ _ _ => bt_) (fun _ _ _ _ _ => be_) hs, hit H1 s1 _ fun v H2 s2 hv => by
    obtain ⟨a, xs, rfl, ha, hx⟩ := dp_lst hv
    have L2' : Live M H2 := L.mono (s1.trans s2)
    refine ⟨a, rfl, ⟨xs, SqL.of (hid_le _ _ ha)⟩, fun p hp => ?_⟩
    have hpM : p ∉ M := L2'.fresh hp
    have hp0 : H p = none := (s1.trans s2).free hp
    refine lc_list (xs := xs) (a := a) (fun i H' => Same H2 H' ∧ ∃ acc, H' p = some (.lst acc) ∧ DqAll X.K (hid (p :: M) H') acc ((ds.take i).filterMap f)) ⟨same_new hp, [], upd_same, by simpa using DqAll.nil⟩ (fun i H' _ w => SqL.of (w.1 _ _ (hid_le _ _ ha))) (fun i x H' hi w => ?_) (fun H' w => ?_)
    · obtain ⟨sH, acc, hacc, hda⟩ := w
      obtain ⟨d, hd1, hd2⟩ := dpa_get' hx hi
      have hdm : d ∈ ds := List.mem_of_getElem? hd1
      have etake : ds.take (i + 1) = ds.take i ++ [d] := by
        rw [List.take_add_one, hd1]; rfl
      have hlen : acc.length < sizeLine := by
        rw [dpa_len hda]
        have h1 : ((ds.take i).filterMap f).length ≤ (ds.take i).length := List.length_filterMap_le ..
        have h2 : (ds.take i).length ≤ i := by rw [List.length_take]; omega
        have h3 : i < ds.length := (List.getElem?_eq_some_iff.mp hd1).1
        have h4 : 100000 < sizeLine := by decide
        omega
      have Lp : Live (p :: M) H' := fun b hb => by
        rcases List.mem_cons.mp hb with z | hb
        · subst z; rw [hacc]; simp
        · exact L2'.mono sH b hb
      have kx : Dq X.K (hid (p :: M) H') x d := hd2.up (hid_step hp sH)
      refine bg_mono (hst p d x H' hdm hp0 ((s1.trans s2).trans sH) Lp kx) fun σ2 Ha ⟨hw, hbt⟩ => ⟨hw, bt_mono hbt fun k Hb ⟨sb, hk⟩ => ?_⟩
      have sH' : Same H' Hb := sb
      rcases hk with ⟨hk, d', hf, hbe⟩ | ⟨hk, hf⟩
      · subst hk
        refine iteT (be_mono hbe fun y Hc ⟨sc, hy⟩ => ?_)
        have sd := sH'.trans sc
        refine ⟨acc, sd _ _ hacc, hlen, fun b o e => ?_, acc ++ [y], upd_same, ?_⟩
        · have nb : b ≠ p := ne_of_none e hp
          rw [upd_ne nb]
          exact sd _ _ (sH _ _ e)
        · rw [hid_upd_ne, etake, List.filterMap_append]
          have e2 : [d].filterMap f = [d'] := by simp [hf]
          rw [e2]
          exact dpa_app (hda.up (hid_mono sd)) (.cons hy .nil)
      · subst hk
        refine iteF ⟨sH.trans sH', acc, sH' _ _ hacc, ?_⟩
        rw [etake, List.filterMap_append]
        have e2 : [d].filterMap f = [] := by simp [hf]
        rw [e2, List.append_nil]
        exact hda.up (hid_mono sH')
    · obtain ⟨sH, acc, hacc, hda⟩ := w
      have e1 : ds.take xs.length = ds := by rw [dpa_len hx]; exact List.take_length
      rw [e1] at hda
      refine q p acc H' (s2.trans sH) (s2.free hp) hacc (hda.up fun b o e => ?_)
      have n1 : b ∉ p :: M := fun z => by unfold hid at e; rw [if_pos z] at e; cases e
      rw [hid_of (fun z => n1 (List.mem_cons_of_mem _ z))]
      exact hid_le _ _ e⟩
end
end Dl

set_option Elab.async false
set_option linter.all false
set_option maxRecDepth 100000
set_option maxHeartbeats 4000000
/-! Data layer, part 4: own defs by data, calls where no repr is under way, repr, isinstance, instances. -/
namespace Dl
open PySem PySem.Spec PyProof.Rows L2
/-! ### a def by data -/
/-- arguments ds with R ds d: the data d comes back, all stands -/
def spR (K : PySem.W.Frag) (R : List PyData → PyData → Prop) : Sp := fun vs H Q _ => ∃ (M : List Addr) (ds : List PyData) (d : PyData), Live M H ∧ DqAll K (hid M H) vs ds ∧ R ds d ∧ ∀ v H1, Same H H1 → Dq K (hid M H1) v d → Q v H1
/-- .. a new list of the data es -/
def spL (K : PySem.W.Frag) (R : List PyData → List PyData → Prop) : Sp := fun vs H Q _ => ∃ (M : List Addr) (ds es : List PyData), Live M H ∧ DqAll K (hid M H) vs ds ∧ R ds es ∧ ∀ p xs H1, Same H H1 → H p = none → H1 p = some (.lst xs) → DqAll K (hid M H1) xs es → Q (.ref p) H1
section
variable {X : Cx} {M : List Addr} {σ : L2.St} {H H' : Hp} {e a b c o : Expr} {es : List Expr} {d d1 d2 : PyData} {ds ds2 es' : List PyData} {x : Str} {v : V} {pos p1 p2 p3 : Pos} {D : Ends} {rest sts : List Stmt} {st : Stmt} {k : Nat} {f C : Addr} {fd : FuncData} {ps : List Str}
theorem re_call {sp : Sp} {Q : VK} (F : FnOk X.prog X.w X.K X.mg X.base CX0 k f fd ps sp) (hr : Room k X.A) (hm : X.mg x = some (.ref f)) (hk : PySem.W.keepIn X.K (.ref f) = true) (hb : Binds X.K fd ps []) (ha : RA X (e :: es) σ H fun vs H1 => sp vs H1 Q E0) (hg : Gl X x := by rfl)
    (hdb : (x == ("__debug__" : Str)) = false := by decide) (he : starEach (e :: es) X.env = (false, eval e X.env) :: starEach es X.env := by rfl) (hpl : (backTo pos (starEach es X.env)).any (·.1) = false := by rfl) : RE X (.Call (.Name x p1) (e :: es) [] pos) σ H Q :=
  ⟨_, pe_call F hr hg hm hk hb .nil pass0 ra_ hdb he hpl, ra_mono ha fun vs H1 q => by rw [List.append_nil]; exact q⟩
theorem re_callD {sp : Sp} {Q : VK} {dvs : List V} {dl : List Value} (F : FnOk X.prog X.w X.K X.mg X.base CX0 k f fd ps sp) (hr : Room k X.A) (hm : X.mg x = some (.ref f)) (hk : PySem.W.keepIn X.K (.ref f) = true) (hb : Binds X.K fd ps dl) (hd : Vals dvs dl) (ha : RA X (e :: es) σ H fun vs H1 => sp (vs ++ dvs) H1 Q E0) (hg : Gl X x := by rfl)
    (hdb : (x == ("__debug__" : Str)) = false := by decide) (he : starEach (e :: es) X.env = (false, eval e X.env) :: starEach es X.env := by rfl) (hpl : (backTo pos (starEach es X.env)).any (·.1) = false := by rfl) : RE X (.Call (.Name x p1) (e :: es) [] pos) σ H Q :=
  ⟨_, pe_call F hr hg hm hk hb hd pass0 ra_ hdb he hpl, ha⟩
theorem xd_call {R : List PyData → PyData → Prop} (L : Live M H) (F : FnOk X.prog X.w X.K X.mg X.base CX0 k f fd ps (spR X.K R)) (hr : Room k X.A) (hm : X.mg x = some (.ref f)) (hk : PySem.W.keepIn X.K (.ref f) = true) (hb : Binds X.K fd ps []) (ha : XA X M σ H (e :: es) ds) (hR : R ds d) (hg : Gl X x := by rfl)
    (hdb : (x == ("__debug__" : Str)) = false := by decide) (he : starEach (e :: es) X.env = (false, eval e X.env) :: starEach es X.env := by rfl) (hpl : (backTo pos (starEach es X.env)).any (·.1) = false := by rfl) : XD X M σ H (.Call (.Name x p1) (e :: es) [] pos) d := fun H1 s Q q =>
  re_call F hr hm hk hb (ha H1 s _ fun vs H2 s2 hv => ⟨M, ds, d, L.mono (s.trans s2), hv, hR, fun v H3 s3 hd => q v H3 (s2.trans s3) hd⟩) hg hdb he hpl
theorem xl_call {R : List PyData → List PyData → Prop} (L : Live M H) (F : FnOk X.prog X.w X.K X.mg X.base CX0 k f fd ps (spL X.K R)) (hr : Room k X.A) (hm : X.mg x = some (.ref f)) (hk : PySem.W.keepIn X.K (.ref f) = true) (hb : Binds X.K fd ps []) (ha : XA X M σ H (e :: es) ds) (hR : R ds ds2) (hg : Gl X x := by rfl)
    (hdb : (x == ("__debug__" : Str)) = false := by decide) (he : starEach (e :: es) X.env = (false, eval e X.env) :: starEach es X.env := by rfl) (hpl : (backTo pos (starEach es X.env)).any (·.1) = false := by rfl) : XL X M σ H (.Call (.Name x p1) (e :: es) [] pos) ds2 := fun H1 s Q q =>
  re_call F hr hm hk hb (ha H1 s _ fun vs H2 s2 hv => ⟨M, ds, ds2, L.mono (s.trans s2), hv, hR, fun p xs H3 s3 hp h3 hd => q p xs H3 (s2.trans s3) (s2.free hp) h3 hd⟩) hg hdb he hpl
/-! ### a def, called where no repr is under way -/
structure FnG (P : Program) (w : World) (K : PySem.W.Frag) (mg : Str → Option Value) (base : Heap) (k : Nat) (f : Addr) (fd : FuncData) (ps : List Str) (sp : Sp) : Prop where
  len : ∀ vs H Q E, sp vs H Q E → vs.length = ps.length
  run : ∀ (A : Around), A.guards = some [] → Room k A → ∀ (outer : List Env) (s : Shared) (H : Hp) (args : Args) (us : List Value) (vs : List V) (Q : VK) (E : XK), Env0 P w K mg base A outer s H → BindsTo s fd args (ps.zip us) → Vals vs us → sp vs H Q E →
    codeAny (model P w) A (.call (.ref f) args) (CR CX0 outer P w H s Q E) s
theorem fn_g {P : Program} {w : World} {K : PySem.W.Frag} {mg : Str → Option Value} {base : Heap} {sp : Sp} {qual x : Str} {st : Stmt} {N : List Str} (F : Fun K x qual st f fd) (S : FnScope N ps (defScope st)) (len : ∀ vs H Q E, sp vs H Q E → vs.length = ps.length)
    (hbody : ∀ (cdv : Value) (A : Around) (outer : List Env) (s : Shared) (H : Hp) (vs : List V) (Q : VK) (E : XK), A.guards = some [] → Room k (A.deeper (envOfC qual (defScope st) s.heap.objs.size f cdv)) → sp vs H Q E →
      RB (cxOf CX0 P w K mg base N qual (defScope st) f cdv A outer s H E).nox (defBody st) { nx := fun _ H1 => Q .non H1, rt := Q } (start N vs) H) : FnG P w K mg base (k + 1) f fd ps sp where
  len := len
  run := fun A hA hr outer s H args us vs Q E e0 hb r hsp => by
    obtain ⟨oc, od, kV, doc, pm, an, cdv, ct, osl, hfd, lk, hcd⟩ := F.ex
    subst hfd
    have hz := len _ _ _ _ hsp
    have KX : K.In s.heap := e0.mod.kin.keeps (fun b o e => (e0.bs b o e).1)
    have nl : s.heap.NoLimit := e0.mod.nolimit.keeps (fun b o e => (e0.bs b o e).1)
    have kinds : ∀ y ∈ ps.zip us, (defScope st).names.lookup y.1 = some .local ∨ ((defScope st).names.lookup y.1 = some .cell ∧ ((cellsFrom (s.heap.objs.size + 1) (defScope st).names []).lookup y.1).isSome = true) := by
      intro y hy
      rcases S.par y.1 (List.of_mem_zip (show (y.1, y.2) ∈ ps.zip us from hy)).1 with z | z
      · exact .inl z
      · exact .inr ⟨z, PySem.W.cellsFrom_some _ _ _ (.inl z)⟩
    refine codeAny_call_function (Room.depth hr) (KX _ _ lk) rfl S.co S.gen rfl (PySem.W.codeRec_of KX hcd) (hb _ _ _ _ ?_)
    refine wpAny_newFunctionEnv_cells S.kind kinds (fun env henv s1 inc => ?_)
    subst henv
    refine ⟨nl.keeps inc.toInCall.keep, codeAny_func ?_⟩
    obtain ⟨t, ht, q⟩ := hbody cdv A outer s H vs Q E hA (hr.deeper _) hsp
    have I0 := inv_start (CX := CX0) (E := E) S hr.hd e0 hz r inc
    refine wpAny_mono (ht.nox.run [] s1 (start N vs) H _ I0 q) (fun fl s2 hs => ?_) (fun _ _ z => z)
    cases fl with
    | ret u =>
      obtain ⟨v, _, H2, J, rv, q2⟩ := hs
      exact ⟨v, H2, J.os, J.bare, J.base, J.hok, rv, q2⟩
    | next =>
      obtain ⟨_, H2, J, q2⟩ := hs
      exact ⟨.non, H2, J.os, J.bare, J.base, J.hok, rfl, q2⟩
    | brk => obtain ⟨_, _, _, q2⟩ := hs; exact q2.elim
    | cont => obtain ⟨_, _, _, q2⟩ := hs; exact q2.elim
/-- f(..), f such a def -/
theorem re_callG {sp : Sp} {Q : VK} (F : FnG X.prog X.w X.K X.mg X.base k f fd ps sp) (hA : X.A.guards = some []) (hr : Room k X.A) (hm : X.mg x = some (.ref f)) (hk : PySem.W.keepIn X.K (.ref f) = true) (hb : Binds X.K fd ps []) (ha : RA X (e :: es) σ H fun vs H1 => sp vs H1 Q E0) (hg : Gl X x := by rfl)
    (hdb : (x == ("__debug__" : Str)) = false := by decide) (he : starEach (e :: es) X.env = (false, eval e X.env) :: starEach es X.env := by rfl) (hpl : (backTo pos (starEach es X.env)).any (·.1) = false := by rfl) : RE X (.Call (.Name x p1) (e :: es) [] pos) σ H Q := by
  refine ⟨fun σ H Q => RA X (e :: es) σ H fun vs H1 => sp vs H1 Q E0, ⟨fun pins s σ H Q I h => ?_⟩, ha⟩
  refine wpAny_Call_Name_kw (ld_glob I hg hm ?_ hdb)
  refine PySem.W.callWith_K (h₀ := X.base) I.ok.mod.kin hk (thn (ra_.run pos pins s σ H _ I h) fun us s1 ⟨vs, H1, I1, r, q⟩ => ⟨I1.kIn, ?_⟩) he hpl
  have hz : us.length = ps.length := by rw [← r.length]; exact F.len _ _ _ _ q
  have hb' := hb s1 us I1.kIn (by rw [List.append_nil]; exact hz)
  rw [List.append_nil] at hb'
  refine wpAny_call (codeAny_mono (F.run X.A hA hr X.stack s1 H1 ⟨us, []⟩ us vs Q E0 I1.env0 hb' r q) fun r' s' hq => ?_)
  cases r' with
  | error e => exact hq.elim
  | ok fl =>
    cases fl with
    | ret u => exact I1.after hq
    | next => exact hq.elim
    | brk => exact hq.elim
    | cont => exact hq.elim
/-! ### repr of data -/
theorem call_reprD (hA : X.A.guards = some []) (hu : X.A.units + 64 < cLine) : CallR X (.builtin "repr") (fun xs H Q => ∃ (p : Addr) (d : PyData), xs = [.ref p] ∧ Dp X.K H (.ref p) d ∧ d.showable = true ∧ d.hasDict = false ∧ d.depth ≤ 60 ∧ d.shown.length ≤ sizeLine ∧ Q (.str d.shown) H) := by
  intro pins s σ H xs us Q I r h
  obtain ⟨p, d, rfl, hd, h1, h2, h3, h4, q⟩ := h
  obtain ⟨u, rfl, rx⟩ := vals1 r
  obtain ⟨as, rd⟩ := Dp.reads I d _ u hd rx
  cases rx
  exact repr_of_reads' rd h1 (fun z => by rw [h2] at z; cases z) hA (by omega) (fun _ _ z => z) (fun h' u tk hk => ⟨.str d.shown, H, I.kept (t' := tk) hk, ⟨u, rfl⟩, q⟩) h4
/-- repr(a) != repr(b) of the same data: False -/
theorem xt_reprNe {pa pb : Pos} (hA : X.A.guards = some []) (hu : X.A.units + 64 < cLine) (hm : X.mg "repr" = none) (ha : XD X M σ H a (.list ds)) (hb : XD X M σ H b (.list ds)) (h1 : (PyData.list ds).showable = true) (h2 : (PyData.list ds).hasDict = false) (h3 : (PyData.list ds).depth ≤ 60) (h4 : (PyData.list ds).shown.length ≤ sizeLine) (hg : Gl X "repr" := by rfl)
    (he : starEach [a] X.env = (false, eval a X.env) :: starEach [] X.env := by rfl) (hpl : (backTo pa (starEach [] X.env)).any (·.1) = false := by rfl) (he2 : starEach [b] X.env = (false, eval b X.env) :: starEach [] X.env := by rfl) (hpl2 : (backTo pb (starEach [] X.env)).any (·.1) = false := by rfl) :
    XT X σ H (.Compare (.Call (.Name "repr" p1) [a] [] pa) [.NotEq] [.Call (.Name "repr" p2) [b] [] pb] pos) false := by
  have key : ∀ {e : Expr} {pp qq : Pos}, XD X M σ H e (.list ds) → starEach [e] X.env = (false, eval e X.env) :: starEach [] X.env → (backTo qq (starEach [] X.env)).any (·.1) = false → XD X M σ H (.Call (.Name "repr" pp) [e] [] qq) (.str (PyData.list ds).shown) := fun {e pp qq} h z1 z2 H1 s Q q =>
    re_B (call_reprD hA hu) (ra_1 (h H1 s _ fun v H2 s2 hv => by
      obtain ⟨p, xs, rfl, hp, hx⟩ := dp_lst hv
      exact ⟨p, _, rfl, (hv.up hid_le).dp, h1, h2, h3, h4, q _ H2 s2 (.str _)⟩) z1) hm (by decide +kernel) hg (by decide) (by decide) z1 z2
  refine xt_cmp op_ne (key ha he hpl) (key hb he2 hpl2) fun H1 v w s hv hw Q q => ?_
  rw [dp_str hv, dp_str hw]
  exact ⟨rfl, by rw [decide_eq_true rfl]; exact q H1 (Same.refl _)⟩
theorem xd_reprEq {pa pb : Pos} (hA : X.A.guards = some []) (hu : X.A.units + 64 < cLine) (hm : X.mg "repr" = none) (ha : XD X M σ H a (.list ds)) (hb : XD X M σ H b (.list ds)) (h1 : (PyData.list ds).showable = true) (h2 : (PyData.list ds).hasDict = false) (h3 : (PyData.list ds).depth ≤ 60) (h4 : (PyData.list ds).shown.length ≤ sizeLine) (hg : Gl X "repr" := by rfl)
    (he : starEach [a] X.env = (false, eval a X.env) :: starEach [] X.env := by rfl) (hpl : (backTo pa (starEach [] X.env)).any (·.1) = false := by rfl) (he2 : starEach [b] X.env = (false, eval b X.env) :: starEach [] X.env := by rfl) (hpl2 : (backTo pb (starEach [] X.env)).any (·.1) = false := by rfl) :
    XD X M σ H (.Compare (.Call (.Name "repr" p1) [a] [] pa) [.Eq] [.Call (.Name "repr" p2) [b] [] pb] pos) (.bool true) := by
  have key : ∀ {e : Expr} {pp qq : Pos}, XD X M σ H e (.list ds) → starEach [e] X.env = (false, eval e X.env) :: starEach [] X.env → (backTo qq (starEach [] X.env)).any (·.1) = false → XD X M σ H (.Call (.Name "repr" pp) [e] [] qq) (.str (PyData.list ds).shown) := fun {e pp qq} h z1 z2 H1 s Q q =>
    re_B (call_reprD hA hu) (ra_1 (h H1 s _ fun v H2 s2 hv => by
      obtain ⟨p, xs, rfl, hp, hx⟩ := dp_lst hv
      exact ⟨p, _, rfl, (hv.up hid_le).dp, h1, h2, h3, h4, q _ H2 s2 (.str _)⟩) z1) hm (by decide +kernel) hg (by decide) (by decide) z1 z2
  refine xd_cmp op_eq (key ha he hpl) (key hb he2 hpl2) fun H1 v w s hv hw Q q => ?_
  rw [dp_str hv, dp_str hw]
  exact ⟨rfl, by rw [decide_eq_true rfl]; exact q _ H1 (Same.refl _) (.bl _)⟩
/-! ### isinstance -/
def tyN : PyData → String
  | .none => "NoneType"
  | .bool _ => "bool"
  | .int _ => "int"
  | .str _ => "str"
  | .list _ => "list"
  | .tuple _ => "tuple"
  | .dict _ => "dict"
theorem ty_dq {K : PySem.W.Frag} (h : Dq K H v d) : TyX K H v (.type (tyN d)) := by
  cases h with
  | non => exact .base .non
  | bl b => exact .base (.bl b)
  | int i => exact .base (.int i)
  | str z => exact .base (.str z)
  | lst h1 _ => exact .base (.lst h1)
  | tup h1 _ =>
    rcases h1 with (h1 | ⟨o, h1⟩) | ⟨o, its, n, h1, h2, _⟩
    · exact .base (.tup h1)
    · exact .fTuple h1
    · exact .kTuple h1 h2
/-- isinstance(a, T), T a built-in type by its name -/
theorem xd_is1 {T : String} {r : Bool} {nm : Str} (hk : kitB (tyN d) T = some r) (hm : X.mg "isinstance" = none) (hmT : X.mg nm = none) (hvT : bootBuiltins nm = some (.type T)) (ha : XD X M σ H a d) (hg : Gl X "isinstance" := by rfl) (hgT : Gl X nm := by rfl) (hnT : nm ≠ "__name__" := by decide) (hdT : (nm == ("__debug__" : Str)) = false := by decide)
    (he : starEach [a, .Name nm p2] X.env = (false, eval a X.env) :: starEach [.Name nm p2] X.env := by rfl) (he2 : starEach [.Name nm p2] X.env = (false, eval (.Name nm p2) X.env) :: starEach [] X.env := by rfl) (hpl : (backTo pos (starEach [.Name nm p2] X.env)).any (·.1) = false := by rfl) :
    XD X M σ H (.Call (.Name "isinstance" p1) [a, .Name nm p2] [] pos) (.bool r) := fun H1 s Q q =>
  re_B call_isi (ra_cons (ha H1 s _ fun v H2 s2 hv => ra_1 (xv_bltn (v := .ty T) hmT hvT rfl hgT hnT hdT H2 (Same.refl _) _ fun H3 s3 =>
    ⟨v, .ty T, _, _, r, rfl, .ty T, ty_dq ((hv.up hid_le).up s3), kit_ty hk, q _ H3 (s2.trans s3) (.bl _)⟩) he2) he) hm (by decide +kernel) hg (by decide) (by decide) he hpl
/-- isinstance(a, (T1, T2)) -/
theorem xd_is2 {T1 T2 : String} {r1 r2 : Bool} {n1 n2 : Str} {k3} (h1 : kitB (tyN d) T1 = some r1) (h2 : kitB (tyN d) T2 = some r2) (hm : X.mg "isinstance" = none) (hm1 : X.mg n1 = none) (hv1 : bootBuiltins n1 = some (.type T1)) (hm2 : X.mg n2 = none) (hv2 : bootBuiltins n2 = some (.type T2)) (ha : XD X M σ H a d)
    (hg : Gl X "isinstance" := by rfl) (hg1 : Gl X n1 := by rfl) (hg2 : Gl X n2 := by rfl) (hn1 : n1 ≠ "__name__" := by decide) (hn2 : n2 ≠ "__name__" := by decide) (hd1 : (n1 == ("__debug__" : Str)) = false := by decide) (hd2 : (n2 == ("__debug__" : Str)) = false := by decide) {q1 q2 q3 : Pos}
    (he : starEach [a, .Tuple [.Name n1 q1, .Name n2 q2] k3 q3] X.env = (false, eval a X.env) :: starEach [.Tuple [.Name n1 q1, .Name n2 q2] k3 q3] X.env := by rfl) (he2 : starEach [.Tuple [.Name n1 q1, .Name n2 q2] k3 q3] X.env = (false, eval (.Tuple [.Name n1 q1, .Name n2 q2] k3 q3) X.env) :: starEach [] X.env := by rfl)
    (hs1 : starEach [.Name n1 q1, .Name n2 q2] X.env = (false, eval (.Name n1 q1) X.env) :: starEach [.Name n2 q2] X.env := by rfl) (hs2 : starEach [.Name n2 q2] X.env = (false, eval (.Name n2 q2) X.env) :: starEach [] X.env := by rfl)
    (hpl : (backTo pos (starEach [.Tuple [.Name n1 q1, .Name n2 q2] k3 q3] X.env)).any (·.1) = false := by rfl) :
    XD X M σ H (.Call (.Name "isinstance" p1) [a, .Tuple [.Name n1 q1, .Name n2 q2] k3 q3] [] pos) (.bool (r1 || r2)) := fun H1 s Q q =>
  re_B call_isiT (ra_cons (ha H1 s _ fun v H2 s2 hv => ra_1 ⟨_, pe_tup ra_, ra_cons (xv_bltn (v := .ty T1) hm1 hv1 rfl hg1 hn1 hd1 H2 (Same.refl _) _ fun H3 s3 => ra_1 (xv_bltn (v := .ty T2) hm2 hv2 rfl hg2 hn2 hd2 H3 (Same.refl _) _ fun H4 s4 => by
    refine ⟨by show 2 ≤ sizeLine; decide, fun p hp => ?_⟩
    have s5 : Same H2 (upd H4 p (.tup [V.ty T1, V.ty T2])) := (s3.trans s4).trans (same_new hp)
    refine ⟨v, p, [.ty T1, .ty T2], _, _, r1 || r2, rfl, upd_same, .cons (.ty T1) (.cons (.ty T2) .nil), ty_dq ((hv.up hid_le).up s5), ?_, q _ _ (s2.trans s5) (.bl _)⟩
    refine kitAny_cons (kit_ty h1) (fun z => ?_) (fun z => by rw [z]; rfl)
    rw [z, Bool.false_or]
    exact kitAny_cons (kit_ty h2) (fun z2 => by rw [z2]; exact kitAny_nil) (fun z2 => z2)) hs2) hs1⟩ he2) he) hm (by decide +kernel) hg (by decide) (by decide) he hpl
/-! ### instances -/
theorem xv_fld {dx pa : Addr} {fs : List (Str × V)} {f : Str} (ho : XV X σ H o (.ref pa)) (h1 : H pa = some (.ins C dx fs)) (hc : Cls X.K C) (hn : NoAttr X.K C f) (hl : fs.lookup f = some v) (hb : attributeBase o f X.env (eval o X.env) = eval o X.env := by rfl) : XV X σ H (.Attribute o f pos) v := fun H1 s Q q =>
  ⟨_, pe_fld re_ hb, ho H1 s _ fun H2 s2 => ⟨pa, C, dx, fs, v, rfl, (s.trans s2) _ _ h1, hc, hn, hl, q H2 s2⟩⟩
theorem re_meth {dx pa : Addr} {fs : List (Str × V)} {m : Str} {sp : Sp} {Q : VK} {pl : Sem Bool} {apos : Pos} (ho : XV X σ H o (.ref pa)) (h1 : H pa = some (.ins C dx fs)) (hc : Cls X.K C) (hM : Meth X.K C m f) (hl : fs.lookup m = none) (F : FnOk X.prog X.w X.K X.mg X.base CX0 k f fd ps sp) (hr : Room k X.A) (hb : Binds X.K fd ps [])
    (ha : ∀ H1, Same H H1 → RA X (e :: es) σ H1 fun vs H2 => sp (.ref pa :: vs) H2 Q E0) (hst : starEach (e :: es) X.env = (false, eval e X.env) :: starEach es X.env := by rfl) (hpl : (backTo pos (starEach es X.env)).any (·.1) = false := by rfl)
    (ht : eval (.Call (.Attribute o m apos) (e :: es) [] pos) X.env = (do
      let ov ← eval o X.env
      standAt apos.atName
      let (f, first) ← holding [ov] (getMethod ov m pl)
      callWith pos f first (backTo pos (starEach (e :: es) X.env)) (backToKw pos (keywordEach [] X.env))) := by rfl) : RE X (.Call (.Attribute o m apos) (e :: es) [] pos) σ H Q :=
  ⟨_, pe_meth re_ hc hM F hr hb .nil pass0 ra_ hst hpl ht, ho H (Same.refl H) _ fun H1 s1 => ⟨pa, dx, fs, rfl, s1 _ _ h1, hl, ra_mono (ha H1 s1) fun vs H2 q => by rw [List.append_nil]; exact q⟩⟩
theorem re_meth0 {dx pa : Addr} {fs : List (Str × V)} {m : Str} {sp : Sp} {Q : VK} {pl : Sem Bool} {apos : Pos} (ho : XV X σ H o (.ref pa)) (h1 : H pa = some (.ins C dx fs)) (hc : Cls X.K C) (hM : Meth X.K C m f) (hl : fs.lookup m = none) (F : FnOk X.prog X.w X.K X.mg X.base CX0 k f fd ps sp) (hr : Room k X.A) (hb : Binds X.K fd ps [])
    (ha : ∀ H1, Same H H1 → sp [.ref pa] H1 Q E0)
    (ht : eval (.Call (.Attribute o m apos) [] [] pos) X.env = (do
      let ov ← eval o X.env
      standAt apos.atName
      let (f, first) ← holding [ov] (getMethod ov m pl)
      callWith pos f first (backTo pos (starEach [] X.env)) (backToKw pos (keywordEach [] X.env))) := by rfl) : RE X (.Call (.Attribute o m apos) [] [] pos) σ H Q :=
  ⟨_, pe_meth0 re_ hc hM F hr hb .nil pass0 ht, ho H (Same.refl H) _ fun H1 s1 => ⟨pa, dx, fs, rfl, s1 _ _ h1, hl, ha H1 s1⟩⟩
end
end Dl

set_option Elab.async false
set_option linter.all false
set_option maxRecDepth 100000
set_option maxHeartbeats 4000000
/-! Data layer, part 5: operators of an own class; the end. -/
namespace Dl
open PySem PySem.Spec PyProof.Rows L2
/-- a namespace of the written part -/
theorem ns_at {K : PySem.W.Frag} {h : Heap} {N : Addr} {mN : Str → Option Value} {n : Str} {v : Value} (X : K.In h) (G : h.Ns N mN) (e : PySem.W.nsIn K N n = some (some v)) : mN n = some v := by
  obtain ⟨o, es, ep, ho, hd, _, hf⟩ := G
  unfold PySem.W.nsIn at e
  split at e
  · rename_i cc dd es2 nn sl q
    have z := X _ _ q
    rw [ho] at z
    cases z
    cases hd
    split at e
    · rename_i en he
      cases e
      rw [← hf]
      unfold nsFind findBy
      rw [← Array.find?_toList, he]
      rfl
    · split at e <;> cases e
  · cases e
/-- what the written part says of a class with an own == and no != -/
structure ClsEq (K : PySem.W.Frag) (C f : Addr) : Prop where
  cls : ∃ nm q N bs hdct sn sub ab col dd k0 k1 k2 k3 k5 newId, K.lookup C = some (excClassObj nm q C N bs [.type "object"] hdct sn sub ab col dd k0 k1 k2 k3 k5 newId) ∧ PySem.W.nsOkIn K N = true ∧ PySem.W.nsIn K N "__eq__" = some (some (.ref f)) ∧ PySem.W.nsIn K N "__ne__" = some none
  at_ : PySem.W.findIn K (.ref C) "__eq__" = some (some (.ref f))
  fn : PySem.W.isFn K (.ref f) = true
  obj : ∃ o, K.lookup f = some o ∧ o.cls = .type "function"
section
variable {X : Cx} {M : List Addr} {σ : L2.St} {H H' : Hp} {e a b c o : Expr} {es : List Expr} {d d1 d2 : PyData} {ds ds2 es' : List PyData} {x : Str} {v : V} {pos p1 p2 p3 : Pos} {D : Ends} {rest sts : List Stmt} {st : Stmt} {k : Nat} {f C : Addr} {fd : FuncData} {ps : List Str} {sp : Sp}
/-- a bool comes back -/
def bk (Q : Bool → Hp → Prop) : VK := fun v H => ∃ b, v = .bl b ∧ Q b H
theorem run_bool {A : Around} {E : Value → Shared → Prop} {pins : List (Addr × Obj)} {s : Shared} {us : List Value} {vs : List V} {Q : Bool → Hp → Prop} {R : Value → Shared → Prop} (I : Inv X pins σ H s) (fr : A.frames = X.A.frames) (F : FnOk X.prog X.w X.K X.mg X.base CX0 k f fd ps sp) (hr : Room k A) (hb : Binds X.K fd ps []) (r : Vals vs us) (h : sp vs H (bk Q) E0)
    (q : ∀ b s' H', Inv X pins σ H' s' → Q b H' → R (.bool b) s') : wpAny (model X.prog X.w) A (call (.ref f) us) R E s := by
  have hz : us.length = ps.length := by rw [← r.length]; exact F.len _ _ _ _ h
  have hb' := hb s us I.kIn (by rw [List.append_nil]; exact hz)
  rw [List.append_nil] at hb'
  have e := I.env0
  have e0 : Env0 X.prog X.w X.K X.mg X.base A X.stack s H := ⟨by rw [fr]; exact e.frames, e.mod, e.bs, e.bsz, e.funs, e.frf, e.hok, e.bare⟩
  refine wpAny_call (codeAny_mono (F.run A X.stack s H ⟨us, []⟩ us vs (bk Q) E0 hr e0 hb' r h) fun r' s' hq => ?_)
  cases r' with
  | error e => exact hq.elim
  | ok fl =>
    cases fl with
    | ret u =>
      obtain ⟨z, H1, I1, rz, b, ez, q1⟩ := I.after hq
      subst ez
      cases rz
      exact q b s' H1 I1 q1
    | next => exact hq.elim
    | brk => exact hq.elim
    | cont => exact hq.elim
/-- a == b, a of an own class; the other one of that class, or of a type that is not below it -/
theorem op_eqO {tb : Value → Prop} (E : ClsEq X.K C f) (F : FnOk X.prog X.w X.K X.mg X.base CX0 k f fd ps sp) (hr : Room k X.A) (hb : Binds X.K fd ps []) :
    OpR X (compareOp .Eq) (fun x y H Q => ∃ pa dx fs, x = .ref pa ∧ H pa = some (.ins C dx fs) ∧ ((∃ pb dy gs, y = .ref pb ∧ H pb = some (.ins C dy gs)) ∨ (PySem.W.subIn X.K (.type "list") (.ref C) = some false ∧ ∃ pb xs, y = .ref pb ∧ H pb = some (.lst xs))) ∧ sp [x, y] H (bk fun b H1 => Q (.bl b) H1) E0) := by
  intro pins s σ H x y u v Q I rx ry h
  obtain ⟨pa, dx, fs, rfl, ha, hy, hsp⟩ := h
  cases rx
  obtain ⟨mA, J, _⟩ := ins_get I.hok ha
  obtain ⟨od, J, _⟩ := J.look
  obtain ⟨m, hF⟩ := I.fr
  show wpAny (model X.prog X.w) X.A (richCompare .Eq (.ref pa) v) (EP X pins σ Q) X.xe s
  have fin : wpAny (model X.prog X.w) X.A (call (.ref f) [.ref pa, v]) (PySem.W.CmpBack (EP X pins σ Q)) X.xe s :=
    run_bool (Q := fun b H1 => Q (.bl b) H1) I rfl F hr hb (.cons (show RelV (.ref pa) (.ref pa) from rfl) (.cons ry .nil)) hsp fun b s' H' I' q => ⟨.bl b, H', I', rfl, q⟩
  rcases hy with ⟨pb, dy, gs, rfl, hb2⟩ | ⟨hsub, pb, xs, rfl, hb2⟩
  · cases ry
    obtain ⟨mB, J2, _⟩ := ins_get I.hok hb2
    obtain ⟨od2, J2, _⟩ := J2.look
    exact PySem.W.cmp_K (op := .Eq) (tb := .ref C) hr.units0 hF I.ok.mod.kin J J2.type (by simp [PySem.W.notFirst]) E.at_ E.fn fin
  · cases ry
    obtain ⟨_, its, n, r, e⟩ := (show ObjOk X.prog X.w H s.heap pb (.lst xs) from I.hok pb _ hb2)
    have z : PySem.W.Looks (model X.prog X.w) s.heap (typeOf (.ref pb)) (.type "list") := (PySem.W.Looks.ld e).andThen .now
    exact PySem.W.cmp_K (op := .Eq) (tb := .type "list") hr.units0 hF I.ok.mod.kin J z (by unfold PySem.W.notFirst; rw [hsub]; simp) E.at_ E.fn fin
/-- a != b of one own class -/
theorem op_neO (E : ClsEq X.K C f) (F : FnOk X.prog X.w X.K X.mg X.base CX0 k f fd ps sp) (hr : Room (k + 1) X.A) (hb : Binds X.K fd ps []) :
    OpR X (compareOp .NotEq) (fun x y H Q => ∃ pa dx fs pb dy gs, x = .ref pa ∧ H pa = some (.ins C dx fs) ∧ y = .ref pb ∧ H pb = some (.ins C dy gs) ∧ sp [x, y] H (bk fun b H1 => Q (.bl (!b)) H1) E0) := by
  intro pins s σ H x y u v Q I rx ry h
  obtain ⟨pa, dx, fs, pb, dy, gs, rfl, ha, rfl, hb2, hsp⟩ := h
  cases rx
  cases ry
  obtain ⟨mA, J, _⟩ := ins_get I.hok ha
  obtain ⟨od, J, _⟩ := J.look
  obtain ⟨mB, J2, _⟩ := ins_get I.hok hb2
  obtain ⟨od2, J2, _⟩ := J2.look
  obtain ⟨hox, hoc, _⟩ := J
  obtain ⟨hoy, hoyc, _⟩ := J2
  obtain ⟨nm, q, N, bs, hdct, sn, sub, ab, col, dd, k0, k1, k2, k3, k5, newId, hC, hN, he, hne⟩ := E.cls
  obtain ⟨of, hfo, hfc⟩ := E.obj
  have KX := I.kIn
  have hns := Heap.Ns.of_isNs (PySem.W.isNs_of_in KX hN)
  have Y : s.heap.OwnEqNoNe pa C f "object" [.type "object"] :=
    ⟨_, of, nm, q, N, bs, hdct, sn, sub, ab, col, dd, k0, k1, k2, k3, k5, newId, _, _, hox, hoc, KX _ _ hC, hns, ns_at KX hns he, KX _ _ hfo, hfc, PySem.F.mro_object, PySem.F.cmp_object.eq.lookup, PySem.W.ns_none_of KX hns hne⟩
  have hu := hr.units0
  obtain ⟨hh, g, dr, tk, os⟩ := s
  refine compareOp_ne_ownEq PySem.F.cmp_object Y hoy hoyc (by have := hr.un; omega) ?_
  exact run_bool (A := X.A.in1) (Q := fun b H1 => Q (.bl (!b)) H1) I rfl F hr.in1 hb (.cons (show RelV (.ref pa) (.ref pa) from rfl) (.cons (show RelV (.ref pb) (.ref pb) from rfl) .nil)) hsp fun b s' H' I' q => ⟨b, rfl, ⟨.bl (!b), H', I', rfl, q⟩⟩
/-- x in o, o of an own class -/
theorem op_inO (hs : PySem.W.findIn X.K (.ref C) "__contains__" = some (some (.ref f))) (hf : PySem.W.isFn X.K (.ref f) = true) (F : FnOk X.prog X.w X.K X.mg X.base CX0 k f fd ps sp) (hr : Room k X.A) (hb : Binds X.K fd ps []) :
    OpR X (compareOp .In) (fun x y H Q => ∃ pa dx fs, y = .ref pa ∧ H pa = some (.ins C dx fs) ∧ sp [y, x] H (bk fun b H1 => Q (.bl b) H1) E0) := by
  intro pins s σ H x y u v Q I rx ry h
  obtain ⟨pa, dx, fs, rfl, ha, hsp⟩ := h
  cases ry
  obtain ⟨mA, J, _⟩ := ins_get I.hok ha
  obtain ⟨od, J, _⟩ := J.look
  obtain ⟨m, hF⟩ := I.fr
  exact PySem.W.in_K hF I.ok.mod.kin J hs hf (run_bool (Q := fun b H1 => Q (.bl b) H1) I rfl F hr hb (.cons (show RelV (.ref pa) (.ref pa) from rfl) (.cons rx .nil)) hsp fun b s' H' I' q => wpAny_truthy_bool ⟨.bl b, H', I', rfl, q⟩)
/-- len(o) -/
theorem call_lenO (hs : PySem.W.findIn X.K (.ref C) "__len__" = some (some (.ref f))) (hf : PySem.W.isFn X.K (.ref f) = true) (F : FnOk X.prog X.w X.K X.mg X.base CX0 k f fd ps sp) (hr : Room (k + 1) X.A) (hb : Binds X.K fd ps []) :
    CallR X (.builtin "len") (fun xs H Q => ∃ pa dx fs, xs = [.ref pa] ∧ H pa = some (.ins C dx fs) ∧ sp xs H (fun v H1 => ∃ n : Nat, v = .int n ∧ n < 2 ^ 62 ∧ Q (.int n) H1) E0) := by
  intro pins s σ H xs us Q I r h
  obtain ⟨pa, dx, fs, rfl, ha, hsp⟩ := h
  obtain ⟨u, rfl, rx⟩ := vals1 r
  cases rx
  obtain ⟨mA, J, _⟩ := ins_get I.hok ha
  obtain ⟨od, J, _⟩ := J.look
  obtain ⟨m, hF⟩ := I.fr
  refine PySem.W.len_K hF I.ok.mod.kin J hs hf ?_
  have hz : [Value.ref pa].length = ps.length := F.len _ _ _ _ hsp
  have hb' := hb s [.ref pa] I.kIn (by rw [List.append_nil]; exact hz)
  rw [List.append_nil] at hb'
  have e := I.env0.in1
  refine wpAny_call (codeAny_mono (F.run X.A.in1 X.stack s H ⟨[.ref pa], []⟩ [.ref pa] [.ref pa] _ E0 hr.in1 e hb' (.cons rfl .nil) hsp) fun r' s' hq => ?_)
  cases r' with
  | error e => exact hq.elim
  | ok fl =>
    cases fl with
    | ret u =>
      obtain ⟨z, H1, I1, rz, n, ez, hn, q1⟩ := I.after hq
      subst ez
      obtain ⟨t, rfl⟩ := rz
      exact ⟨⟨by omega, by omega⟩, ⟨.int n, H1, I1.tok _, ⟨_, rfl⟩, q1⟩⟩
    | next => exact hq.elim
    | brk => exact hq.elim
    | cont => exact hq.elim
/-- o.p, a property -/
theorem re_prop {dx pa pp : Addr} {fs : List (Str × V)} {m : Str} {Q : VK} (ho : XV X σ H o (.ref pa)) (h1 : H pa = some (.ins C dx fs)) (hc : Cls X.K C) (hp : PropOf X.K C m pp f) (F : FnOk X.prog X.w X.K X.mg X.base CX0 k f fd ps sp) (hr : Room (k + 1) X.A) (hb : Binds X.K fd ps []) (ha : ∀ H1, Same H H1 → sp [.ref pa] H1 Q E0)
    (hab : attributeBase o m X.env (eval o X.env) = eval o X.env := by rfl) : RE X (.Attribute o m pos) σ H Q :=
  ⟨_, pe_prop re_ hc hp F hr hb .nil pass0 hab, ho H (Same.refl H) _ fun H1 s1 => ⟨pa, dx, fs, rfl, s1 _ _ h1, ha H1 s1⟩⟩
/-- C(e, ..) -/
theorem re_make {Q : VK} {dvs : List V} {dl : List Value} (Mm : Mk X.K C f) (F : FnOk X.prog X.w X.K X.mg X.base CX0 k f fd ps sp) (hr : Room (k + 1) X.A) (hm : X.mg x = some (.ref C)) (hb : Binds X.K fd ps dl) (hd : Vals dvs dl)
    (ha : RA X (e :: es) σ H fun vs H1 => ∀ y dx, H1 y = none → H1 dx = none → dx ≠ y → sp (.ref y :: (vs ++ dvs)) (upd (upd H1 dx (.own y)) y (.ins C dx [])) (fun v H2 => v = .non ∧ Q (.ref y) H2) E0) (hg : Gl X x := by rfl)
    (hdb : (x == ("__debug__" : Str)) = false := by decide) (he : starEach (e :: es) X.env = (false, eval e X.env) :: starEach es X.env := by rfl) (hpl : (backTo pos (starEach es X.env)).any (·.1) = false := by rfl) : RE X (.Call (.Name x p1) (e :: es) [] pos) σ H Q :=
  ⟨_, pe_make Mm F hr hg hm hb hd pass0 ra_ hdb he hpl, ha⟩
/-- o.f = e -/
theorem rb_fld {m : Str} {dx pa : Addr} {fs : List (Str × V)} {ap : Pos} (he : RE X e σ H fun v H1 => H1 pa = some (.ins C dx fs) ∧ fs.length < 1000 ∧ XV X σ H1 o (.ref pa) ∧ ∀ H2, Same H1 H2 → RB X rest D σ (upd H2 pa (.ins C dx (putF m v fs)))) (hc : Cls X.K C) (hn : NoAttr X.K C m) (hs : swapsWith e (some (.Attribute o m ap)) pos.line X.env = pure false := by rfl) :
    RB X (.Assign [.Attribute o m ap] e pos :: rest) D σ H :=
  ⟨_, pss_cons (ps_fld re_ re_ hs) rb_, re_mono he fun v H1 ⟨h1, hl, ho, q⟩ => ho H1 (Same.refl _) _ fun H2 s2 => ⟨pa, C, dx, fs, rfl, s2 _ _ h1, hc, hn, hl, q H2 s2⟩⟩
end
end Dl

set_option Elab.async false
set_option linter.all false
set_option maxRecDepth 100000
set_option maxHeartbeats 4000000
/-! Data layer, part 6: sets of whole numbers by a comprehension, sorted; repr of one value; sums; dicts by texts. -/
namespace Dl
open PySem PySem.Spec PyProof.Rows L2
section
variable {X : Cx}
/-- {e for t in it if ..}, e a whole number; p: the set -/
def tSetI (w : World) (wi : TI) (g : TG) (tt : TT) (te : TE) (vs : List Nat) : TE := fun σ H Q => wi σ H fun J Ha => ∀ p, Ha p = none → ∃ Z : Nat → Nat → Hp → Prop,
  (∃ k, Z 0 k (upd Ha p (SetO w p (fun _ => false) 0))) ∧ ∀ i k Hb, Z i k Hb → (J.stop i Hb ∧ Q (.ref p) Hb) ∨ (J.go i Hb ∧ ∃ Nx : Hp → Prop, (∀ Hc, Nx Hc → ∃ j, j < k ∧ Z (i + 1) j Hc) ∧
    ∀ x Hc, J.yld i Hb x Hc → g x (wipe σ vs) Hc fun τ Hd => wipe τ vs = wipe σ vs ∧ tt τ Hd fun b He =>
      if b = true then te τ He fun y Hf => ∃ (n : Int) (S : Int → Bool) (c : Nat), y = .int n ∧ Hf p = some (SetO w p S c) ∧ c + 1 < scanBound ∧ Nx (upd Hf p (SetO w p (fun j => S j || decide (j = n)) (if S n = true then c else c + 1))) else Nx He)
theorem setI_run {ps : List (Addr × Obj)} {z : Shared} {σ : L2.St} {H : Hp} {Q : VK} {elt tg iter : Expr} {ifs : List Expr} {scope : Scope} {own : List (PySem.Str × Nat)} {pos pf : Pos} {wi : TI} {g : TG} {tt : TT} {te : TE} {Qf : Value → Shared → Prop}
    (hc : X.calm = true) (hN : X.N.Nodup) (inv : Inv X ps σ H z) (hi : PI X tg iter wi) (ok : BlkOk X.N X.env.scope scope own)
    (Pg : ∀ (y : Shared) (Hy : Hp) (c : Addr) (l : List (PySem.Str × Addr)) (q : List Addr), PG (X.blk y Hy scope (compEnvC scope l c X.env) q) tg g)
    (Pt : ∀ (y : Shared) (Hy : Hp) (c : Addr) (l : List (PySem.Str × Addr)) (q : List Addr), PTs (X.blk y Hy scope (compEnvC scope l c X.env) q) ifs tt)
    (Pe : ∀ (y : Shared) (Hy : Hp) (c : Addr) (l : List (PySem.Str × Addr)) (q : List Addr), PE (X.blk y Hy scope (compEnvC scope l c X.env) q) elt te)
    (hs : ∀ x, foldedSetIterable iter X.env x = pure x) (owed : tSetI X.w wi g tt te (own.map (·.2)) σ H Q)
    (back : ∀ p c y m Hy, Inv X ps σ Hy y → Q (.ref p) Hy → y.heap.Ns c m → FpOk X ps Hy c → compPost (model X.prog X.w) X.A X.xe none Qf (.ref p) c (.ok .next) y) :
    wpAny (model X.prog X.w) X.A (comprehension (.SetComp elt [⟨tg, iter, ifs, 0⟩] scope pos) scope X.env pf (newSet (.type "set")) false (eval iter X.env) none) Qf X.xe z := by
  have cells : ∀ y ∈ scope.names, y.2 = .free → ∃ c, X.env.cells.lookup y.1 = some c := fun y hy e => (ok.free y hy e).elim (fun k => inv.ok.has _ (.inl k)) (fun k => inv.ok.has _ (.inr k))
  have names : ∀ y ∈ scope.names, y.2 = .local → scope.names.lookup y.1 = some .local := fun y hy e => by
    have u := ok.uniq y hy
    rw [e] at u
    exact u
  refine wpAny_comprehension_free (use := none) rfl hs (closure_ok cells) ok.kind names (thn (hi.run ps z σ H _ inv owed) fun _ za ha => thn ha fun _ zb hb => ?_)
  obtain ⟨it, fp, tn, J, Hb, rfl, invB, T, t0, fB, body⟩ := hb
  refine PpSet.newSet_ok (newEnv_comp ?_)
  generalize hp : zb.heap.objs.size = p
  have free : Hb p = none := invB.hok.fresh (Nat.le_of_eq hp)
  obtain ⟨Z, ⟨k0, start⟩, turn⟩ := body p free
  generalize hcz : ({ zb with heap := zb.heap.push { cls := .type "set", dict := none, data := .set #[] 0 (.fresh 0 0 (!X.w.params.followText "set-order")) } } : Shared) = zc
  have eqz : zc.heap = zb.heap.push { cls := .type "set", dict := none, data := .set #[] 0 (.fresh 0 0 (!X.w.params.followText "set-order")) } := by rw [← hcz]
  generalize hHc : upd Hb p (SetO X.w p (fun _ => false) 0) = Hc at start
  have invC : Inv X ps σ Hc zc := by
    subst hHc
    subst hcz
    refine invB.laid (t' := zb.toks) (fun _ _ e => Heap.get?_push_of_some _ e) (Nat.le_of_eq hp) ?_
    subst hp
    exact setO_new (setR_fresh X.w)
  have inB : ∀ b ∈ fp, b < zb.heap.objs.size := fun b hb => let ⟨_, e, _⟩ := T.obj _ _ t0 b hb; Heap.lt_size e
  have fC : ∀ b ∈ fp, FpOk X ps Hc b ∧ b < zc.heap.objs.size := fun b hb => by
    have lt := inB b hb
    have ne : b ≠ p := by rw [← hp]; exact Nat.ne_of_lt lt
    have e : Hc b = none := by rw [← hHc, upd_ne ne]; exact (fB b hb).1
    exact ⟨⟨e, (fB b hb).2⟩, by rw [eqz, Heap.size_push]; exact Nat.lt_succ_of_lt lt⟩
  have t1 : tn 0 zc.heap := T.keep _ _ _ t0 fun _ _ _ e => by rw [eqz]; exact Heap.get?_push_of_some _ e
  have invD := block_start invC ok hN fC
  have rg := Pg zc Hc zc.heap.objs.size (cellsFrom (zc.heap.objs.size + 1) scope.names (cloFrom X.env.cells scope.names [])) fp
  have rt := Pt zc Hc zc.heap.objs.size (cellsFrom (zc.heap.objs.size + 1) scope.names (cloFrom X.env.cells scope.names [])) fp
  have re := Pe zc Hc zc.heap.objs.size (cellsFrom (zc.heap.objs.size + 1) scope.names (cloFrom X.env.cells scope.names [])) fp
  show codeAny _ _ (.compStart (.SetComp elt [⟨tg, iter, ifs, 0⟩] scope pos) 0 (.ref it) (.ref p) (compEnvC scope (cellsFrom (zc.heap.objs.size + 1) scope.names (cloFrom X.env.cells scope.names [])) zc.heap.objs.size X.env))
    (compPost (model X.prog X.w) X.A X.xe none Qf (.ref p) zc.heap.objs.size) { zc with heap := pushCells (zc.heap.push { cls := .type "dict", data := .dict #[] }) scope.names }
  have none0 : ∀ b ∈ fp, Hc b = none := fun b hb => (fC b hb).1.1
  generalize hen : compEnvC scope (cellsFrom (zc.heap.objs.size + 1) scope.names (cloFrom X.env.cells scope.names [])) zc.heap.objs.size X.env = en at invD rg rt re ⊢
  have enl : en.locals = zc.heap.objs.size := by subst hen; rfl
  generalize hzd : ({ zc with heap := pushCells (zc.heap.push { cls := .type "dict", data := .dict #[] }) scope.names } : Shared) = zd at invD ⊢
  have t2 : tn 0 zd.heap := T.keep _ _ _ t1 fun _ _ _ e => by rw [← hzd]; exact pushCells_keeps _ _ _ _ (Heap.get?_push_of_some _ e)
  have still : ∀ {τ : L2.St} {Hx : Hp} {zx : Shared}, Inv (X.blk zc Hc scope en fp) [] τ Hx zx → (∀ b ∈ fp, Hx b = none) → ∀ b ∈ fp, FpOk (X.blk zc Hc scope en fp) [] Hx b := fun i n b hb =>
    ⟨n b hb, (i.ok.exf b hb).1, i.ok.exfs b hb, .inl hb, fun x c e => (i.ok.exf b hb).2 x c e, fun q hq => by
      have hq : q ∈ ([] : List (Addr × Obj)) ++ [] := hq
      simp at hq⟩
  have laps : codeAny (model X.prog X.w) X.A (.compLoop (.SetComp elt [⟨tg, iter, ifs, 0⟩] scope pos) 0 (.ref it) (.ref p) en) (compPost (model X.prog X.w) X.A X.xe none Qf (.ref p) zc.heap.objs.size) zd := by
    refine PpSet.compLoopS_any (fun k zx => ∃ i Hx, Inv (X.blk zc Hc scope en fp) [] (wipe σ (own.map (·.2))) Hx zx ∧ tn i zx.heap ∧ (∀ b ∈ fp, Hx b = none) ∧ Z i k Hx) (fun k zx hx => ?_) k0 ⟨0, Hc, invD, t2, none0, start⟩
    obtain ⟨i, Hx, ix, tx, nx, zk⟩ := hx
    rcases turn i k Hx zk with ⟨st, done⟩ | ⟨go, Nx, toN, step⟩
    · refine thnF (T.done (X.blk zc Hc scope en fp) rfl rfl rfl hc i [] zx _ Hx (fun _ _ => False) ix (still ix nx) tx st) fun r zy hy => ?_
      obtain ⟨rfl, iy⟩ := hy
      have iz : Inv X ps σ Hx zy := invC.call' (ch := fp) iy.os iy.base iy.hok iy.bare fun b hb => ⟨(fC b hb).1.2.2.2.1, (fC b hb).1.2.1, (fC b hb).1.2.2.2.2.1, (fC b hb).1.2.2.2.2.2⟩
      have nC : Hx zc.heap.objs.size = none := by
        have q : Hx en.locals = none := iy.free
        rwa [enl] at q
      obtain ⟨m, hm, _⟩ := iy.loc
      have hm : zy.heap.Ns en.locals m := hm
      rw [enl] at hm
      exact back p _ zy m Hx iz done hm (invC.fpOk (Nat.le_refl _) nC)
    · refine thnF (T.item (X.blk zc Hc scope en fp) rfl rfl rfl hc i [] zx _ Hx (fun _ _ => False) ix (still ix nx) tx go) fun r zy hy => ?_
      obtain ⟨u, rfl, hy⟩ := hy
      refine thnF hy fun _ zz hz => ?_
      obtain ⟨x, Hz, iz, rz, yz, tz, nz⟩ := hz
      refine thnF (rg.run _ zz _ Hz x u _ (iz.pinned (still iz nz) (T.obj _ _ tz)) rz (step x Hz yz)) fun _ z1 h1 => ?_
      obtain ⟨τ, H1, i1, w1, q1⟩ := h1
      refine thnF (rt.run _ z1 τ H1 _ i1 q1) fun b z2 h2 => ?_
      obtain ⟨H2, i2, q2⟩ := h2
      have fin : ∀ {zf : Shared} {Hf : Hp}, Inv (X.blk zc Hc scope en fp) ([] ++ pinsAt fp zz.heap) τ Hf zf → Nx Hf → ∃ j, j < k ∧ ∃ i Hx, Inv (X.blk zc Hc scope en fp) [] (wipe σ (own.map (·.2))) Hx zf ∧ tn i zf.heap ∧ (∀ b ∈ fp, Hx b = none) ∧ Z i j Hx := fun {zf Hf} i' n' => by
        obtain ⟨j, hj, zj⟩ := toN Hf n'
        have kept : ∀ b ∈ fp, ∀ o, zz.heap.get? b = some o → zf.heap.get? b = some o ∧ Hf b = none := fun b hb o e => by
          have q := i'.pin (b, o) (List.mem_append_right _ (List.mem_append_right _ (mem_pinsAt hb e)))
          exact ⟨q.1, q.2.1⟩
        have len : (wipe σ (own.map (·.2))).length = τ.length := by rw [← w1, wipe_length]
        refine ⟨j, hj, i + 1, Hf, (i'.unpinned (pins := [])).weak len (fun a v e => by rw [← w1] at e; exact (wipe_some e).1), T.keep _ _ _ tz fun b hb o e => (kept b hb o e).1, fun b hb => ?_, zj⟩
        obtain ⟨o, e, _⟩ := T.obj _ _ tz b hb
        exact (kept b hb o e).2
      cases b with
      | false =>
        rw [if_neg Bool.false_ne_true] at q2 ⊢
        exact fin i2 q2
      | true =>
        rw [if_pos rfl] at q2 ⊢
        refine thnF (re.run _ z2 τ H2 _ i2 q2) fun v z3 h3 => ?_
        obtain ⟨yv, H3, i3, r3, n, S, c, rfl, hD, room, nx3⟩ := h3
        have hv : ∃ t, v = Value.int n t := r3
        obtain ⟨t, rfl⟩ := hv
        exact setR_add (setO_get (X := X.blk zc Hc scope en fp) i3 hD) room fun h' sb new => by
          have ex : ∃ o, h'.get? p = some o := let ⟨o, _, _, _, ho, _⟩ := new; ⟨o, ho⟩
          exact fin (i3.write (e := p) (t' := z3.toks + 1) (by rw [hD]; trivial) (.inl rfl) (fun b o hb ho => (sb.2 b hb).trans ho) ex (setO_new new)) nx3
  exact PpSet.codeAny_compStart_set laps (T.self X.A 0 _ _ _ t2 laps)
theorem pe_setI {elt tg iter : Expr} {ifs : List Expr} {scope : Scope} {own : List (PySem.Str × Nat)} {pos : Pos} {wi : TI} {g : TG} {tt : TT} {te : TE} (hc : X.calm = true) (hN : X.N.Nodup) (hi : PI X tg iter wi) (ok : BlkOk X.N X.env.scope scope own)
    (Pg : ∀ (y : Shared) (Hy : Hp) (c : Addr) (l : List (PySem.Str × Addr)) (q : List Addr), PG (X.blk y Hy scope (compEnvC scope l c X.env) q) tg g)
    (Pt : ∀ (y : Shared) (Hy : Hp) (c : Addr) (l : List (PySem.Str × Addr)) (q : List Addr), PTs (X.blk y Hy scope (compEnvC scope l c X.env) q) ifs tt)
    (Pe : ∀ (y : Shared) (Hy : Hp) (c : Addr) (l : List (PySem.Str × Addr)) (q : List Addr), PE (X.blk y Hy scope (compEnvC scope l c X.env) q) elt te)
    (hs : ∀ x, foldedSetIterable iter X.env x = pure x) : PE X (.SetComp elt [⟨tg, iter, ifs, 0⟩] scope pos) (tSetI X.w wi g tt te (own.map (·.2))) := by
  refine ⟨fun ps z σ H Q inv h => ?_⟩
  rw [PpSet.eval_SetComp]
  refine setI_run hc hN inv hi ok Pg Pt Pe hs h fun p c y m Hy iy q hm fp => ?_
  obtain ⟨a0, a1, a2, a3, a4, a5⟩ := fp
  exact ⟨m, hm, fun _ sb => ⟨.ref p, Hy, iy.turned (t' := y.toks) (fun b o hb e => (sb.2 b hb).trans e) a0 a1 a3 a4 a5, rfl, q⟩⟩
end
end Dl

set_option Elab.async false
set_option linter.all false
set_option maxRecDepth 100000
set_option maxHeartbeats 4000000
/-! Data layer, part 7: sorted({..}), sorted, sum, repr of one value, a chain of comparisons, {..}.get(..), comprehensions over range. -/
namespace Dl
open PySem PySem.Spec PyProof.Rows L2
/-- two strictly ascending lists with the same members -/
theorem asc_eq : ∀ {xs ys : List Int}, xs.Pairwise (· < ·) → ys.Pairwise (· < ·) → (∀ k, k ∈ xs ↔ k ∈ ys) → xs = ys
  | [], [], _, _, _ => rfl
  | [], y :: ys, _, _, h => by have := (h y).mpr (List.mem_cons_self ..); simp at this
  | x :: xs, [], _, _, h => by have := (h x).mp (List.mem_cons_self ..); simp at this
  | x :: xs, y :: ys, hx, hy, h => by
    obtain ⟨hx1, hx2⟩ := List.pairwise_cons.mp hx
    obtain ⟨hy1, hy2⟩ := List.pairwise_cons.mp hy
    have e : x = y := by
      have a := (h x).mp (List.mem_cons_self ..)
      have b := (h y).mpr (List.mem_cons_self ..)
      rcases List.mem_cons.mp a with a | a
      · exact a
      · rcases List.mem_cons.mp b with b | b
        · exact b.symm
        · have := hx1 y b; have := hy1 x a; omega
    subst e
    rw [asc_eq hx2 hy2 fun k => ?_]
    constructor
    · intro q
      rcases List.mem_cons.mp ((h k).mp (List.mem_cons_of_mem _ q)) with z | z
      · have := hx1 k q; omega
      · exact z
    · intro q
      rcases List.mem_cons.mp ((h k).mpr (List.mem_cons_of_mem _ q)) with z | z
      · have := hy1 k q; omega
      · exact z
theorem asc_of_le : ∀ {xs : List Int}, xs.Pairwise (· ≤ ·) → xs.Nodup → xs.Pairwise (· < ·)
  | [], _, _ => .nil
  | x :: xs, h, n => by
    obtain ⟨h1, h2⟩ := List.pairwise_cons.mp h
    obtain ⟨n1, n2⟩ := List.nodup_cons.mp n
    refine List.pairwise_cons.mpr ⟨fun y hy => ?_, asc_of_le h2 n2⟩
    have := h1 y hy
    have : x ≠ y := fun z => n1 (z ▸ hy)
    omega
theorem ints_dq {K : PySem.W.Frag} {H : Hp} : ∀ ns : List Int, DqAll K H (ns.map V.int) (ns.map PyData.int)
  | [] => .nil
  | n :: ns => .cons (.int n) (ints_dq ns)
theorem ints_v {K : PySem.W.Frag} {H : Hp} : ∀ {ns : List Int} {xs : List V}, DqAll K H xs (ns.map PyData.int) → xs = ns.map V.int
  | [], _, h => by cases h; rfl
  | n :: ns, _, h => by
    cases h with
    | cons a b => rw [dp_int a, ints_v b]; rfl
section
variable {X : Cx} {M : List Addr} {σ : L2.St} {H H' : Hp} {e a b c o elt tg iter : Expr} {ifs : List Expr} {scope : Scope} {own : List (Str × Nat)} {es : List Expr} {d d1 d2 : PyData} {ds ds2 : List PyData} {x : Str} {v : V} {pos p1 p2 p3 : Pos}
theorem set_list {w : World} {K : PySem.W.Frag} {a : Addr} {xs : List V} {g : TG} {tt : TT} {te : TE} {vs : List Nat} {Ha : Hp} {p : Addr} {Qd : Hp → Prop} (Pv : Nat → Hp → Prop) (h0 : Pv 0 (upd Ha p (SetO w p (fun _ => false) 0)))
    (hl : ∀ i Hb, i ≤ xs.length → Pv i Hb → SqL K Hb a xs)
    (hs : ∀ i x Hc, xs[i]? = some x → Pv i Hc → g x (wipe σ vs) Hc fun τ Hd => wipe τ vs = wipe σ vs ∧ tt τ Hd fun b He =>
      if b = true then te τ He fun y Hf => ∃ (n : Int) (S : Int → Bool) (c : Nat), y = .int n ∧ Hf p = some (SetO w p S c) ∧ c + 1 < scanBound ∧ Pv (i + 1) (upd Hf p (SetO w p (fun j => S j || decide (j = n)) (if S n = true then c else c + 1))) else Pv (i + 1) He)
    (hd : ∀ Hb, Pv xs.length Hb → Qd Hb) :
    ∃ Z : Nat → Nat → Hp → Prop, (∃ k, Z 0 k (upd Ha p (SetO w p (fun _ => false) 0))) ∧ ∀ i k Hb, Z i k Hb → ((Itl K a).stop i Hb ∧ Qd Hb) ∨ ((Itl K a).go i Hb ∧ ∃ Nx : Hp → Prop, (∀ Hc, Nx Hc → ∃ j, j < k ∧ Z (i + 1) j Hc) ∧
      ∀ x Hc, (Itl K a).yld i Hb x Hc → g x (wipe σ vs) Hc fun τ Hd => wipe τ vs = wipe σ vs ∧ tt τ Hd fun b He =>
        if b = true then te τ He fun y Hf => ∃ (n : Int) (S : Int → Bool) (c : Nat), y = .int n ∧ Hf p = some (SetO w p S c) ∧ c + 1 < scanBound ∧ Nx (upd Hf p (SetO w p (fun j => S j || decide (j = n)) (if S n = true then c else c + 1))) else Nx He) := by
  refine ⟨fun i k Hb => k + i = xs.length ∧ Pv i Hb, ⟨xs.length, rfl, h0⟩, fun i k Hb hz => ?_⟩
  obtain ⟨hk, hp⟩ := hz
  have here := hl i Hb (by omega) hp
  cases e : xs[i]? with
  | none =>
    have hge : xs.length ≤ i := List.getElem?_eq_none_iff.mp e
    have ei : i = xs.length := by omega
    subst ei
    exact .inl ⟨⟨xs, here, hge⟩, hd Hb hp⟩
  | some x0 =>
    have hlt := (List.getElem?_eq_some_iff.mp e).1
    refine .inr ⟨⟨xs, x0, here, e⟩, Pv (i + 1), fun Hc hc => ⟨k - 1, by omega, by omega, hc⟩, fun x Hc hy => ?_⟩
    obtain ⟨rfl, hy⟩ := hy
    exact hs i x _ (hy xs here) hp
/-- sorted({elt for tg in iter if ..}) -/
theorem xl_sortedSet (f : PyData → Option Int) (ns : List Int) (hm : X.mg "sorted" = none) (L : Live M H) (hN : X.N.Nodup) (hit : XD X M σ H iter (.list ds)) (ok : BlkOk X.N X.env.scope scope own) (hz : ds.length ≤ 60)
    (hst : ∀ p d v H1, d ∈ ds → H p = none → Same H H1 → Live (p :: M) H1 → Dq X.K (hid (p :: M) H1) v d → BG X scope tg v (wipe σ (own.map (·.2))) H1 fun τ H2 => wipe τ (own.map (·.2)) = wipe σ (own.map (·.2)) ∧ BT X scope ifs τ H2 fun k H3 =>
      Same H1 H3 ∧ ((k = true ∧ ∃ n, f d = some n ∧ BE X scope elt τ H3 fun y H4 => Same H3 H4 ∧ y = .int n) ∨ (k = false ∧ f d = none)))
    (hasc : ns.Pairwise (· < ·)) (hmem : ∀ k, k ∈ ns ↔ ∃ d ∈ ds, f d = some k) (hc : X.calm = true := by rfl) (hs : ∀ x, foldedSetIterable iter X.env x = pure x := by intro _; rfl) (hg : Gl X "sorted" := by rfl)
    (he : starEach [.SetComp elt [⟨tg, iter, ifs, 0⟩] scope pos] X.env = (false, eval (.SetComp elt [⟨tg, iter, ifs, 0⟩] scope pos) X.env) :: starEach [] X.env := by rfl) (hpl : (backTo p2 (starEach [] X.env)).any (·.1) = false := by rfl) :
    XL X M σ H (.Call (.Name "sorted" p1) [.SetComp elt [⟨tg, iter, ifs, 0⟩] scope pos] [] p2) (ns.map PyData.int) := fun H1 s1 Q q => by
  refine re_B (cr_sortedSet hc) (ra_1 ⟨_, pe_setI (own := own) hc hN (pi_list re_) ok (fun _ _ _ _ _ => bg_) (fun _ _ _ _ _ => bt_) (fun _ _ _ _ _ => be_) hs, hit H1 s1 _ fun v H2 s2 hv => ?_⟩ he) hm (by decide +kernel) hg (by decide) (by decide) he hpl
  obtain ⟨a, xs, rfl, ha, hx⟩ := dp_lst hv
  have L2' : Live M H2 := L.mono (s1.trans s2)
  refine ⟨a, rfl, ⟨xs, SqL.of (hid_le _ _ ha)⟩, fun p hp => ?_⟩
  have hp0 : H p = none := (s1.trans s2).free hp
  refine set_list (xs := xs) (a := a) (fun i H' => Same H2 H' ∧ ∃ S c, H' p = some (SetO X.w p S c) ∧ c ≤ i ∧ ∀ k, S k = true ↔ ∃ d ∈ ds.take i, f d = some k)
    ⟨same_new hp, fun _ => false, 0, upd_same, Nat.le_refl _, fun k => by simp⟩ (fun i H' _ z => SqL.of (z.1 _ _ (hid_le _ _ ha))) (fun i x H' hi z => ?_) (fun H' z => ?_)
  · obtain ⟨sH, S, n, hS, hn, hk⟩ := z
    obtain ⟨d, hd1, hd2⟩ := dpa_get' hx hi
    have hdm : d ∈ ds := List.mem_of_getElem? hd1
    have hi60 : i < 60 := by have := (List.getElem?_eq_some_iff.mp hd1).1; omega
    have etake : ds.take (i + 1) = ds.take i ++ [d] := by rw [List.take_add_one, hd1]; rfl
    have Lp : Live (p :: M) H' := fun b hb => by
      rcases List.mem_cons.mp hb with z | hb
      · subst z; rw [hS]; simp
      · exact L2'.mono sH b hb
    refine bg_mono (hst p d x H' hdm hp0 ((s1.trans s2).trans sH) Lp (hd2.up (hid_step hp sH))) fun τ Ha ⟨hw, hbt⟩ => ⟨hw, bt_mono hbt fun k Hb ⟨sb, hk'⟩ => ?_⟩
    rcases hk' with ⟨hk1, m, hf, hbe⟩ | ⟨hk1, hf⟩
    · subst hk1
      refine iteT (be_mono hbe fun y Hc ⟨sc, hy⟩ => ?_)
      have sd := sb.trans sc
      refine ⟨m, S, n, hy, sd _ _ hS, Nat.lt_of_lt_of_le (by omega : n + 1 < 4096) (Nat.le_refl _), fun b o e => ?_, fun j => S j || decide (j = m), (if S m = true then n else n + 1), upd_same, by split <;> omega, fun j => ?_⟩
      · rw [upd_ne (ne_of_none e hp)]
        exact sd _ _ (sH _ _ e)
      · rw [Bool.or_eq_true, decide_eq_true_eq, hk j, etake]
        constructor
        · rintro (⟨d', h1, h2⟩ | h)
          · exact ⟨d', List.mem_append_left _ h1, h2⟩
          · exact ⟨d, List.mem_append_right _ (List.mem_singleton.mpr rfl), by rw [hf, h]⟩
        · rintro ⟨d', h1, h2⟩
          rcases List.mem_append.mp h1 with h1 | h1
          · exact .inl ⟨d', h1, h2⟩
          · rw [List.mem_singleton.mp h1, hf] at h2
            exact .inr (Option.some.inj h2).symm
    · subst hk1
      refine iteF ⟨sH.trans sb, S, n, sb _ _ hS, by omega, fun j => ?_⟩
      rw [hk j, etake]
      constructor
      · rintro ⟨d', h1, h2⟩
        exact ⟨d', List.mem_append_left _ h1, h2⟩
      · rintro ⟨d', h1, h2⟩
        rcases List.mem_append.mp h1 with h1 | h1
        · exact ⟨d', h1, h2⟩
        · rw [List.mem_singleton.mp h1, hf] at h2
          cases h2
  · obtain ⟨sH, S, n, hS, hn, hk⟩ := z
    have hlen := dpa_len hx
    rw [hlen, List.take_length] at hk
    refine ⟨p, S, n, rfl, hS, by omega, fun ks l h1 h2 _ hl => ?_⟩
    have e : ks = ns := asc_eq h1 hasc fun k => (h2 k).trans ((hk k).trans (hmem k).symm)
    subst e
    refine q l _ _ ((s2.trans sH).trans (same_new hl)) ((s2.trans sH).free hl) upd_same ?_
    rw [hid_new (L2'.mono sH) hl]
    exact ints_dq ks
/-- sorted(l), l a list of different whole numbers -/
theorem xl_sortedI {ms : List Int} (ns : List Int) (hm : X.mg "sorted" = none) (L : Live M H) (ha : XD X M σ H e (.list (ms.map PyData.int))) (hz : ms.length < 64) (hnd : ms.Nodup) (hasc : ns.Pairwise (· < ·)) (hmem : ∀ k, k ∈ ns ↔ k ∈ ms) (hg : Gl X "sorted" := by rfl)
    (he : starEach [e] X.env = (false, eval e X.env) :: starEach [] X.env := by rfl) (hpl : (backTo p2 (starEach [] X.env)).any (·.1) = false := by rfl) : XL X M σ H (.Call (.Name "sorted" p1) [e] [] p2) (ns.map PyData.int) := fun H1 s1 Q q =>
  re_B cr_sorted (ra_1 (ha H1 s1 _ fun v H2 s2 hv => by
    obtain ⟨a, xs, rfl, ha, hx⟩ := dp_lst hv
    have ex := ints_v hx
    subst ex
    refine ⟨a, ms, rfl, SqL.of (hid_le _ _ ha), hz, fun ks l h1 h2 hl => ?_⟩
    have e : ks = ns := asc_eq (asc_of_le h2 (h1.nodup_iff.mpr hnd)) hasc fun k => h1.mem_iff.trans (hmem k).symm
    subst e
    refine q l _ _ (s2.trans (same_new hl)) (s2.free hl) upd_same ?_
    rw [hid_new (L.mono (s1.trans s2)) hl]
    exact ints_dq ks) he) hm (by decide +kernel) hg (by decide) (by decide) he hpl
/-- sum(l) -/
theorem xd_sum {ns : List Int} (hm : X.mg "sum" = none) (ha : XD X M σ H e (.list (ns.map PyData.int))) (hc : X.calm = true := by rfl) (hg : Gl X "sum" := by rfl)
    (he : starEach [e] X.env = (false, eval e X.env) :: starEach [] X.env := by rfl) (hpl : (backTo p2 (starEach [] X.env)).any (·.1) = false := by rfl) : XD X M σ H (.Call (.Name "sum" p1) [e] [] p2) (.int ns.sum) := fun H1 s1 Q q =>
  re_B (cr_sum hc) (ra_1 (ha H1 s1 _ fun v H2 s2 hv => by
    obtain ⟨a, xs, rfl, ha, hx⟩ := dp_lst hv
    have ex := ints_v hx
    subst ex
    exact ⟨a, ns, rfl, SqL.of (hid_le _ _ ha), q _ H2 s2 (.int _)⟩) he) hm (by decide +kernel) hg (by decide) (by decide) he hpl
/-! ### repr of one value -/
/-- a whole number of few digits, or None -/
def Plain (d : PyData) : Prop := d = .none ∨ ∃ i : Int, d = .int i ∧ i.natAbs.log2 < 1920
def txt : PyData → Str
  | .int i => Str.ofString (toString i)
  | _ => "None"
theorem call_reprN : CallR X (.builtin "repr") (fun xs H Q => xs = [.non] ∧ Q (.str "None") H) := by
  intro pins s σ H xs us Q I r h
  obtain ⟨rfl, q⟩ := h
  obtain ⟨u, rfl, rx⟩ := vals1 r
  cases rx
  exact PySem.P.repr_of_none ⟨.str _, H, I.tok _, ⟨_, rfl⟩, q⟩
theorem xd_reprP (hm : X.mg "repr" = none) (h : Plain d) (ha : XD X M σ H e d) (hg : Gl X "repr" := by rfl)
    (he : starEach [e] X.env = (false, eval e X.env) :: starEach [] X.env := by rfl) (hpl : (backTo p2 (starEach [] X.env)).any (·.1) = false := by rfl) : XD X M σ H (.Call (.Name "repr" p1) [e] [] p2) (.str (txt d)) := fun H1 s1 Q q => by
  rcases h with rfl | ⟨i, rfl, hi⟩
  · exact re_B call_reprN (ra_1 (ha H1 s1 _ fun v H2 s2 hv => ⟨by rw [dp_non hv], q _ H2 s2 (.str _)⟩) he) hm (by decide +kernel) hg (by decide) (by decide) he hpl
  · exact re_B SkE.call_repr_int (ra_1 (ha H1 s1 _ fun v H2 s2 hv => ⟨i, by rw [dp_int hv], hi, q _ H2 s2 (.str _)⟩) he) hm (by decide +kernel) hg (by decide) (by decide) he hpl
theorem xt_reprNeP {pa pb : Pos} (hm : X.mg "repr" = none) (h : Plain d) (ha : XD X M σ H a d) (hb : XD X M σ H b d) (hg : Gl X "repr" := by rfl)
    (he : starEach [a] X.env = (false, eval a X.env) :: starEach [] X.env := by rfl) (hpl : (backTo pa (starEach [] X.env)).any (·.1) = false := by rfl) (he2 : starEach [b] X.env = (false, eval b X.env) :: starEach [] X.env := by rfl) (hpl2 : (backTo pb (starEach [] X.env)).any (·.1) = false := by rfl) :
    XT X σ H (.Compare (.Call (.Name "repr" p1) [a] [] pa) [.NotEq] [.Call (.Name "repr" p2) [b] [] pb] pos) false :=
  xt_cmp op_ne (xd_reprP hm h ha hg he hpl) (xd_reprP hm h hb hg he2 hpl2) fun H1 v w s hv hw Q q => by
    rw [dp_str hv, dp_str hw]
    exact ⟨rfl, by rw [decide_eq_true rfl]; exact q H1 (Same.refl _)⟩
/-! ### l <= x < h -/
theorem xt_chainI {op op' : CmpOp} {g g' : Int → Int → Bool} {l m n : Int} (ho : OpR X (compareOp op) (rI0 fun i j => .bl (g i j))) (ho' : OpR X (compareOp op') (rI0 fun i j => .bl (g' i j))) (ha : XD X M σ H a (.int l)) (hb : XD X M σ H b (.int m)) (hc : XD X M σ H c (.int n))
    (hm : lastMarks [op, op'] [b, c] = false := by with_unfolding_all rfl) : XT X σ H (.Compare a [op, op'] [b, c] pos) (g l m && g' m n) := fun H1 s Q q =>
  ⟨_, pt_chain ho ho' re_ re_ re_ hm, ha H1 s _ fun v H2 s2 hv => hb H2 (s.trans s2) _ fun u H3 s3 hu => ⟨l, m, dp_int hv, dp_int hu, g l m, rfl, by
    cases e : g l m with
    | false =>
      rw [e] at q
      exact iteF ⟨false, rfl, q H3 (s2.trans s3)⟩
    | true =>
      rw [e] at q
      exact iteT (hc H3 ((s.trans s2).trans s3) _ fun y H4 s4 hy => ⟨m, n, dp_int hu, dp_int hy, g' m n, rfl, q H4 ((s2.trans s3).trans s4)⟩)⟩⟩
/-! ### {k1: a, k2: b}.get(c) -/
theorem xd_get2 {k1 k2 k : Str} {i1 i2 : Int} {j1 j2 : _} {q1 q2 : Pos} (hu : X.A.units + 1 < cLine) (ha : XD X M σ H a (.int i1)) (hb : XD X M σ H b (.int i2)) (hk : XD X M σ H c (.str k)) (hne : k1 ≠ k2)
    (mm : M1 X (.Dict [some (.Constant (.str k1) j1 q1), some (.Constant (.str k2) j2 q2)] [a, b] pos) "get" p1 c p2) :
    XD X M σ H (.Call (.Attribute (.Dict [some (.Constant (.str k1) j1 q1), some (.Constant (.str k2) j2 q2)] [a, b] pos) "get" p1) [c] [] p2) (if k = k1 then .int i1 else if k = k2 then .int i2 else .none) := fun H1 s1 Q q =>
  ⟨_, pe_dget1 hu (pe_disp (pps_cons pe_str re_ (pps_cons pe_str re_ pps_nil)) rfl rfl (by simp) (by simp)) re_ mm, fun p hp => ha _ (s1.trans (same_new hp)) _ fun v H2 s2 hv => hb H2 ((s1.trans (same_new hp)).trans s2) _ fun u H3 s3 hu => by
    have s13 : Same H1 H3 := ((same_new hp).trans s2).trans s3
    have h3p : H3 p = some (.dK []) := s3 _ _ (s2 _ _ upd_same)
    refine ⟨h3p, [(.inr k1, .int i1), (.inr k2, .int i2)], by rw [dp_int hv, dp_int hu]; rfl, by simp, p, rfl, .inl ⟨_, .inl upd_same⟩, ?_⟩
    have sx : Same H1 (upd H3 p (.dK (mergeK [] [(.inr k1, .int i1), (.inr k2, .int i2)]))) := fun b o e => by
      rw [upd_ne (ne_of_none e hp)]
      exact s13 b o e
    refine hk _ (s1.trans sx) _ fun y H4 s4 hy => ?_
    rw [dp_str hy]
    have e : mergeK [] [((Sum.inr k1 : L2.Key), V.int i1), (.inr k2, .int i2)] = [(.inr k1, .int i1), (.inr k2, .int i2)] := by
      have n : (Sum.inr k1 : L2.Key) ≠ .inr k2 := fun z => hne (Sum.inr.inj z)
      show putK (putK [] (Sum.inr k1 : L2.Key) (V.int i1)) (.inr k2) (.int i2) = _
      have e1 : putK [] (Sum.inr k1 : L2.Key) (V.int i1) = [(.inr k1, .int i1)] := rfl
      rw [e1]
      unfold putK
      rw [if_neg (by simp [hne])]
      rfl
    rw [e] at s4
    refine ⟨_, DGet.k (k := .inr k) (s4 _ _ upd_same), q _ H4 ?_ ?_⟩
    · rw [e] at sx; exact sx.trans s4
    · by_cases h1 : k = k1
      · subst h1
        rw [valV_pos rfl, if_pos rfl]
        exact .int _
      · rw [valV_neg (fun z => h1 (Sum.inr.inj z).symm), if_neg h1]
        by_cases h2 : k = k2
        · subst h2
          rw [valV_pos rfl, if_pos rfl]
          exact .int _
        · rw [valV_neg (fun z => h2 (Sum.inr.inj z).symm), if_neg h2, valV_nil]
          exact .non⟩
/-! ### [.. for x in range(a, b)], whole numbers -/
theorem xl_range2 {lo hi : Int} (g : Int → Int) (hm : X.mg "range" = none) (L : Live M H) (hN : X.N.Nodup) (ha : XD X M σ H a (.int lo)) (hb : XD X M σ H b (.int hi)) (ok : BlkOk X.N X.env.scope scope own) (hz : (-(1000 : Int) ≤ lo ∧ lo ≤ 1000) ∧ (-(1000 : Int) ≤ hi ∧ hi ≤ 1000))
    (hst : ∀ i H1, Same H H1 → BG X scope tg (.int i) (wipe σ (own.map (·.2))) H1 fun τ H2 => wipe τ (own.map (·.2)) = wipe σ (own.map (·.2)) ∧ Same H1 H2 ∧ BE X scope elt τ H2 fun y H3 => Same H2 H3 ∧ y = .int (g i))
    (hc : X.calm = true := by rfl) (hs : ∀ x, foldedSetIterable (.Call (.Name "range" p1) [a, b] [] p2) X.env x = pure x := by intro _; rfl) (hg : Gl X "range" := by rfl)
    (he : starEach [a, b] X.env = (false, eval a X.env) :: starEach [b] X.env := by rfl) (he2 : starEach [b] X.env = (false, eval b X.env) :: starEach [] X.env := by rfl)
    (he3 : starEach [b] X.env = [(false, eval b X.env)] := by rfl) : XL X M σ H (.ListComp elt [⟨tg, .Call (.Name "range" p1) [a, b] [] p2, [], 0⟩] scope pos) ((List.range (hi - lo).toNat).map fun i : Nat => PyData.int (g (lo + i))) := fun H1 s1 Q q =>
  ⟨_, pe_lc (own := own) hc hN (pi_range2 hg hm ra_ (by rw [he, he3]) he3) ok (fun _ _ _ _ _ => bg_) (fun _ _ _ _ _ => bt_) (fun _ _ _ _ _ => be_) hs, ra_cons (ha H1 s1 _ fun v H2 s2 hv => ra_1 (hb H2 (s1.trans s2) _ fun u H3 s3 hu => by
    have b1 : (1000 : Int) < 2 ^ 62 := by decide
    refine ⟨lo, hi, by rw [dp_int hv, dp_int hu], ⟨by omega, by omega, by omega, by omega⟩, fun p hp => ?_⟩
    have s13 := s2.trans s3
    have L3 := L.mono (s1.trans s13)
    refine lc_range (fun i H' => Same H3 H' ∧ ∃ acc, H' p = some (.lst acc) ∧ acc = ((List.range i).map fun i : Nat => V.int (g (lo + i)))) ⟨same_new hp, [], upd_same, rfl⟩ (fun i H' hi' z => ?_) (fun H' z => ?_)
    · obtain ⟨sH, acc, hacc, ea⟩ := z
      refine bg_mono (hst (lo + i) H' ((s1.trans s13).trans sH)) fun τ Ha ⟨hw, sa, hbe⟩ => ⟨hw, bt_nil (iteT (be_mono hbe fun y Hb ⟨sb, ey⟩ => ?_))⟩
      have sd := sa.trans sb
      refine ⟨acc, sd _ _ hacc, ?_, fun b o e => ?_, _, upd_same, ?_⟩
      · have h4 : 100000 < sizeLine := by decide
        rw [ea, List.length_map, List.length_range]
        omega
      · rw [upd_ne (ne_of_none e hp)]
        exact sd _ _ (sH _ _ e)
      · rw [ea, ey, List.range_succ, List.map_append]
        rfl
    · obtain ⟨sH, acc, hacc, ea⟩ := z
      refine q p acc H' (s13.trans sH) (s13.free hp) hacc ?_
      rw [ea]
      have e := ints_dq (K := X.K) (H := hid M H') ((List.range (hi - lo).toNat).map fun i : Nat => g (lo + i))
      rw [List.map_map, List.map_map] at e
      exact e) he2) he⟩
end
end Dl

set_option Elab.async false
set_option linter.all false
set_option maxRecDepth 100000
set_option maxHeartbeats 4000000
/-! Data layer, part 8: x = [..] on one line. -/
namespace Dl
open PySem PySem.Spec PyProof.Rows L2
section
variable {X : Cx} {M : List Addr} {σ : L2.St} {H H' : Hp} {e a b c o elt tg iter : Expr} {ifs : List Expr} {scope : Scope} {own : List (Str × Nat)} {es : List Expr} {d : PyData} {ds : List PyData} {x : Str} {v : V} {pos p0 p1 p2 p3 p4 : Pos} {D : Ends} {rest : List Stmt}
/-- a comprehension; Pv: what more is known of each item -/
theorem lc_P (f : PyData → Option PyData) (Pv : Addr → V → Hp → Prop) (mono : ∀ p v H1 H2, (∀ b o, b ≠ p → H1 b = some o → H2 b = some o) → Pv p v H1 → Pv p v H2) (L : Live M H) (hN : X.N.Nodup) (hit : XD X M σ H iter (.list ds)) (ok : BlkOk X.N X.env.scope scope own) (hz : ds.length ≤ 100000)
    (hst : ∀ p d v H1, d ∈ ds → H p = none → Same H H1 → Live (p :: M) H1 → Dq X.K (hid (p :: M) H1) v d → BG X scope tg v (wipe σ (own.map (·.2))) H1 fun σ2 H2 => wipe σ2 (own.map (·.2)) = wipe σ (own.map (·.2)) ∧ BT X scope ifs σ2 H2 fun k H3 =>
      Same H1 H3 ∧ ((k = true ∧ ∃ d', f d = some d' ∧ BE X scope elt σ2 H3 fun y H4 => Same H3 H4 ∧ Dq X.K (hid (p :: M) H4) y d' ∧ Pv p y H4) ∨ (k = false ∧ f d = none)))
    {Q : VK} (q : ∀ p xs H2, Same H H2 → H p = none → H2 p = some (.lst xs) → DqAll X.K (hid (p :: M) H2) xs (ds.filterMap f) → (∀ v ∈ xs, Pv p v H2) → Q (.ref p) H2)
    : ∃ wi, PI X tg iter wi ∧ tLc wi (BG X scope tg) (BT X scope ifs) (BE X scope elt) (own.map (·.2)) σ H Q :=
  ⟨_, pi_list re_, hit H (Same.refl H) _ fun v H2 s2 hv => by
    obtain ⟨a, xs, rfl, ha, hx⟩ := dp_lst hv
    have L2' : Live M H2 := L.mono s2
    refine ⟨a, rfl, ⟨xs, SqL.of (hid_le _ _ ha)⟩, fun p hp => ?_⟩
    have hpM : p ∉ M := L2'.fresh hp
    have hp0 : H p = none := s2.free hp
    refine lc_list (xs := xs) (a := a) (fun i H' => Same H2 H' ∧ ∃ acc, H' p = some (.lst acc) ∧ DqAll X.K (hid (p :: M) H') acc ((ds.take i).filterMap f) ∧ ∀ v ∈ acc, Pv p v H') ⟨same_new hp, [], upd_same, by simpa using DqAll.nil, fun v hv => by simp at hv⟩ (fun i H' _ w => SqL.of (w.1 _ _ (hid_le _ _ ha))) (fun i x H' hi w => ?_) (fun H' w => ?_)
    · obtain ⟨sH, acc, hacc, hda, hpv⟩ := w
      obtain ⟨d, hd1, hd2⟩ := dpa_get' hx hi
      have hdm : d ∈ ds := List.mem_of_getElem? hd1
      have etake : ds.take (i + 1) = ds.take i ++ [d] := by
        rw [List.take_add_one, hd1]; rfl
      have hlen : acc.length < sizeLine := by
        rw [dpa_len hda]
        have h1 : ((ds.take i).filterMap f).length ≤ (ds.take i).length := List.length_filterMap_le ..
        have h2 : (ds.take i).length ≤ i := by rw [List.length_take]; omega
        have h3 : i < ds.length := (List.getElem?_eq_some_iff.mp hd1).1
        have h4 : 100000 < sizeLine := by decide
        omega
      have Lp : Live (p :: M) H' := fun b hb => by
        rcases List.mem_cons.mp hb with z | hb
        · subst z; rw [hacc]; simp
        · exact L2'.mono sH b hb
      have kx : Dq X.K (hid (p :: M) H') x d := hd2.up (hid_step hp sH)
      refine bg_mono (hst p d x H' hdm hp0 (s2.trans sH) Lp kx) fun σ2 Ha ⟨hw, hbt⟩ => ⟨hw, bt_mono hbt fun k Hb ⟨sb, hk⟩ => ?_⟩
      have sH' : Same H' Hb := sb
      rcases hk with ⟨hk, d', hf, hbe⟩ | ⟨hk, hf⟩
      · subst hk
        refine iteT (be_mono hbe fun y Hc ⟨sc, hy, hpy⟩ => ?_)
        have sd := sH'.trans sc
        refine ⟨acc, sd _ _ hacc, hlen, fun b o e => ?_, acc ++ [y], upd_same, ?_, fun v hv => ?_⟩
        · have nb : b ≠ p := ne_of_none e hp
          rw [upd_ne nb]
          exact sd _ _ (sH _ _ e)
        · rw [hid_upd_ne, etake, List.filterMap_append]
          have e2 : [d].filterMap f = [d'] := by simp [hf]
          rw [e2]
          exact dpa_app (hda.up (hid_mono sd)) (.cons hy .nil)
        · rcases List.mem_append.mp hv with z | z
          · exact mono p v H' _ (fun b o nb e => by rw [upd_ne nb]; exact sd _ _ e) (hpv v z)
          · rw [List.mem_singleton.mp z]
            exact mono p y Hc _ (fun b o nb e => by rw [upd_ne nb]; exact e) hpy
      · subst hk
        refine iteF ⟨sH.trans sH', acc, sH' _ _ hacc, ?_, fun v hv => mono p v H' _ (fun b o _ e => sH' _ _ e) (hpv v hv)⟩
        rw [etake, List.filterMap_append]
        have e2 : [d].filterMap f = [] := by simp [hf]
        rw [e2, List.append_nil]
        exact hda.up (hid_mono sH')
    · obtain ⟨sH, acc, hacc, hda, hpv⟩ := w
      have e1 : ds.take xs.length = ds := by rw [dpa_len hx]; exact List.take_length
      rw [e1] at hda
      exact q p acc H' (s2.trans sH) hp0 hacc hda hpv⟩
theorem re_compP (f : PyData → Option PyData) (Pv : Addr → V → Hp → Prop) (mono : ∀ p v H1 H2, (∀ b o, b ≠ p → H1 b = some o → H2 b = some o) → Pv p v H1 → Pv p v H2) (L : Live M H) (hN : X.N.Nodup) (hit : XD X M σ H iter (.list ds)) (ok : BlkOk X.N X.env.scope scope own) (hz : ds.length ≤ 100000)
    (hst : ∀ p d v H1, d ∈ ds → H p = none → Same H H1 → Live (p :: M) H1 → Dq X.K (hid (p :: M) H1) v d → BG X scope tg v (wipe σ (own.map (·.2))) H1 fun σ2 H2 => wipe σ2 (own.map (·.2)) = wipe σ (own.map (·.2)) ∧ BT X scope ifs σ2 H2 fun k H3 =>
      Same H1 H3 ∧ ((k = true ∧ ∃ d', f d = some d' ∧ BE X scope elt σ2 H3 fun y H4 => Same H3 H4 ∧ Dq X.K (hid (p :: M) H4) y d' ∧ Pv p y H4) ∨ (k = false ∧ f d = none)))
    {Q : VK} (q : ∀ p xs H2, Same H H2 → H p = none → H2 p = some (.lst xs) → DqAll X.K (hid (p :: M) H2) xs (ds.filterMap f) → (∀ v ∈ xs, Pv p v H2) → Q (.ref p) H2)
    (hc : X.calm = true := by rfl) (hs : ∀ x, foldedSetIterable iter X.env x = pure x := by intro _; rfl) : RE X (.ListComp elt [⟨tg, iter, ifs, 0⟩] scope pos) σ H Q := by
  obtain ⟨wi, h1, h2⟩ := lc_P f Pv mono L hN hit ok hz hst q
  exact ⟨_, pe_lc (own := own) hc hN h1 ok (fun _ _ _ _ _ => bg_) (fun _ _ _ _ _ => bt_) (fun _ _ _ _ _ => be_) hs, h2⟩
/-- x = [..], on one line -/
theorem rb_setC (i : Nat) {py : Pos} {spos : Pos} (f : PyData → Option PyData) (Pv : Addr → V → Hp → Prop) (mono : ∀ p v H1 H2, (∀ b o, b ≠ p → H1 b = some o → H2 b = some o) → Pv p v H1 → Pv p v H2) (L : Live M H) (hN : X.N.Nodup) (hit : XD X M σ H iter (.list ds)) (ok : BlkOk X.N X.env.scope scope own) (hz : ds.length ≤ 100000)
    (hst : ∀ p d v H1, d ∈ ds → H p = none → Same H H1 → Live (p :: M) H1 → Dq X.K (hid (p :: M) H1) v d → BG X scope tg v (wipe σ (own.map (·.2))) H1 fun σ2 H2 => wipe σ2 (own.map (·.2)) = wipe σ (own.map (·.2)) ∧ BT X scope ifs σ2 H2 fun k H3 =>
      Same H1 H3 ∧ ((k = true ∧ ∃ d', f d = some d' ∧ BE X scope elt σ2 H3 fun y H4 => Same H3 H4 ∧ Dq X.K (hid (p :: M) H4) y d' ∧ Pv p y H4) ∨ (k = false ∧ f d = none)))
    (q : ∀ p xs H2, Same H H2 → H p = none → H2 p = some (.lst xs) → DqAll X.K (hid (p :: M) H2) xs (ds.filterMap f) → (∀ v ∈ xs, Pv p v H2) → RB X rest D (σ.set i (some (.ref p))) H2)
    (hi : X.N[i]? = some x := by rfl) (hx : X.env.scope.names.lookup x = some .local := by rfl) (hsw : swapsWith (.ListComp elt [⟨tg, iter, ifs, 0⟩] scope pos) (some (.Name x py)) spos.line X.env = pure true := by exact sw_true rfl rfl rfl rfl)
    (hc : X.calm = true := by rfl) (hs : ∀ x, foldedSetIterable iter X.env x = pure x := by intro _; rfl) : RB X (.Assign [.Name x py] (.ListComp elt [⟨tg, iter, ifs, 0⟩] scope pos) spos :: rest) D σ H := by
  obtain ⟨wi, h1, h2⟩ := lc_P (Q := fun v H1 => RB X rest D (σ.set i (some v)) H1) f Pv mono L hN hit ok hz hst q
  exact ⟨_, pss_cons (ps_setLc (own := own) hc hN hi hx hsw h1 ok (fun _ _ _ _ _ => bg_) (fun _ _ _ _ _ => bt_) (fun _ _ _ _ _ => be_) hs) rb_, h2⟩
/-- x = [..], on one line; nothing more of the items -/
theorem rb_setC0 (i : Nat) {py : Pos} {spos : Pos} (f : PyData → Option PyData) (L : Live M H) (hN : X.N.Nodup) (hit : XD X M σ H iter (.list ds)) (ok : BlkOk X.N X.env.scope scope own) (hz : ds.length ≤ 100000)
    (hst : ∀ p d v H1, d ∈ ds → H p = none → Same H H1 → Live (p :: M) H1 → Dq X.K (hid (p :: M) H1) v d → BG X scope tg v (wipe σ (own.map (·.2))) H1 fun σ2 H2 => wipe σ2 (own.map (·.2)) = wipe σ (own.map (·.2)) ∧ BT X scope ifs σ2 H2 fun k H3 =>
      Same H1 H3 ∧ ((k = true ∧ ∃ d', f d = some d' ∧ BE X scope elt σ2 H3 fun y H4 => Same H3 H4 ∧ Dq X.K (hid (p :: M) H4) y d') ∨ (k = false ∧ f d = none)))
    (q : ∀ p xs H2, Same H H2 → H p = none → H2 p = some (.lst xs) → DqAll X.K (hid M H2) xs (ds.filterMap f) → RB X rest D (σ.set i (some (.ref p))) H2)
    (hi : X.N[i]? = some x := by rfl) (hx : X.env.scope.names.lookup x = some .local := by rfl) (hsw : swapsWith (.ListComp elt [⟨tg, iter, ifs, 0⟩] scope pos) (some (.Name x py)) spos.line X.env = pure true := by exact sw_true rfl rfl rfl rfl)
    (hc : X.calm = true := by rfl) (hs : ∀ x, foldedSetIterable iter X.env x = pure x := by intro _; rfl) : RB X (.Assign [.Name x py] (.ListComp elt [⟨tg, iter, ifs, 0⟩] scope pos) spos :: rest) D σ H :=
  rb_setC i f (fun _ _ _ => True) (fun _ _ _ _ _ _ => trivial) L hN hit ok hz (fun p d v H1 hd hp s Lp hv => bg_mono (hst p d v H1 hd hp s Lp hv) fun σ2 H2 ⟨hw, hbt⟩ => ⟨hw, bt_mono hbt fun k H3 ⟨sk, hk⟩ => ⟨sk, hk.elim (fun ⟨a, d', b, c⟩ => .inl ⟨a, d', b, be_mono c fun y H4 ⟨s4, h4⟩ => ⟨s4, h4, trivial⟩⟩) .inr⟩⟩)
    (fun p xs H2 s hp h2 hx _ => q p xs H2 s hp h2 (hx.up fun b o e => by
      have n1 : b ∉ p :: M := fun z => by unfold hid at e; rw [if_pos z] at e; cases e
      rw [hid_of (fun z => n1 (List.mem_cons_of_mem _ z))]
      exact hid_le _ _ e)) hi hx hsw hc hs
end
end Dl

set_option Elab.async false
set_option linter.all false
set_option maxRecDepth 100000
set_option maxHeartbeats 8000000
/-! sorted of a list of tuples of a whole number and a text; comprehensions over range(e), any data -/
namespace Dl
open PySem PySem.Spec PyProof.Rows L2
def encIS (b : Int × Str) : PyData := .tuple [.int b.1, .str b.2]
theorem each_of {K : PySem.W.Frag} {H : Hp} : ∀ {xs : List V} {us : List Value} (bs : List (Int × Str)), Vals xs us → DqAll K H xs (bs.map encIS) → PySem.W.EachIs (fun (u : Value) b => ∃ x, RelV x u ∧ Dq K H x (encIS b)) us bs
  | _, _, [], r, h => by
    cases h
    cases r
    exact .nil
  | _, _, b :: bs, r, h => by
    cases h with
    | cons h1 h2 =>
      cases r with
      | cons r1 r2 => exact .cons ⟨_, r1, h1⟩ (each_of bs r2 h2)
theorem each_back {K : PySem.W.Frag} {H : Hp} : ∀ {us : List Value} {bs : List (Int × Str)}, PySem.W.EachIs (fun (u : Value) b => ∃ x, RelV x u ∧ Dq K H x (encIS b)) us bs → ∃ ys, Vals ys us ∧ DqAll K H ys (bs.map encIS)
  | _, _, .nil => ⟨[], .nil, .nil⟩
  | _, _, .cons ⟨x, r, d⟩ t => by
    obtain ⟨ys, h1, h2⟩ := each_back t
    exact ⟨x :: ys, .cons r h1, .cons d h2⟩
theorem perm_asc : ∀ {xs ys : List (Int × Str)}, ys.Perm xs → xs.Pairwise (fun a b => a.1 < b.1) → ys.Pairwise (fun a b => a.1 ≤ b.1) → ys = xs
  | [], ys, p, _, _ => List.Perm.eq_nil p
  | x :: xs, [], p, _, _ => absurd p.length_eq (by simp)
  | x :: xs, y :: ys, p, hx, hy => by
    obtain ⟨hx1, hx2⟩ := List.pairwise_cons.mp hx
    obtain ⟨hy1, hy2⟩ := List.pairwise_cons.mp hy
    have e : y = x := by
      rcases List.mem_cons.mp (p.mem_iff.mp (List.mem_cons_self (a := y) (l := ys))) with e | m
      · exact e
      · rcases List.mem_cons.mp (p.mem_iff.mpr (List.mem_cons_self (a := x) (l := xs))) with e | m2
        · exact e.symm
        · have a := hx1 y m
          have b := hy1 x m2
          omega
    subst e
    rw [perm_asc p.cons_inv hx2 hy2]
theorem le_first {a b : Int × Str} (h : PySem.W.dataLe false encIS a b = true) : a.1 ≤ b.1 := by
  have h' : (!PySem.W.dataLt (encIS b) (encIS a)) = true := h
  refine Classical.byContradiction fun n => ?_
  have e : PySem.W.dataLt (encIS b) (encIS a) = true := by
    show PySem.W.dataLt (.tuple [.int b.1, .str b.2]) (.tuple [.int a.1, .str a.2]) = true
    rw [PySem.W.dataLt_pair (by simp [PySem.W.alike]) (by simp [PySem.W.alike]), PySem.W.dataLt_int]
    have z : PyData.eqv (.int b.1) (.int a.1) = false := by
      simp only [PyData.eqv, beq_eq_false_iff_ne]
      omega
    rw [z, if_neg Bool.false_ne_true]
    exact decide_eq_true (by omega)
  rw [e] at h'
  cases h'
/-- sorted in this order: the ascending list of the same -/
theorem sort_is {xs ys : List (Int × Str)} (p : ys.Perm xs) (h : xs.Pairwise fun a b => a.1 < b.1) : ys.mergeSort (PySem.W.dataLe false encIS) = xs := by
  refine perm_asc ((List.mergeSort_perm _ _).trans p) h ?_
  exact (PySem.W.sort_pairwise (PySem.W.sortLe_total _ false _) ys).imp fun h => le_first h
section
variable {X : Cx} {M : List Addr} {σ : L2.St} {H : Hp} {e a elt tg : Expr} {p1 p2 pos : Pos} {scope : Scope} {own : List (Str × Nat)} {D : Ends} {rest : List Stmt} {x : Str}
theorem alike_is (b b' : Int × Str) : PySem.W.alike (encIS b) (encIS b') = true := by simp [encIS, PySem.W.alike, PySem.W.alikeAll]
theorem cr_sortedIS (hu : X.A.units + 64 < cLine) : CallR X (.builtin "sorted") (fun vs H Q => ∃ (a : Addr) (xs : List V) (bs : List (Int × Str)) (M : List Addr), vs = [V.ref a] ∧ SqL X.K H a xs ∧ DqAll X.K (hid M H) xs (bs.map encIS) ∧ bs.length ≤ 1000 ∧
    ∀ ys p, DqAll X.K (hid M H) ys ((bs.mergeSort (PySem.W.dataLe false encIS)).map encIS) → H p = none → Q (.ref p) (upd H p (.lst ys))) := by
  intro pins s σ H vs us Q I r h
  obtain ⟨a, xs, bs, M, rfl, hs, hx, hlen, q⟩ := h
  obtain ⟨its, rv, hl, hz⟩ := I.list hs
  obtain ⟨u, rfl, ru⟩ := vals1 r
  obtain rfl : u = Value.ref a := ru
  have e1 := each_of bs rv hx
  refine PySem.W.sorted_data hl.isList e1 (e1.mono fun v b ⟨x, rx, hd⟩ => Dp.reads I (encIS b) x v ((hd.up hid_le).dp) rx) (.of alike_is) (.tuples fun b => ⟨_, _, rfl⟩) (Nat.le_trans hlen (by decide)) (fun b _ => ?_) fun out ho h2 => ?_
  · have z : (encIS b).depth = 1 := by simp [encIS, PyData.depth, PyData.depthAll]
    rw [z]
    omega
  · obtain ⟨ys, y1, y2⟩ := each_back h2
    obtain ⟨n, hn⟩ := sortedAll_at s.heap its out.toArray
    have hyl : ys.length ≤ sizeLine := by
      rw [y1.length, ho]
      exact Nat.le_trans hlen (by decide)
    exact ⟨.ref (s.heap.objs.size + 1), upd H (s.heap.objs.size + 1) (.lst ys), I.laid (t' := s.toks) (fun b o k => sortedAll_old k) (Nat.le_succ _) ⟨hyl, out, n, y1, hn⟩, rfl, q ys _ y2 (I.hok.fresh (Nat.le_succ _))⟩
/-- sorted(l) -/
theorem xl_sortedIS {bs cs : List (Int × Str)} (hu : X.A.units + 64 < cLine) (hm : X.mg "sorted" = none) (L : Live M H) (ha : XD X M σ H e (.list (bs.map encIS))) (hlen : bs.length ≤ 1000) (hp : bs.Perm cs) (hc : cs.Pairwise fun a b => a.1 < b.1) (hg : Gl X "sorted" := by rfl)
    (he : starEach [e] X.env = (false, eval e X.env) :: starEach [] X.env := by rfl) (hpl : (backTo p2 (starEach [] X.env)).any (·.1) = false := by rfl) : XL X M σ H (.Call (.Name "sorted" p1) [e] [] p2) (cs.map encIS) := fun H1 s1 Q q =>
  re_B (cr_sortedIS hu) (ra_1 (ha H1 s1 _ fun v H2 s2 hv => by
    obtain ⟨a, xs, rfl, ha, hx⟩ := dp_lst hv
    refine ⟨a, xs, bs, M, rfl, SqL.of (hid_le _ _ ha), hx, hlen, fun ys l h1 hl => ?_⟩
    rw [sort_is hp hc] at h1
    refine q l ys _ (s2.trans (same_new hl)) (s2.free hl) upd_same ?_
    rw [hid_new (L.mono (s1.trans s2)) hl]
    exact h1.up (same_new (hid_free hl))) he) hm (by decide +kernel) hg (by decide) (by decide) he hpl
/-! comprehensions over range(e) -/
theorem lc_rngD (n : Nat) (hn : n ≤ 1000) (g : Nat → PyData) (L : Live M H) (ha : XD X M σ H a (.int (n : Int)))
    (hst : ∀ p (i : Nat) H1, i < n → H p = none → Same H H1 → Live (p :: M) H1 → BG X scope tg (.int (i : Int)) (wipe σ (own.map (·.2))) H1 fun τ H2 => wipe τ (own.map (·.2)) = wipe σ (own.map (·.2)) ∧ Same H1 H2 ∧ BE X scope elt τ H2 fun y H3 => Same H2 H3 ∧ Dq X.K (hid (p :: M) H3) y (g i))
    {Q : VK} (q : ∀ p xs H2, Same H H2 → H p = none → H2 p = some (.lst xs) → DqAll X.K (hid M H2) xs ((List.range n).map g) → Q (.ref p) H2) (he : starEach [a] X.env = (false, eval a X.env) :: starEach [] X.env := by rfl) :
    tLc (iRng1 (RA X [a])) (BG X scope tg) (BT X scope []) (BE X scope elt) (own.map (·.2)) σ H Q :=
  ra_1 (ha H (Same.refl H) _ fun v H2 s2 hv => by
    refine ⟨(n : Int), by rw [dp_int hv], by omega, by omega, fun p hp => ?_⟩
    have hp0 : H p = none := s2.free hp
    have L2' : Live M H2 := L.mono s2
    refine lc_range (lo := 0) (n := (n : Int).toNat) (fun i H' => Same H2 H' ∧ ∃ acc, H' p = some (.lst acc) ∧ DqAll X.K (hid (p :: M) H') acc ((List.range i).map g)) ⟨same_new hp, [], upd_same, .nil⟩ (fun i H' hi z => ?_) (fun H' z => ?_)
    · obtain ⟨sH, acc, hacc, ea⟩ := z
      have hi' : i < n := by omega
      have Lp : Live (p :: M) H' := fun b hb => by
        rcases List.mem_cons.mp hb with z | hb
        · subst z; rw [hacc]; simp
        · exact L2'.mono sH b hb
      have e0 : (0 : Int) + (i : Int) = (i : Int) := Int.zero_add _
      rw [e0]
      refine bg_mono (hst p i H' hi' hp0 (s2.trans sH) Lp) fun τ Ha ⟨hw, sa, hbe⟩ => ⟨hw, bt_nil (iteT (be_mono hbe fun y Hb ⟨sb, ey⟩ => ?_))⟩
      have sd := sa.trans sb
      refine ⟨acc, sd _ _ hacc, ?_, fun b o e => ?_, acc ++ [y], upd_same, ?_⟩
      · have h4 : 100000 < sizeLine := by decide
        rw [dpa_len ea, List.length_map, List.length_range]
        omega
      · rw [upd_ne (ne_of_none e hp)]
        exact sd _ _ (sH _ _ e)
      · rw [hid_upd_ne, List.range_succ, List.map_append]
        exact dpa_app (ea.up (hid_mono sd)) (.cons ey .nil)
    · obtain ⟨sH, acc, hacc, ea⟩ := z
      rw [Int.toNat_natCast] at ea
      refine q p acc H' (s2.trans sH) hp0 hacc (ea.up fun b o e => ?_)
      have n1 : b ∉ p :: M := fun z => by unfold hid at e; rw [if_pos z] at e; cases e
      rw [hid_of (fun z => n1 (List.mem_cons_of_mem _ z))]
      exact hid_le _ _ e) he
/-- [.. for tg in range(a)] -/
theorem xl_rngD (n : Nat) (hn : n ≤ 1000) (g : Nat → PyData) (hm : X.mg "range" = none) (L : Live M H) (hN : X.N.Nodup) (ha : XD X M σ H a (.int (n : Int))) (ok : BlkOk X.N X.env.scope scope own)
    (hst : ∀ p (i : Nat) H1, i < n → H p = none → Same H H1 → Live (p :: M) H1 → BG X scope tg (.int (i : Int)) (wipe σ (own.map (·.2))) H1 fun τ H2 => wipe τ (own.map (·.2)) = wipe σ (own.map (·.2)) ∧ Same H1 H2 ∧ BE X scope elt τ H2 fun y H3 => Same H2 H3 ∧ Dq X.K (hid (p :: M) H3) y (g i))
    (hc : X.calm = true := by rfl) (hg : Gl X "range" := by rfl) (he : starEach [a] X.env = (false, eval a X.env) :: starEach [] X.env := by rfl) (he1 : starEach [a] X.env = [(false, eval a X.env)] := by rfl) (hs : ∀ x, foldedSetIterable (.Call (.Name "range" p1) [a] [] p2) X.env x = pure x := by intro _; rfl) :
    XL X M σ H (.ListComp elt [⟨tg, .Call (.Name "range" p1) [a] [] p2, [], 0⟩] scope pos) ((List.range n).map g) := fun H1 s1 Q q =>
  ⟨_, pe_lc (own := own) hc hN (pi_range1 hg hm ra_ he1) ok (fun _ _ _ _ _ => bg_) (fun _ _ _ _ _ => bt_) (fun _ _ _ _ _ => be_) hs,
    lc_rngD (own := own) n hn g (L.mono s1) (ha.up s1) (fun p i H2 hi hp s2 Lp => hst p i H2 hi (s1.free hp) (s1.trans s2) Lp) (fun p xs H2 s2 hp h2 hx => q p xs H2 s2 hp h2 hx) he⟩
/-- x = [.. for tg in range(a)], on one line -/
theorem rb_setRD (i : Nat) {py spos : Pos} (n : Nat) (hn : n ≤ 1000) (g : Nat → PyData) (hm : X.mg "range" = none) (L : Live M H) (hN : X.N.Nodup) (ha : XD X M σ H a (.int (n : Int))) (ok : BlkOk X.N X.env.scope scope own)
    (hst : ∀ p (i : Nat) H1, i < n → H p = none → Same H H1 → Live (p :: M) H1 → BG X scope tg (.int (i : Int)) (wipe σ (own.map (·.2))) H1 fun τ H2 => wipe τ (own.map (·.2)) = wipe σ (own.map (·.2)) ∧ Same H1 H2 ∧ BE X scope elt τ H2 fun y H3 => Same H2 H3 ∧ Dq X.K (hid (p :: M) H3) y (g i))
    (q : ∀ p xs H2, Same H H2 → H p = none → H2 p = some (.lst xs) → DqAll X.K (hid M H2) xs ((List.range n).map g) → RB X rest D (σ.set i (some (.ref p))) H2)
    (hi : X.N[i]? = some x := by rfl) (hx : X.env.scope.names.lookup x = some .local := by rfl) (hsw : swapsWith (.ListComp elt [⟨tg, .Call (.Name "range" p1) [a] [] p2, [], 0⟩] scope pos) (some (.Name x py)) spos.line X.env = pure true := by exact sw_true rfl rfl rfl rfl)
    (hc : X.calm = true := by rfl) (hg : Gl X "range" := by rfl) (he : starEach [a] X.env = (false, eval a X.env) :: starEach [] X.env := by rfl) (he1 : starEach [a] X.env = [(false, eval a X.env)] := by rfl) (hs : ∀ x, foldedSetIterable (.Call (.Name "range" p1) [a] [] p2) X.env x = pure x := by intro _; rfl) :
    RB X (.Assign [.Name x py] (.ListComp elt [⟨tg, .Call (.Name "range" p1) [a] [] p2, [], 0⟩] scope pos) spos :: rest) D σ H :=
  ⟨_, pss_cons (ps_setLc (own := own) hc hN hi hx hsw (pi_range1 hg hm ra_ he1) ok (fun _ _ _ _ _ => bg_) (fun _ _ _ _ _ => bt_) (fun _ _ _ _ _ => be_) hs) rb_,
    lc_rngD (own := own) (Q := fun v H1 => RB X rest D (σ.set i (some v)) H1) n hn g L ha hst q he⟩
/-- for tg in range(a, b): .. -/
theorem rb_range2 {tg b : Expr} {body : List Stmt} {lo : Int} {n : Nat} (hm : X.mg "range" = none) (hlo : -(2 ^ 61) < lo ∧ lo < 2 ^ 61) (hn : n < 2 ^ 60) (ha : XD X M σ H a (.int lo)) (hb : XD X M σ H b (.int (lo + n)))
    (h : ∀ H1, Same H H1 → ∃ Pv : Nat → L2.St → Hp → Prop, Pv 0 σ H1 ∧
      (∀ k σ' H', k < n → Pv k σ' H' → RG X tg (.int (lo + (k : Int))) σ' H' fun σ2 H2 => RB X body { D with nx := Pv (k + 1), ct := Pv (k + 1), bk := RB X rest D } σ2 H2) ∧ ∀ σ' H', Pv n σ' H' → RB X rest D σ' H')
    (hg : Gl X "range" := by rfl) (he : starEach [a, b] X.env = (false, eval a X.env) :: starEach [b] X.env := by rfl) (he2 : starEach [b] X.env = (false, eval b X.env) :: starEach [] X.env := by rfl) (he3 : starEach [b] X.env = [(false, eval b X.env)] := by rfl)
    (hp : PassesOwn (model X.prog X.w) X.A X.env X.xe := by exact PassesOwn.never) (hc : X.calm = true := by rfl)
    (hs : ∀ x, foldedSetIterable (.Call (.Name "range" p1) [a, b] [] p2) X.env x = pure x := by intro _; rfl) : RB X (.For tg (.Call (.Name "range" p1) [a, b] [] p2) body [] pos :: rest) D σ H :=
  ⟨_, pss_cons (ps_for hp hc (pi_range2 hg hm ra_ (by rw [he, he3]) he3) rg_ rb_ hs) rb_, ra_cons (ha H (Same.refl H) _ fun v H1 s1 hv => ra_1 (hb H1 s1 _ fun u H2 s2 hu => by
    obtain ⟨Pv, h0, hst, hd⟩ := h H2 (s1.trans s2)
    refine ⟨lo, lo + n, by rw [dp_int hv, dp_int hu], ⟨by omega, by omega, by omega, by omega⟩, ?_⟩
    have e : (lo + (n : Int) - lo).toNat = n := by omega
    rw [e]
    exact for_range Pv h0 hst hd) he2) he⟩
end
end Dl

set_option Elab.async false
set_option linter.all false
set_option maxRecDepth 100000
set_option maxHeartbeats 8000000
/-! set(list of whole numbers), sorted of a set by a bound of its own, sums of tuples, stars, two fors, enumerate and zip in comprehensions -/
namespace Dl
open PySem PySem.Spec PyProof.Rows L2
abbrev bareSet (W : World) : Obj := { cls := .type "set", dict := none, data := .set #[] 0 (.fresh 0 0 (!W.params.followText "set-order")) }
section
variable {P : Program} {W : World} {A : Around} {Er : Value → Shared → Prop} {z : Shared}
theorem set_of_ints {l : Addr} {xs : Array Value} (ks : List Int) {Q : Value → Shared → Prop} (calm : A.handled = none) (isL : z.heap.IsList l xs) (areI : IntsAre xs.toList ks) (room : ks.length + 1 < scanBound)
    (fin : ∀ (h' : Heap) (tk c : Nat), SetR W h' z.heap.objs.size (fun j => decide (j ∈ ks)) c → (∀ b o, z.heap.get? b = some o → h'.get? b = some o) → Q (.ref z.heap.objs.size) { z with heap := h', toks := tk }) :
    wpAny (model P W) A (call (.type "set") [.ref l]) Q Er z := by
  have size_xs : xs.size = ks.length := (Array.length_toList (xs := xs)).symm.trans (IntsAre.length areI)
  obtain ⟨c0, tl0, mro0⟩ := F.called_set.mro
  have made0 := F.called_set.made
  have sub0 := F.called_set.sub
  refine wpAny_call (codeAny_of_tree ?_)
  show wpAny _ _ (callAny (.type "set") _) _ _ _
  refine wpAny_pure ⟨Code.quiet_builtin _ (by decide +kernel), codeAny_builtin F.entry_type_call ?_⟩
  rw [Around.under_plain (weight_type_call_type "set" [.ref l] []) rfl]
  have not_ty := F.called_set.notType
  have can := F.called_set.canCreate
  have tc := F.typeCall_set_1 (.ref l)
  repeat (any_goals (first | assumption | wp_step))
  refine codeAny_mono (code_set_led1 (.ref l) (E := Er) (Q₁ := fun y z1 => y = .ref z.heap.objs.size ∧ z1 = { z with heap := z.heap.push (bareSet W) }) ⟨rfl, rfl⟩) fun r z1 hr => ?_
  match r, hr with
  | .error e, hr => exact hr
  | .ok .next, hr => exact hr.elim
  | .ok .brk, hr => exact hr.elim
  | .ok .cont, hr => exact hr.elim
  | .ok (.ret y), hr =>
    obtain ⟨rfl, rfl⟩ := hr
    have at_new : (z.heap.push (bareSet W)).get? z.heap.objs.size = some (bareSet W) := Heap.get?_push_size _ rfl
    have ty_new : Shared.TypeIs { z with heap := z.heap.push (bareSet W) } (.ref z.heap.objs.size) "set" := ⟨_, at_new, rfl⟩
    have look := F.called_set.init.lookup
    have bindS := F.called_set.init.bind (.ref z.heap.objs.size)
    repeat (any_goals (first | assumption | wp_step))
    refine codeAny_mono (codeAny_call_builtin (R := wants (fun r2 z2 => r2 = .none ∧ ∃ h' tk c, z2 = { z with heap := h', toks := tk } ∧ SetR W h' z.heap.objs.size (fun j => decide (j ∈ ks)) c ∧ (∀ b o, z.heap.get? b = some o → h'.get? b = some o)) Er)
      F.called_set.init.plain F.entry_set_init (check_set_init_1 ty_new ?_)) fun r2 z2 hr2 => ?_
    · obtain ⟨⟨oc, od, odt, osl⟩, get_l, cls_l, nl, dat_l⟩ := isL
      simp only at cls_l dat_l
      subst cls_l
      subst dat_l
      have get_l2 : (z.heap.push (bareSet W)).get? l = some { cls := .type "list", dict := od, data := .seq xs nl, slots := osl } := Heap.get?_push_of_some _ get_l
      have no1 := F.sub_list_set
      have no2 := F.sub_list_frozenset
      have no3 : (Value.type "list" == Value.type "dict") = false := by decide
      have list_l : (z.heap.push (bareSet W)).IsList l xs := ⟨_, get_l2, rfl, nl, rfl⟩
      unfold Builtin.«set.__init__» noKeywords Builtin.Frozenset.updateFrom
      generalize walker : pyIter = walk
      wp_walk
      subst walker
      refine wpAny_pyIter_list list_l ?_
      refine wpAny_bind (wpAny_runValue ?_)
      have l_lt : l < z.heap.objs.size := Heap.lt_size get_l
      have size1 : (z.heap.push (bareSet W)).objs.size = z.heap.objs.size + 1 := Heap.size_push ..
      have calm3 : A.in1.in1.in1.handled = none := by simp [calm]
      have lt1 : l < z.heap.objs.size + 1 := Nat.lt_succ_of_lt l_lt
      have ne_new : l ≠ (z.heap.push (bareSet W)).objs.size := fun q => by
        rw [size1] at q
        exact Nat.ne_of_lt lt1 q
      have out_new : z.heap.objs.size ∉ [(z.heap.push (bareSet W)).objs.size, l] := fun q => by
        rw [size1] at q
        rcases List.mem_cons.mp q with q | q
        · exact Nat.ne_of_lt (Nat.lt_succ_self _) q
        · exact Nat.ne_of_lt l_lt (List.mem_singleton.mp q).symm
      refine set_update_ints ((Walks.list calm3 _ l ne_new xs).toS) z.heap.objs.size out_new ks size_xs room (fun i v hv => ?_) (xs.size - 0) 0 _ (by omega) (Nat.zero_le _)
        ⟨⟨_, Heap.get?_push_size _ rfl, rfl, rfl⟩, (list_l.push _)⟩ ⟨0, Nat.le_refl 0, setR_new_at (Heap.get?_push_of_some _ at_new)⟩ fun z3 c3 moved _ new3 => ?_
      · have hi : i < ks.length := by rw [← size_xs]; exact (Array.getElem?_eq_some_iff.mp hv).1
        obtain ⟨tk, e⟩ := PyProof.Rows.IntsAre.int_at areI i v (by rw [Array.getElem?_toList]; exact hv)
        exact ⟨ks[i], tk, List.getElem?_eq_getElem hi, by rw [e, List.getD_eq_getElem?_getD, List.getElem?_eq_getElem hi] <;> rfl⟩
      · obtain ⟨hz, gz, dz, tz, oz⟩ := z3
        have g1 : gz = z.gens := moved.gens
        have g2 : dz = z.drawn := moved.drawn
        have g3 : oz = z.os := moved.os
        subst g1
        subst g2
        subst g3
        show wpAny _ _ _ _ _ _
        refine wpAny_pure ?_
        show wpAny _ _ (ret Value.none) _ _ _
        refine wpAny_pure ⟨rfl, hz, tz, c3, rfl, new3, fun b o e => ?_⟩
        have b_lt : b < z.heap.objs.size := Heap.lt_size e
        have free_b : b ∉ [z.heap.objs.size, (z.heap.push (bareSet W)).objs.size] := fun q => by
          rw [size1] at q
          rcases List.mem_cons.mp q with q | q
          · exact Nat.ne_of_lt b_lt q
          · exact Nat.ne_of_lt (Nat.lt_succ_of_lt b_lt) (List.mem_singleton.mp q)
        exact moved.heap b o free_b (Heap.get?_push_of_some _ (Heap.get?_push_of_some _ e))
    · match r2, hr2 with
      | .error e, hr2 => exact hr2
      | .ok .next, hr2 => exact hr2.elim
      | .ok .brk, hr2 => exact hr2.elim
      | .ok .cont, hr2 => exact hr2.elim
      | .ok (.ret y2), hr2 =>
        obtain ⟨rfl, h', tk, c', rfl, isSet, kept⟩ := hr2
        repeat (any_goals (first | assumption | wp_step))
        exact fin _ _ _ isSet kept
end
theorem nodup_le {α : Type} [DecidableEq α] : ∀ {xs ys : List α}, xs.Nodup → (∀ x ∈ xs, x ∈ ys) → xs.length ≤ ys.length
  | [], _, _, _ => Nat.zero_le _
  | x :: xs, ys, h, s => by
    obtain ⟨h1, h2⟩ := List.nodup_cons.mp h
    have m := s x (List.mem_cons_self ..)
    have e := List.length_erase_of_mem m
    have p := List.length_pos_of_mem m
    have r := nodup_le (xs := xs) (ys := ys.erase x) h2 fun y hy => (List.mem_erase_of_ne (fun z => h1 (by rw [← z]; exact hy))).mpr (s y (List.mem_cons_of_mem _ hy))
    rw [List.length_cons]
    omega
theorem setR_le {w : World} {h : Heap} {a : Addr} {S : Int → Bool} {n : Nat} (R : SetR w h a S n) {T : List Int} (hT : ∀ k, S k = true → k ∈ T) : n ≤ T.length := by
  obtain ⟨o, es, ep, t, _, _, _, _, nd, mem, _, _, e, _⟩ := R
  have r := nodup_le nd fun k hk => hT k ((mem k).mpr hk)
  rw [List.length_map, Array.length_toList] at r
  omega
section
variable {X : Cx} {M : List Addr} {σ : L2.St} {H H' : Hp} {e a b c o elt tg iter iter1 tg1 : Expr} {ifs ifs1 : List Expr} {scope : Scope} {own : List (Str × Nat)} {es : List Expr} {d d1 d2 : PyData} {ds ds2 : List PyData} {x : Str} {v : V} {pos p1 p2 p3 tpos : Pos}
/-- sorted(set), the set's members among fewer than 64 -/
theorem cr_sortedB (hc : X.calm = true) : CallR X (.builtin "sorted") (fun vs H Q => ∃ (a : Addr) (S : Int → Bool) (n : Nat) (T : List Int), vs = [V.ref a] ∧ H a = some (SetO X.w a S n) ∧ T.length < 64 ∧ (∀ k, S k = true → k ∈ T) ∧
    ∀ (ns : List Int) (p : Addr), ns.Pairwise (· < ·) → (∀ k : Int, k ∈ ns ↔ S k = true) → H p = none → Q (.ref p) (upd H p (.lst (ns.map V.int)))) := by
  intro pins s σ H vs us Q I r h
  obtain ⟨a, S, n, T, rfl, ha, hT, sub, q⟩ := h
  exact cr_sortedSet hc pins s σ H _ us Q I r ⟨a, S, n, rfl, ha, Nat.lt_of_le_of_lt (setR_le (setO_get I ha) sub) hT, fun ns p h1 h2 _ hp => q ns p h1 h2 hp⟩
/-- set(l) -/
theorem cr_setOf (hc : X.calm = true) : CallR X (.type "set") (fun vs H Q => ∃ (l : Addr) (ks : List Int), vs = [V.ref l] ∧ SqL X.K H l (ks.map V.int) ∧ ks.length ≤ 4000 ∧ ∀ p c, H p = none → Q (.ref p) (upd H p (SetO X.w p (fun j => decide (j ∈ ks)) c))) := by
  intro pins s σ H vs us Q I r h
  obtain ⟨l, ks, rfl, hl, hz, q⟩ := h
  obtain ⟨its, rv, isl, _⟩ := I.list hl
  obtain ⟨u, rfl, ru⟩ := vals1 r
  obtain rfl : u = Value.ref l := ru
  refine set_of_ints ks (I.ok.hd hc) isl.isList (by simpa using rv.ints) (Nat.lt_of_le_of_lt (Nat.succ_le_succ hz) (by decide)) fun h' tk c new kept => ?_
  exact ⟨.ref s.heap.objs.size, upd H s.heap.objs.size (SetO X.w s.heap.objs.size (fun j => decide (j ∈ ks)) c), I.laid (t' := tk) kept (Nat.le_refl _) (setO_new new), rfl, q _ c (I.hok.fresh (Nat.le_refl _))⟩
/-- sorted(set(e)) -/
theorem xl_sortedOf {ks ns : List Int} {pa pb : Pos} (T : List Int) (hm : X.mg "sorted" = none) (hm2 : X.mg "set" = none) (L : Live M H) (ha : XD X M σ H e (.list (ks.map PyData.int))) (hz : ks.length ≤ 4000) (hT : T.length < 64) (hsub : ∀ k ∈ ks, k ∈ T) (hasc : ns.Pairwise (· < ·)) (hmem : ∀ k, k ∈ ns ↔ k ∈ ks) (hc : X.calm = true := by rfl) (hg : Gl X "sorted" := by rfl) (hg2 : Gl X "set" := by rfl)
    (he : starEach [.Call (.Name "set" pa) [e] [] pb] X.env = (false, eval (.Call (.Name "set" pa) [e] [] pb) X.env) :: starEach [] X.env := by rfl) (he2 : starEach [e] X.env = (false, eval e X.env) :: starEach [] X.env := by rfl) (hpl : (backTo p2 (starEach [] X.env)).any (·.1) = false := by rfl) (hpl2 : (backTo pb (starEach [] X.env)).any (·.1) = false := by rfl) :
    XL X M σ H (.Call (.Name "sorted" p1) [.Call (.Name "set" pa) [e] [] pb] [] p2) (ns.map PyData.int) := fun H1 s1 Q q => by
  refine re_B (cr_sortedB hc) (ra_1 ⟨_, pe_callTy (cr_setOf hc) hg2 hm2 (by decide +kernel) ra_ (by decide) (by decide) he2 hpl2, ra_1 (ha H1 s1 _ fun v H2 s2 hv => ?_) he2⟩ he) hm (by decide +kernel) hg (by decide) (by decide) he hpl
  obtain ⟨a, xs, rfl, ha, hx⟩ := dp_lst hv
  have ex := ints_v hx
  subst ex
  refine ⟨a, ks, rfl, SqL.of (hid_le _ _ ha), hz, fun p c hp => ⟨p, _, c, T, rfl, upd_same, hT, fun k hk => hsub k (of_decide_eq_true hk), fun ms l h1 h2 hl => ?_⟩⟩
  have e : ms = ns := asc_eq h1 hasc fun k => (h2 k).trans ((decide_eq_true_iff).trans (hmem k).symm)
  subst e
  have hl2 : H2 l = none := by
    by_cases z : l = p
    · subst z; exact hp
    · rw [upd_ne z] at hl; exact hl
  refine q l _ _ ((s2.trans (same_new hp)).trans (same_new hl)) (s2.free hl2) upd_same ?_
  exact ints_dq ms
/-- sorted({elt for tg in iter if ..}), the members among fewer than 64 -/
theorem xl_sortedSetB (f : PyData → Option Int) (ns T : List Int) (hm : X.mg "sorted" = none) (L : Live M H) (hN : X.N.Nodup) (hit : XD X M σ H iter (.list ds)) (ok : BlkOk X.N X.env.scope scope own) (hz : ds.length ≤ 4000)
    (hst : ∀ p d v H1, d ∈ ds → H p = none → Same H H1 → Live (p :: M) H1 → Dq X.K (hid (p :: M) H1) v d → BG X scope tg v (wipe σ (own.map (·.2))) H1 fun τ H2 => wipe τ (own.map (·.2)) = wipe σ (own.map (·.2)) ∧ BT X scope ifs τ H2 fun k H3 =>
      Same H1 H3 ∧ ((k = true ∧ ∃ n, f d = some n ∧ BE X scope elt τ H3 fun y H4 => Same H3 H4 ∧ y = .int n) ∨ (k = false ∧ f d = none)))
    (hasc : ns.Pairwise (· < ·)) (hmem : ∀ k, k ∈ ns ↔ ∃ d ∈ ds, f d = some k) (hT : T.length < 64) (hsub : ∀ k ∈ ns, k ∈ T) (hc : X.calm = true := by rfl) (hs : ∀ x, foldedSetIterable iter X.env x = pure x := by intro _; rfl) (hg : Gl X "sorted" := by rfl)
    (he : starEach [.SetComp elt [⟨tg, iter, ifs, 0⟩] scope pos] X.env = (false, eval (.SetComp elt [⟨tg, iter, ifs, 0⟩] scope pos) X.env) :: starEach [] X.env := by rfl) (hpl : (backTo p2 (starEach [] X.env)).any (·.1) = false := by rfl) :
    XL X M σ H (.Call (.Name "sorted" p1) [.SetComp elt [⟨tg, iter, ifs, 0⟩] scope pos] [] p2) (ns.map PyData.int) := fun H1 s1 Q q => by
  refine re_B (cr_sortedB hc) (ra_1 ⟨_, pe_setI (own := own) hc hN (pi_list re_) ok (fun _ _ _ _ _ => bg_) (fun _ _ _ _ _ => bt_) (fun _ _ _ _ _ => be_) hs, hit H1 s1 _ fun v H2 s2 hv => ?_⟩ he) hm (by decide +kernel) hg (by decide) (by decide) he hpl
  obtain ⟨a, xs, rfl, ha, hx⟩ := dp_lst hv
  have L2' : Live M H2 := L.mono (s1.trans s2)
  refine ⟨a, rfl, ⟨xs, SqL.of (hid_le _ _ ha)⟩, fun p hp => ?_⟩
  have hp0 : H p = none := (s1.trans s2).free hp
  refine set_list (xs := xs) (a := a) (fun i H' => Same H2 H' ∧ ∃ S c, H' p = some (SetO X.w p S c) ∧ c ≤ i ∧ ∀ k, S k = true ↔ ∃ d ∈ ds.take i, f d = some k)
    ⟨same_new hp, fun _ => false, 0, upd_same, Nat.le_refl _, fun k => by simp⟩ (fun i H' _ z => SqL.of (z.1 _ _ (hid_le _ _ ha))) (fun i x H' hi z => ?_) (fun H' z => ?_)
  · obtain ⟨sH, S, n, hS, hn, hk⟩ := z
    obtain ⟨d, hd1, hd2⟩ := dpa_get' hx hi
    have hdm : d ∈ ds := List.mem_of_getElem? hd1
    have hi60 : i < 4000 := by have := (List.getElem?_eq_some_iff.mp hd1).1; omega
    have etake : ds.take (i + 1) = ds.take i ++ [d] := by rw [List.take_add_one, hd1]; rfl
    have Lp : Live (p :: M) H' := fun b hb => by
      rcases List.mem_cons.mp hb with z | hb
      · subst z; rw [hS]; simp
      · exact L2'.mono sH b hb
    refine bg_mono (hst p d x H' hdm hp0 ((s1.trans s2).trans sH) Lp (hd2.up (hid_step hp sH))) fun τ Ha ⟨hw, hbt⟩ => ⟨hw, bt_mono hbt fun k Hb ⟨sb, hk'⟩ => ?_⟩
    rcases hk' with ⟨hk1, m, hf, hbe⟩ | ⟨hk1, hf⟩
    · subst hk1
      refine iteT (be_mono hbe fun y Hc ⟨sc, hy⟩ => ?_)
      have sd := sb.trans sc
      refine ⟨m, S, n, hy, sd _ _ hS, Nat.lt_of_lt_of_le (by omega : n + 1 < 4096) (Nat.le_refl _), fun b o e => ?_, fun j => S j || decide (j = m), (if S m = true then n else n + 1), upd_same, by split <;> omega, fun j => ?_⟩
      · rw [upd_ne (ne_of_none e hp)]
        exact sd _ _ (sH _ _ e)
      · rw [Bool.or_eq_true, decide_eq_true_eq, hk j, etake]
        constructor
        · rintro (⟨d', h1, h2⟩ | h)
          · exact ⟨d', List.mem_append_left _ h1, h2⟩
          · exact ⟨d, List.mem_append_right _ (List.mem_singleton.mpr rfl), by rw [hf, h]⟩
        · rintro ⟨d', h1, h2⟩
          rcases List.mem_append.mp h1 with h1 | h1
          · exact .inl ⟨d', h1, h2⟩
          · rw [List.mem_singleton.mp h1, hf] at h2
            exact .inr (Option.some.inj h2).symm
    · subst hk1
      refine iteF ⟨sH.trans sb, S, n, sb _ _ hS, by omega, fun j => ?_⟩
      rw [hk j, etake]
      constructor
      · rintro ⟨d', h1, h2⟩
        exact ⟨d', List.mem_append_left _ h1, h2⟩
      · rintro ⟨d', h1, h2⟩
        rcases List.mem_append.mp h1 with h1 | h1
        · exact ⟨d', h1, h2⟩
        · rw [List.mem_singleton.mp h1, hf] at h2
          cases h2
  · obtain ⟨sH, S, n, hS, hn, hk⟩ := z
    have hlen := dpa_len hx
    rw [hlen, List.take_length] at hk
    refine ⟨p, S, n, T, rfl, hS, hT, fun k hk1 => hsub k ((hmem k).mpr ((hk k).mp hk1)), fun ks l h1 h2 hl => ?_⟩
    have e : ks = ns := asc_eq h1 hasc fun k => (h2 k).trans ((hk k).trans (hmem k).symm)
    subst e
    refine q l _ _ ((s2.trans sH).trans (same_new hl)) ((s2.trans sH).free hl) upd_same ?_
    rw [hid_new (L2'.mono sH) hl]
    exact ints_dq ks
/-- sum(t) -/
theorem cr_sumT (hc : X.calm = true) : CallR X (.builtin "sum") (fun vs H Q => ∃ (a : Addr) (ns : List Int), vs = [V.ref a] ∧ SqT X.K H a (ns.map V.int) ∧ Q (.int ns.sum) H) := by
  intro pins s σ H vs us Q I r h
  obtain ⟨a, ns, rfl, hs, q⟩ := h
  obtain ⟨its, rv, ⟨o, ho, hcl, n, hd⟩, _⟩ := I.tuple hs
  obtain ⟨u, rfl, ru⟩ := vals1 r
  obtain rfl : u = Value.ref a := ru
  obtain ⟨xs, e⟩ := rv.ints.allInts.items
  have hn : numsOf (intItems xs).toList = ns := by rw [← e]; exact rv.ints.numsOf
  rw [nums_intItems] at hn
  rw [e] at hd
  refine PySem.W.ktm_sumG (I.ok.hd hc) ⟨o, ho, hcl, n, hd⟩ fun h' tk t' hk => ?_
  rw [preSum_eq, List.take_of_length_le (by simp), hn]
  exact ⟨.int _, H, I.kept hk, ⟨_, rfl⟩, q⟩
theorem xd_sumT {ns : List Int} (hm : X.mg "sum" = none) (ha : XD X M σ H e (.tuple (ns.map PyData.int))) (hc : X.calm = true := by rfl) (hg : Gl X "sum" := by rfl)
    (he : starEach [e] X.env = (false, eval e X.env) :: starEach [] X.env := by rfl) (hpl : (backTo p2 (starEach [] X.env)).any (·.1) = false := by rfl) : XD X M σ H (.Call (.Name "sum" p1) [e] [] p2) (.int ns.sum) := fun H1 s1 Q q =>
  re_B (cr_sumT hc) (ra_1 (ha H1 s1 _ fun v H2 s2 hv => by
    obtain ⟨a, xs, rfl, ha, hx⟩ := dp_tup hv
    have ex := ints_v hx
    subst ex
    exact ⟨a, ns, rfl, same_seqT hid_le ha, q _ H2 s2 (.int _)⟩) he) hm (by decide +kernel) hg (by decide) (by decide) he hpl
end
end Dl

set_option Elab.async false
set_option linter.all false
set_option maxRecDepth 100000
set_option maxHeartbeats 8000000
/-! enumerate of a tuple; comprehensions over enumerate, of two clauses, over zip; a tuple's star -/
namespace Dl
open PySem PySem.Spec PyProof.Rows L2
section
theorem meets_enum1 {v : Value} {ob : Obj} {Pre : Heap → Prop} (G : Begins v ob Pre) : Meets (Builtin.«enumerate.__new__» ⟨[.type "enumerate", v], []⟩) fun _ Post z => Pre z.heap ∧
    Post (.ok (.ret (.ref (z.heap.push ob).objs.size))) { z with heap := (z.heap.push ob).push { cls := .type "enumerate", data := .fields #[.none, .bool false, .ref z.heap.objs.size, rawInt 0, .none, .none] } } :=
  .of_wp fun pr wd Ar Post z pre => by
    obtain ⟨hz, gz, dz, tz, oz⟩ := z
    obtain ⟨k1, k2⟩ := pre
    have sub1 := sub_enumerate
    have it1 : ∀ {B : Around} {Er : Value → Shared → Prop} {Qz : Value → Shared → Prop}, Qz (.ref hz.objs.size) ⟨hz.push ob, gz, dz, tz, oz⟩ → wpAny (model pr wd) B (pyIter v) Qz Er ⟨hz, gz, dz, tz, oz⟩ := fun k => G.iter pr wd _ _ ⟨hz, gz, dz, tz, oz⟩ _ k1 k
    wp_walk using it1
    refine wpAny_stack_any fun stk => wpAny_pure ?_
    split
    · rename_i cl _ _ _ _ _
      cases (cl == Value.type "enumerate") <;> (wp_walk using it1; exact ⟨_, rfl, k2⟩)
    · wp_walk using it1
      exact ⟨_, rfl, k2⟩
theorem enum1_begins {pr : Program} {wd : World} {Ar : Around} {Er : Value → Shared → Prop} {z : Shared} {v : Value} {ob : Obj} {Pre : Heap → Prop} {Post : Value → Shared → Prop} (G : Begins v ob Pre) (pre : Pre z.heap)
    (fin : ∀ h', IsEnum h' (z.heap.objs.size + 1) z.heap.objs.size 0 .none → h'.get? z.heap.objs.size = some ob → (∀ b u, z.heap.get? b = some u → h'.get? b = some u) → Post (.ref (z.heap.objs.size + 1)) { z with heap := h' }) :
    wpAny (model pr wd) Ar (call (.type "enumerate") [v]) Post Er z := by
  refine callType_new F.called_enumerate (by decide) (F.typeCall_enumerate_1 _) (F.newCall_enumerate_1 _) (fun ob2 => F.args_object_init_2 ob2 _) F.entry_enumerate_new (meets_enum1 G) ⟨pre, ?_⟩
  have sz : (z.heap.push ob).objs.size = z.heap.objs.size + 1 := Heap.size_push ..
  show _ ∧ _
  rw [sz]
  have en : IsEnum ((z.heap.push ob).push { cls := .type "enumerate", data := .fields #[.none, .bool false, .ref z.heap.objs.size, rawInt 0, .none, .none] }) (z.heap.objs.size + 1) z.heap.objs.size 0 .none := by
    have q := Heap.get?_push_size (z.heap.push ob) (o := { cls := .type "enumerate", data := .fields #[.none, .bool false, .ref z.heap.objs.size, rawInt 0, .none, .none] }) rfl
    rw [sz] at q
    exact q
  exact ⟨⟨_, en, rfl⟩, fin _ en (Heap.get?_push_of_some _ (Heap.get?_push_size _ G.free)) fun b u x => Heap.get?_push_of_some _ (Heap.get?_push_of_some _ x)⟩
/-- the tuple at a, each item in a new pair -/
def IteT (K : PySem.W.Frag) (a : Addr) : It :=
  ⟨fun i H => ∃ (ys : List V) (y : V), SqT K H a ys ∧ ys[i]? = some y, fun i H v H' => ∃ T y, v = .ref T ∧ H T = none ∧ H' = upd H T (.tup [.int (i : Nat), y]) ∧ ∀ ys, SqT K H a ys → ys[i]? = some y, fun i H => ∃ ys : List V, SqT K H a ys ∧ ys.length ≤ i⟩
theorem tup_apart {h : Heap} {a it : Addr} {i : Nat} {its : Array Value} (h1 : h.IsTuple a its) (h2 : h.IsTupleIter it a i) : a ≠ it := fun z => by
  subst z
  obtain ⟨o, ho, hc, n, hd⟩ := h1
  obtain ⟨o2, ho2, hc2, hd2⟩ := h2
  rw [ho] at ho2
  cases ho2
  rw [hd] at hd2
  cases hd2
theorem turn_enumT {P : Program} {w : World} {K : PySem.W.Frag} {elts : List Expr} {kk : Nat} {tpos : Pos} (a e it : Addr) :
    Turn P w K (.Tuple elts kk tpos) (IteT K a) [e, it] e (fun i h => (∃ old, IsEnum h e it ((i : Nat) : Int) old) ∧ h.IsTupleIter it a i ∧ e ≠ it) where
  mem := List.mem_cons_self ..
  obj := fun i h st b hb => by
    obtain ⟨⟨old, he⟩, ⟨o, ho, hc, hd⟩, _⟩ := st
    rcases (show b = e ∨ b = it by simpa using hb) with z | z
    · subst z; exact ⟨_, he, fun v q => nomatch q⟩
    · subst z; exact ⟨o, ho, fun v q => by rw [hd] at q; cases q⟩
  keep := fun i h h' st k => by
    obtain ⟨⟨old, he⟩, hi, hne⟩ := st
    exact ⟨⟨old, k e (List.mem_cons_self ..) _ he⟩, hi.at fun o q => k it (List.mem_cons_of_mem _ (List.mem_cons_self ..)) o q, hne⟩
  item := by
    intro X hP hw hK hc i pins s σ H E I hf st hg
    subst hP hw hK
    obtain ⟨⟨old, he⟩, hit, hne⟩ := st
    obtain ⟨ys, y, hq, hy⟩ := hg
    obtain ⟨its, rv, p, hz⟩ := I.tuple hq
    obtain ⟨u, hu, ru⟩ := rv.get hy
    have le : e < s.heap.objs.size := Heap.lt_size he
    have li : it < s.heap.objs.size := by obtain ⟨_, q, _⟩ := hit; exact Heap.lt_size q
    have p' : s.heap.IsTuple a its.toArray := p
    have hea : e ≠ a := fun z => by
      subst z
      obtain ⟨o, ho, hcl, n, hd⟩ := p'
      have he2 : s.heap.get? e = some _ := he
      rw [ho] at he2
      cases he2
      cases hd
    have D := Draws.tuple (prog := X.prog) (w := X.w) (A := X.A.in1) (by have := I.ok.hd hc; simpa using this) it a (tup_apart p' hit) its.toArray
    refine wpAny_pyNext_enum_itemD D he ⟨hit, p'⟩ (by have := (List.getElem?_eq_some_iff.mp hu).1; simpa using this) hne (by simp [hne, hea]) fun x h' tk hx ho stt hT hsz hk => ?_
    have ex : x = u := by
      have q : its.toArray[i]? = some x := hx
      rw [List.getElem?_toArray, hu] at q
      exact (Option.some.inj q).symm
    subst ex
    refine ⟨_, rfl, wpAny_letOwnedTupleGo_enum (s := { s with heap := h', toks := tk + 1 }) ho fun h2 he2 sb => ?_⟩
    have hT2 : h2.get? s.heap.objs.size = some { cls := .type "tuple", data := .seq #[.int i tk, x] } := (sb.2 _ (Nat.ne_of_gt le)).trans hT
    have nw : ObjOk X.prog X.w (upd H s.heap.objs.size (.tup [.int (i : Nat), y])) h2 s.heap.objs.size (.tup [.int (i : Nat), y]) :=
      ⟨by show 2 ≤ sizeLine; decide, [.int i tk, x], .cons ⟨_, rfl⟩ (.cons ru .nil), ⟨_, hT2, rfl, _, rfl⟩⟩
    have J1 : Inv X pins σ (upd H s.heap.objs.size (.tup [.int (i : Nat), y])) { s with heap := h2, toks := tk + 1 } :=
      I.turnedNew (ch := [e, it]) (fun b ob hb q => (sb.2 b (fun z => hb (by simp [z]))).trans (hk b ob (fun z => hb (by simp [z])) (fun z => hb (by simp [z])) q)) hf (Nat.le_refl _) nw
    refine ⟨.ref s.heap.objs.size, _, J1, rfl, ⟨_, y, rfl, I.hok.fresh (Nat.le_refl _), rfl, fun zs hzs => by rw [I.tuple_inj hzs hq]; exact hy⟩, ⟨⟨x, ?_⟩, stt.1.at fun o q => (sb.2 it (Ne.symm hne)).trans q, hne⟩, fun b hb => ?_⟩
    · have e1 : (((i + 1 : Nat) : Nat) : Int) = (i : Int) + 1 := Int.natCast_add i 1
      rw [e1]
      exact he2
    · have lb : b < s.heap.objs.size := by
        rcases (show b = e ∨ b = it by simpa using hb) with z | z
        · rw [z]; exact le
        · rw [z]; exact li
      rw [upd_ne (Nat.ne_of_lt lb)]
      exact (hf b hb).1
  done := by
    intro X hP hw hK hc i pins s σ H E I hf st hg
    subst hP hw hK
    obtain ⟨⟨old, he⟩, hit, hne⟩ := st
    obtain ⟨ys, hq, hy⟩ := hg
    obtain ⟨its, rv, p, hz⟩ := I.tuple hq
    have p' : s.heap.IsTuple a its.toArray := p
    obtain ⟨f0, f1, f2, f3, f4, f5⟩ := hf it (List.mem_cons_of_mem _ (List.mem_cons_self ..))
    have hl := rv.length
    -- at the end the place is the length; beyond it the iterator has not come
    by_cases hi : i = its.toArray.size
    · have D := Draws.tuple (prog := X.prog) (w := X.w) (A := X.A.in1) (by have := I.ok.hd hc; simpa using this) it a (tup_apart p' hit) its.toArray
      subst hi
      exact wpAny_pyNext_enum_endD D he ⟨hit, p'⟩ fun h' eb => ⟨rfl, I.turned (t' := s.toks) (fun b o hb q => eb b o hb q) f0 f1 f3 f4 f5⟩
    · have hT : s.TypeIs (.ref e) "enumerate" := ⟨_, he, rfl⟩
      unfold pyNext
      refine wpAny_bind (wpAny_attempt (wpAny_callSpecial?_slot (name := Str.ofString "__next__") hT F.slot_enumerate_next (wpAny_call_entry F.slot_enumerate_next hT F.entry_enumerate_next ?_ (F.args_enumerate_next_1 _))))
      show wpAny _ _ (field (.ref e) 2 >>= _) _ _ _
      refine wpAny_bind (wpAny_field he rfl (x := .ref it) rfl ?_)
      refine wpAny_bind (wpAny_nextOf_tuple_end (by have := I.ok.hd hc; simpa using this) hit p' (by simp; omega) fun h' xx eb hxx => ?_)
      obtain ⟨o, ho, hcc⟩ := hxx
      refine wpAny_bind (wpAny_isInstance (T := "StopIteration") (b := true) ⟨o, ho, hcc⟩ isSubtype_stop (wpAny_pure ⟨rfl, I.turned (t' := s.toks) (fun b o hb q => eb b o hb q) f0 f1 f3 f4 f5⟩))
  self := fun A i s Q E st h => let ⟨⟨_, he⟩, _⟩ := st; wpAny_pyIter_enum he h
def iEnumT (K : PySem.W.Frag) (ta : TA) : TI := fun σ H R => ta σ H fun vs H1 => ∃ a ys, vs = [.ref a] ∧ SqT K H1 a ys ∧ R (IteT K a) H1
theorem pi_enumT {X : Cx} {e : Expr} {ta : TA} {p pos tpos : Pos} {elts : List Expr} {kk : Nat} (hg : Gl X "enumerate") (hm : X.mg "enumerate" = none) (ha : PA X [e] ta) (hs : starEach [e] X.env = [(false, eval e X.env)]) :
    PI X (.Tuple elts kk tpos) (.Call (.Name "enumerate" p) [e] [] pos) (iEnumT X.K ta) := by
  refine ⟨fun pins s σ H R I h => ?_⟩
  refine Call_ (ld_blt I hg hm boot_enumerate (PyProof.Rows.callWith_type1 (thn (ha.run pos pins s σ H _ I h) fun us z ⟨vs, H1, I1, r1, a, ys, ex, hq, q⟩ => ?_) hs rfl))
  subst ex
  obtain ⟨u, rfl, ru⟩ := vals1 r1
  obtain rfl : u = Value.ref a := ru
  obtain ⟨its, rv, p', hz⟩ := I1.tuple hq
  refine enum1_begins (begins_tuple a its.toArray) p' fun h' he hit hk => wpAny_pyIter_enum he ?_
  have J2 : Inv X pins σ H1 { z with heap := h' } := I1.kept (t' := z.toks) hk
  refine ⟨z.heap.objs.size + 1, [z.heap.objs.size + 1, z.heap.objs.size], _, _, H1, rfl, J2, turn_enumT a (z.heap.objs.size + 1) z.heap.objs.size, ⟨⟨.none, he⟩, ⟨_, hit, rfl, rfl⟩, Nat.succ_ne_self _⟩, fun b hb => ?_, q⟩
  have lb : z.heap.objs.size ≤ b := by
    rcases (show b = z.heap.objs.size + 1 ∨ b = z.heap.objs.size by simpa using hb) with y | y
    · rw [y]; exact Nat.le_add_right _ _
    · rw [y]; exact Nat.le_refl _
  exact I1.fpOk lb (I1.hok.fresh lb)
end
end Dl

set_option Elab.async false
set_option linter.all false
set_option maxRecDepth 100000
set_option maxHeartbeats 8000000
namespace Dl
open PySem PySem.Spec PyProof.Rows L2
/-- each item with its place -/
def enumM (g : Nat → PyData → PyData) : Nat → List PyData → List PyData
  | _, [] => []
  | i, d :: ds => g i d :: enumM g (i + 1) ds
theorem enumM_snoc (g : Nat → PyData → PyData) : ∀ (k : Nat) (ds : List PyData) (d : PyData), enumM g k (ds ++ [d]) = enumM g k ds ++ [g (k + ds.length) d]
  | k, [], d => rfl
  | k, e :: ds, d => by
    show g k e :: enumM g (k + 1) (ds ++ [d]) = g k e :: (enumM g (k + 1) ds ++ [_])
    rw [enumM_snoc g (k + 1) ds d, List.length_cons]
    have e1 : k + 1 + ds.length = k + (ds.length + 1) := by omega
    rw [e1]
theorem enumM_len (g : Nat → PyData → PyData) : ∀ (k : Nat) (ds : List PyData), (enumM g k ds).length = ds.length
  | _, [] => rfl
  | k, d :: ds => by show _ + 1 = _ + 1; rw [enumM_len g _ ds]
theorem zip_snoc {α β γ : Type} (g : α → β → γ) {xs : List α} {ys : List β} {i : Nat} {x : α} {y : β} (h1 : xs[i]? = some x) (h2 : ys[i]? = some y) : (List.zipWith g xs ys).take (i + 1) = (List.zipWith g xs ys).take i ++ [g x y] := by
  rw [List.take_add_one, List.getElem?_zipWith, h1, h2]
  rfl
section
variable {X : Cx} {M : List Addr} {σ : L2.St} {H H' : Hp} {e a b c o elt tg iter iter1 tg1 : Expr} {ifs : List Expr} {scope : Scope} {own : List (Str × Nat)} {es : List Expr} {d d1 d2 : PyData} {ds ds2 eds : List PyData} {x : Str} {v : V} {pos p1 p2 p3 tpos py spos : Pos} {D : Ends} {rest : List Stmt} {Q : VK}
theorem re_up (h : ∀ H1, Same H H1 → RE X e σ H1 Q) : RE X e σ H Q := h H (Same.refl H)
theorem out_of {p : Addr} {M : List Addr} {H : Hp} {vs : List V} {ds : List PyData} {K : PySem.W.Frag} (h : DqAll K (hid (p :: M) H) vs ds) : DqAll K (hid M H) vs ds := h.up fun b o e => by
  have n1 : b ∉ p :: M := fun z => by unfold hid at e; rw [if_pos z] at e; cases e
  rw [hid_of (fun z => n1 (List.mem_cons_of_mem _ z))]
  exact hid_le _ _ e
/-- [elt for (i, x) in enumerate(e)], e a tuple -/
theorem xl_enumT {elts : List Expr} {kk : Nat} (g : Nat → PyData → PyData) (hm : X.mg "enumerate" = none) (L : Live M H) (hN : X.N.Nodup) (ha : XD X M σ H a (.tuple ds)) (ok : BlkOk X.N X.env.scope scope own) (hz : ds.length ≤ 100000)
    (hst : ∀ p (i : Nat) d T y H1, ds[i]? = some d → H p = none → Same H H1 → Live (p :: M) H1 → Dq X.K (hid (p :: M) H1) y d → H1 T = some (.tup [.int (i : Nat), y]) → BG X scope (.Tuple elts kk tpos) (.ref T) (wipe σ (own.map (·.2))) H1 fun τ H2 => wipe τ (own.map (·.2)) = wipe σ (own.map (·.2)) ∧ Same H1 H2 ∧
      BE X scope elt τ H2 fun u H3 => Same H2 H3 ∧ Dq X.K (hid (p :: M) H3) u (g i d))
    (hc : X.calm = true := by rfl) (hs : ∀ x, foldedSetIterable (.Call (.Name "enumerate" p1) [a] [] p2) X.env x = pure x := by intro _; rfl) (hg : Gl X "enumerate" := by rfl) (he : starEach [a] X.env = [(false, eval a X.env)] := by rfl) :
    XL X M σ H (.ListComp elt [⟨.Tuple elts kk tpos, .Call (.Name "enumerate" p1) [a] [] p2, [], 0⟩] scope pos) (enumM g 0 ds) := fun H1 s1 Q q =>
  ⟨_, pe_lc (own := own) hc hN (pi_enumT hg hm ra_ he) ok (fun _ _ _ _ _ => bg_) (fun _ _ _ _ _ => bt_) (fun _ _ _ _ _ => be_) hs, ra_1 (ha H1 s1 _ fun v H2 s2 hv => by
    obtain ⟨t, xs, rfl, ht, hx⟩ := dp_tup hv
    have ht0 := same_seqT hid_le ht
    have L2' : Live M H2 := L.mono (s1.trans s2)
    refine ⟨t, xs, rfl, ht0, fun p hp => ?_⟩
    have hp0 : H p = none := (s1.trans s2).free hp
    refine ⟨fun i m Hx => m + i = xs.length ∧ Same H2 Hx ∧ ∃ acc, Hx p = some (.lst acc) ∧ DqAll X.K (hid (p :: M) Hx) acc (enumM g 0 (ds.take i)), ⟨xs.length, rfl, same_new hp, [], upd_same, .nil⟩, fun i m Hx w => ?_⟩
    obtain ⟨hmi, sx, acc, hacc, hda⟩ := w
    have gt : SqT X.K Hx t xs := same_seqT sx ht0
    cases ex : xs[i]? with
    | none =>
      have hge : xs.length ≤ i := List.getElem?_eq_none_iff.mp ex
      have ei : ds.take i = ds := List.take_of_length_le (by rw [← dpa_len hx]; exact hge)
      rw [ei] at hda
      exact .inl ⟨⟨xs, gt, hge⟩, q p acc Hx (s2.trans sx) (s2.free hp) hacc (out_of hda)⟩
    | some x0 =>
      have hlt := (List.getElem?_eq_some_iff.mp ex).1
      refine .inr ⟨⟨xs, x0, gt, ex⟩, fun Hy => Same H2 Hy ∧ ∃ acc, Hy p = some (.lst acc) ∧ DqAll X.K (hid (p :: M) Hy) acc (enumM g 0 (ds.take (i + 1))), fun Hy hy => ⟨m - 1, by omega, by omega, hy⟩, fun v Hy hyl => ?_⟩
      obtain ⟨T, y, rfl, hT, rfl, h1⟩ := hyl
      obtain ⟨d, hd1, hd2⟩ := dpa_get' hx (h1 xs gt)
      have sy : Same Hx (upd Hx T (.tup [.int (i : Nat), y])) := same_new hT
      have hpy := sy _ _ hacc
      have Lp : Live (p :: M) (upd Hx T (.tup [.int (i : Nat), y])) := fun b hb => by
        rcases List.mem_cons.mp hb with z | hb
        · subst z; rw [hpy]; simp
        · exact (L2'.mono sx).mono sy b hb
      have hids : Same (hid M H2) (hid (p :: M) (upd Hx T (.tup [.int (i : Nat), y]))) := hid_step hp (sx.trans sy)
      refine bg_mono (hst p i d T y _ hd1 hp0 (((s1.trans s2).trans sx).trans sy) Lp (hd2.up hids) upd_same) fun τ Ha ⟨hw, sa, hbe⟩ => ⟨hw, bt_nil (iteT (be_mono hbe fun u Hb ⟨sb, hu⟩ => ?_))⟩
      have sd := (sy.trans sa).trans sb
      refine ⟨acc, sd _ _ hacc, ?_, fun b o e => ?_, acc ++ [u], upd_same, ?_⟩
      · have h4 : 100000 < sizeLine := by decide
        have h5 : (enumM g 0 (ds.take i)).length ≤ i := by rw [enumM_len, List.length_take]; omega
        have h6 := dpa_len hx
        rw [dpa_len hda]
        omega
      · rw [upd_ne (ne_of_none e hp)]
        exact sd _ _ (sx _ _ e)
      · rw [hid_upd_ne, List.take_add_one, hd1]
        show DqAll X.K (hid (p :: M) Hb) (acc ++ [u]) (enumM g 0 (ds.take i ++ [d]))
        have hl : (ds.take i).length = i := by rw [List.length_take]; have := (List.getElem?_eq_some_iff.mp hd1).1; omega
        rw [enumM_snoc, hl, Nat.zero_add]
        exact dpa_app (hda.up (hid_mono sd)) (.cons hu .nil)) he⟩
/-- .. over a list, as a statement of its own line -/
theorem lc_enumL {elts : List Expr} {kk : Nat} (g : Nat → PyData → PyData) (L : Live M H) (ha : XD X M σ H a (.list ds)) (hz : ds.length ≤ 100000)
    (hst : ∀ p (i : Nat) d T y H1, ds[i]? = some d → H p = none → Same H H1 → Live (p :: M) H1 → Dq X.K (hid (p :: M) H1) y d → H1 T = some (.tup [.int (i : Nat), y]) → BG X scope (.Tuple elts kk tpos) (.ref T) (wipe σ (own.map (·.2))) H1 fun τ H2 => wipe τ (own.map (·.2)) = wipe σ (own.map (·.2)) ∧ Same H1 H2 ∧
      BE X scope elt τ H2 fun u H3 => Same H2 H3 ∧ Dq X.K (hid (p :: M) H3) u (g i d))
    (q : ∀ p xs H2, Same H H2 → H p = none → H2 p = some (.lst xs) → DqAll X.K (hid M H2) xs (enumM g 0 ds) → Q (.ref p) H2) (he1 : starEach [a] X.env = (false, eval a X.env) :: starEach [] X.env := by rfl) :
    tLc (iEnum X.K (RA X [a])) (BG X scope (.Tuple elts kk tpos)) (BT X scope []) (BE X scope elt) (own.map (·.2)) σ H Q :=
  ra_1 (ha H (Same.refl H) _ fun v H2 s2 hv => by
    obtain ⟨t, xs, rfl, ht, hx⟩ := dp_lst hv
    have ht0 := hid_le _ _ ht
    have L2' : Live M H2 := L.mono s2
    refine ⟨t, xs, rfl, SqL.of ht0, fun p hp => ?_⟩
    have hp0 : H p = none := s2.free hp
    refine ⟨fun i m Hx => m + i = xs.length ∧ Same H2 Hx ∧ ∃ acc, Hx p = some (.lst acc) ∧ DqAll X.K (hid (p :: M) Hx) acc (enumM g 0 (ds.take i)), ⟨xs.length, rfl, same_new hp, [], upd_same, .nil⟩, fun i m Hx w => ?_⟩
    obtain ⟨hmi, sx, acc, hacc, hda⟩ := w
    have gt : SqL X.K Hx t xs := SqL.of (sx _ _ ht0)
    cases ex : xs[i]? with
    | none =>
      have hge : xs.length ≤ i := List.getElem?_eq_none_iff.mp ex
      have ei : ds.take i = ds := List.take_of_length_le (by rw [← dpa_len hx]; exact hge)
      rw [ei] at hda
      exact .inl ⟨⟨xs, gt, hge⟩, q p acc Hx (s2.trans sx) (s2.free hp) hacc (out_of hda)⟩
    | some x0 =>
      have hlt := (List.getElem?_eq_some_iff.mp ex).1
      refine .inr ⟨⟨xs, x0, gt, ex⟩, fun Hy => Same H2 Hy ∧ ∃ acc, Hy p = some (.lst acc) ∧ DqAll X.K (hid (p :: M) Hy) acc (enumM g 0 (ds.take (i + 1))), fun Hy hy => ⟨m - 1, by omega, by omega, hy⟩, fun v Hy hyl => ?_⟩
      obtain ⟨T, y, rfl, hT, rfl, h1⟩ := hyl
      obtain ⟨d, hd1, hd2⟩ := dpa_get' hx (h1 xs gt)
      have sy : Same Hx (upd Hx T (.tup [.int (i : Nat), y])) := same_new hT
      have hpy := sy _ _ hacc
      have Lp : Live (p :: M) (upd Hx T (.tup [.int (i : Nat), y])) := fun b hb => by
        rcases List.mem_cons.mp hb with z | hb
        · subst z; rw [hpy]; simp
        · exact (L2'.mono sx).mono sy b hb
      have hids : Same (hid M H2) (hid (p :: M) (upd Hx T (.tup [.int (i : Nat), y]))) := hid_step hp (sx.trans sy)
      refine bg_mono (hst p i d T y _ hd1 hp0 ((s2.trans sx).trans sy) Lp (hd2.up hids) upd_same) fun τ Ha ⟨hw, sa, hbe⟩ => ⟨hw, bt_nil (iteT (be_mono hbe fun u Hb ⟨sb, hu⟩ => ?_))⟩
      have sd := (sy.trans sa).trans sb
      refine ⟨acc, sd _ _ hacc, ?_, fun b o e => ?_, acc ++ [u], upd_same, ?_⟩
      · have h4 : 100000 < sizeLine := by decide
        have h5 : (enumM g 0 (ds.take i)).length ≤ i := by rw [enumM_len, List.length_take]; omega
        have h6 := dpa_len hx
        rw [dpa_len hda]
        omega
      · rw [upd_ne (ne_of_none e hp)]
        exact sd _ _ (sx _ _ e)
      · rw [hid_upd_ne, List.take_add_one, hd1]
        show DqAll X.K (hid (p :: M) Hb) (acc ++ [u]) (enumM g 0 (ds.take i ++ [d]))
        have hl : (ds.take i).length = i := by rw [List.length_take]; have := (List.getElem?_eq_some_iff.mp hd1).1; omega
        rw [enumM_snoc, hl, Nat.zero_add]
        exact dpa_app (hda.up (hid_mono sd)) (.cons hu .nil)) he1
/-- [elt for (x, y) in zip(a, b)] -/
theorem lc_zip {elts : List Expr} {kk : Nat} (g : PyData → PyData → PyData) (L : Live M H) (ha : XD X M σ H a (.list ds)) (hb : XD X M σ H b (.list ds2)) (hz : ds.length ≤ 100000)
    (hst : ∀ p (i : Nat) d d2 T y z H1, ds[i]? = some d → ds2[i]? = some d2 → H p = none → Same H H1 → Live (p :: M) H1 → Dq X.K (hid (p :: M) H1) y d → Dq X.K (hid (p :: M) H1) z d2 → H1 T = some (.tup [y, z]) → BG X scope (.Tuple elts kk tpos) (.ref T) (wipe σ (own.map (·.2))) H1 fun τ H2 => wipe τ (own.map (·.2)) = wipe σ (own.map (·.2)) ∧ Same H1 H2 ∧
      BE X scope elt τ H2 fun u H3 => Same H2 H3 ∧ Dq X.K (hid (p :: M) H3) u (g d d2))
    (q : ∀ p xs H2, Same H H2 → H p = none → H2 p = some (.lst xs) → DqAll X.K (hid M H2) xs (List.zipWith g ds ds2) → Q (.ref p) H2)
    (he : starEach [a, b] X.env = (false, eval a X.env) :: starEach [b] X.env := by rfl) (he2 : starEach [b] X.env = (false, eval b X.env) :: starEach [] X.env := by rfl) :
    tLc (iZip X.K (RA X [a, b])) (BG X scope (.Tuple elts kk tpos)) (BT X scope []) (BE X scope elt) (own.map (·.2)) σ H Q :=
  ra_cons (ha H (Same.refl H) _ fun v H2 s2 hv => ra_1 (hb H2 s2 _ fun u H3 s3 hu => by
    obtain ⟨pa, xs, rfl, hpa, hx⟩ := dp_lst (hv.up (hid_mono s3))
    obtain ⟨pb, ys, rfl, hpb, hy⟩ := dp_lst hu
    have s03 := s2.trans s3
    have L3 : Live M H3 := L.mono s03
    refine ⟨pa, pb, xs, ys, rfl, SqL.of (hid_le _ _ hpa), SqL.of (hid_le _ _ hpb), fun p hp => ?_⟩
    have hp0 : H p = none := s03.free hp
    have hlx := dpa_len hx
    have hly := dpa_len hy
    refine ⟨fun i m Hx => m + i = min xs.length ys.length ∧ Same H3 Hx ∧ ∃ acc, Hx p = some (.lst acc) ∧ DqAll X.K (hid (p :: M) Hx) acc ((List.zipWith g ds ds2).take i), ⟨min xs.length ys.length, rfl, same_new hp, [], upd_same, .nil⟩, fun i m Hx w => ?_⟩
    obtain ⟨hmi, sx, acc, hacc, hda⟩ := w
    have ga : SqL X.K Hx pa xs := SqL.of (sx _ _ (hid_le _ _ hpa))
    have gb : SqL X.K Hx pb ys := SqL.of (sx _ _ (hid_le _ _ hpb))
    by_cases hlt : i < min xs.length ys.length
    · have l1 : i < xs.length := by omega
      have l2 : i < ys.length := by omega
      refine .inr ⟨⟨xs, ys, xs[i], ys[i], ga, gb, List.getElem?_eq_getElem l1, List.getElem?_eq_getElem l2⟩, fun Hy => Same H3 Hy ∧ ∃ acc, Hy p = some (.lst acc) ∧ DqAll X.K (hid (p :: M) Hy) acc ((List.zipWith g ds ds2).take (i + 1)), fun Hy hy => ⟨m - 1, by omega, by omega, hy⟩, fun v Hy hyl => ?_⟩
      obtain ⟨T, y, z, rfl, hT, rfl, h1, h2⟩ := hyl
      obtain ⟨d, hd1, hd2⟩ := dpa_get' hx (h1 xs ga)
      obtain ⟨d2, hd3, hd4⟩ := dpa_get' hy (h2 ys gb)
      have sy : Same Hx (upd Hx T (.tup [y, z])) := same_new hT
      have hpy := sy _ _ hacc
      have Lp : Live (p :: M) (upd Hx T (.tup [y, z])) := fun b hb => by
        rcases List.mem_cons.mp hb with z | hb
        · subst z; rw [hpy]; simp
        · exact (L3.mono sx).mono sy b hb
      have hids : Same (hid M H3) (hid (p :: M) (upd Hx T (.tup [y, z]))) := hid_step hp (sx.trans sy)
      refine bg_mono (hst p i d d2 T y z _ hd1 hd3 hp0 ((s03.trans sx).trans sy) Lp (hd2.up hids) (hd4.up hids) upd_same) fun τ Ha ⟨hw, sa, hbe⟩ => ⟨hw, bt_nil (iteT (be_mono hbe fun u Hb ⟨sb, hu⟩ => ?_))⟩
      have sd := (sy.trans sa).trans sb
      refine ⟨acc, sd _ _ hacc, ?_, fun b o e => ?_, acc ++ [u], upd_same, ?_⟩
      · have h4 : 100000 < sizeLine := by decide
        have h5 : ((List.zipWith g ds ds2).take i).length ≤ i := by rw [List.length_take]; omega
        rw [dpa_len hda]
        omega
      · rw [upd_ne (ne_of_none e hp)]
        exact sd _ _ (sx _ _ e)
      · rw [hid_upd_ne, zip_snoc g hd1 hd3]
        exact dpa_app (hda.up (hid_mono sd)) (.cons hu .nil)
    · have ei : (List.zipWith g ds ds2).take i = List.zipWith g ds ds2 := List.take_of_length_le (by rw [List.length_zipWith]; omega)
      rw [ei] at hda
      exact .inl ⟨⟨xs, ys, ga, gb, by omega⟩, q p acc Hx (s03.trans sx) hp0 hacc (out_of hda)⟩) he2) he
/-- [elt for tg in iter for tg1 in iter1], iter a list, iter1 always the tuple eds -/
theorem lc_comp2 {vs1 : List Nat} (g : PyData → PyData → PyData) (L : Live M H) (hit : XD X M σ H iter (.list ds)) (hz : ds.length * eds.length ≤ 100000)
    (hst : ∀ p d v H1, d ∈ ds → H p = none → Same H H1 → Live (p :: M) H1 → Dq X.K (hid (p :: M) H1) v d → BG X scope tg v (wipe σ (own.map (·.2))) H1 fun τ H2 => wipe τ (own.map (·.2)) = wipe σ (own.map (·.2)) ∧ Same H1 H2 ∧
      (∀ (s : Shared) (H0 : Hp) (C : Addr) (cl : List (Str × Addr)) (fp : List Addr), XD (X.blk s H0 scope (compEnvC scope cl C X.env) fp) (p :: M) τ H2 iter1 (.tuple eds)) ∧
      ∀ ed w H3, ed ∈ eds → (∀ b o, b ≠ p → H2 b = some o → H3 b = some o) → Live (p :: M) H3 → Dq X.K (hid (p :: M) H3) w ed → BG X scope tg1 w (wipe τ vs1) H3 fun τ2 H4 => wipe τ2 vs1 = wipe τ vs1 ∧ Same H3 H4 ∧ BE X scope elt τ2 H4 fun u H5 => Same H4 H5 ∧ Dq X.K (hid (p :: M) H5) u (g d ed))
    (q : ∀ p xs H2, Same H H2 → H p = none → H2 p = some (.lst xs) → DqAll X.K (hid M H2) xs (ds.flatMap fun d => eds.map (g d)) → Q (.ref p) H2) :
    tLc2 (iList X.K (RE X iter)) (BG X scope tg) (BT X scope []) (iTup X.K (BE X scope iter1)) (BG X scope tg1) (BT X scope []) (BE X scope elt) (own.map (·.2)) vs1 σ H Q :=
  hit H (Same.refl H) _ fun v H2 s2 hv => by
    obtain ⟨a, xs, rfl, ha, hx⟩ := dp_lst hv
    have L2' : Live M H2 := L.mono s2
    have hlx := dpa_len hx
    refine ⟨a, rfl, ⟨xs, SqL.of (hid_le _ _ ha)⟩, fun p hp => ?_⟩
    have hp0 : H p = none := s2.free hp
    have flen : ∀ l : List PyData, (l.flatMap fun d => eds.map (g d)).length = l.length * eds.length := fun l => by
      induction l with
      | nil => simp
      | cons x l ih => rw [List.flatMap_cons, List.length_append, ih, List.length_map, List.length_cons, Nat.succ_mul]; omega
    refine ⟨fun i m Hx => m + i = xs.length ∧ Same H2 Hx ∧ ∃ acc, Hx p = some (.lst acc) ∧ DqAll X.K (hid (p :: M) Hx) acc ((ds.take i).flatMap fun d => eds.map (g d)), ⟨xs.length, rfl, same_new hp, [], upd_same, .nil⟩, fun i m Hx w => ?_⟩
    obtain ⟨hmi, sx, acc, hacc, hda⟩ := w
    have gt : SqL X.K Hx a xs := SqL.of (sx _ _ (hid_le _ _ ha))
    cases ex : xs[i]? with
    | none =>
      have hge : xs.length ≤ i := List.getElem?_eq_none_iff.mp ex
      have ei : ds.take i = ds := List.take_of_length_le (by omega)
      rw [ei] at hda
      exact .inl ⟨⟨xs, gt, hge⟩, q p acc Hx (s2.trans sx) (s2.free hp) hacc (out_of hda)⟩
    | some x0 =>
      have hlt := (List.getElem?_eq_some_iff.mp ex).1
      refine .inr ⟨⟨xs, x0, gt, ex⟩, fun Hy => Same H2 Hy ∧ ∃ acc, Hy p = some (.lst acc) ∧ DqAll X.K (hid (p :: M) Hy) acc ((ds.take (i + 1)).flatMap fun d => eds.map (g d)), fun Hy hy => ⟨m - 1, by omega, by omega, hy⟩, fun v Hy hyl => ?_⟩
      obtain ⟨rfl, h1⟩ := hyl
      obtain ⟨d, hd1, hd2⟩ := dpa_get' hx (h1 xs gt)
      have hdi := (List.getElem?_eq_some_iff.mp hd1).1
      have Lp : Live (p :: M) Hy := fun b hb => by
        rcases List.mem_cons.mp hb with z | hb
        · subst z; rw [hacc]; simp
        · exact L2'.mono sx b hb
      refine bg_mono (hst p d v Hy (List.mem_of_getElem? hd1) hp0 (s2.trans sx) Lp (hd2.up (hid_step hp sx))) fun τ Ha ⟨hw, sa, hin, hel⟩ => ⟨hw, bt_nil (iteT fun s0 H0 C0 cl fp => ?_)⟩
      refine hin s0 H0 C0 cl fp Ha (Same.refl _) _ fun w Hb sb hwv => ?_
      obtain ⟨a1, ys, rfl, ha1, hy⟩ := dp_tup hwv
      have ha10 := same_seqT hid_le ha1
      have hly := dpa_len hy
      refine ⟨a1, rfl, ⟨ys, ha10⟩, ?_⟩
      have sab := sa.trans sb
      have pMem : p ∈ p :: M := List.mem_cons_self ..
      have hbp : Hb p = some (.lst acc) := sab _ _ hacc
      have upM : ∀ {Hz : Hp}, (∀ b o, b ≠ p → Hb b = some o → Hz b = some o) → Same (hid (p :: M) Hb) (hid (p :: M) Hz) := fun {Hz} z b o e => by
        have n1 : b ∉ p :: M := fun y => by unfold hid at e; rw [if_pos y] at e; cases e
        rw [hid_of n1]
        rw [hid_of n1] at e
        exact z b o (fun y => n1 (by rw [y]; exact pMem)) e
      refine ⟨fun j k Hz => k + j = ys.length ∧ (∀ b o, b ≠ p → Hb b = some o → Hz b = some o) ∧ ∃ acc', Hz p = some (.lst acc') ∧ DqAll X.K (hid (p :: M) Hz) acc' (((ds.take i).flatMap fun d => eds.map (g d)) ++ (eds.take j).map (g d)), ⟨ys.length, rfl, fun b o _ e => e, acc, hbp, ?_⟩, fun j k Hz hz => ?_⟩
      · simpa using hda.up (hid_mono sab)
      · obtain ⟨hkj, sz, acc', hacc', hda'⟩ := hz
        have gz : SqT X.K Hz a1 ys := by
          rcases ha1 with (h | ⟨o, h⟩) | h
          · exact .inl (.inl (hid_le _ _ (upM sz _ _ h)))
          · exact .inl (.inr ⟨o, hid_le _ _ (upM sz _ _ h)⟩)
          · exact .inr h
        have s2z : Same H2 Hz := fun b o e => sz b o (ne_of_none e hp) (sab b o (sx b o e))
        cases ey : ys[j]? with
        | none =>
          have hge : ys.length ≤ j := List.getElem?_eq_none_iff.mp ey
          have ej : eds.take j = eds := List.take_of_length_le (by omega)
          rw [ej] at hda'
          refine .inl ⟨⟨ys, gz, hge⟩, s2z, acc', hacc', ?_⟩
          rw [List.take_add_one, hd1]
          show DqAll X.K (hid (p :: M) Hz) acc' ((ds.take i ++ [d]).flatMap fun d => eds.map (g d))
          rw [List.flatMap_append]
          simpa using hda'
        | some y0 =>
          have hltj := (List.getElem?_eq_some_iff.mp ey).1
          refine .inr ⟨⟨ys, y0, gz, ey⟩, fun Hu => (∀ b o, b ≠ p → Hb b = some o → Hu b = some o) ∧ ∃ acc', Hu p = some (.lst acc') ∧ DqAll X.K (hid (p :: M) Hu) acc' (((ds.take i).flatMap fun d => eds.map (g d)) ++ (eds.take (j + 1)).map (g d)), fun Hu hu => ⟨k - 1, by omega, by omega, hu⟩, fun v Hu hyl => ?_⟩
          obtain ⟨rfl, h2⟩ := hyl
          obtain ⟨ed, he1, he2⟩ := dpa_get' hy (h2 ys gz)
          have Lz : Live (p :: M) Hu := fun b hb => by
            by_cases z : b = p
            · subst z; rw [hacc']; simp
            · intro q0
              rcases List.mem_cons.mp hb with y | hb
              · exact z y
              · cases q1 : Hb b with
                | none => exact ((L2'.mono sx).mono sab) b hb q1
                | some o => rw [sz b o z q1] at q0; cases q0
          refine bg_mono (hel ed v Hu (List.mem_of_getElem? he1) (fun b o nb e => sz b o nb (sb b o e)) Lz (he2.up (upM sz))) fun τ2 Hc ⟨hw2, sc, hbe⟩ => ⟨hw2, bt_nil (iteT (be_mono hbe fun u Hd ⟨sd, hu⟩ => ?_))⟩
          have scd := sc.trans sd
          refine ⟨acc', scd _ _ hacc', ?_, fun b o nb e => ?_, acc' ++ [u], upd_same, ?_⟩
          · have h4 : 100000 < sizeLine := by decide
            have h7 : i * eds.length + eds.length ≤ ds.length * eds.length := by
              have : (i + 1) * eds.length ≤ ds.length * eds.length := Nat.mul_le_mul_right _ hdi
              rw [Nat.succ_mul] at this; exact this
            have h8 : (ds.take i).length ≤ i := by rw [List.length_take]; omega
            have h9 := Nat.mul_le_mul_right eds.length h8
            have h10 : (eds.take j).length ≤ j := by rw [List.length_take]; omega
            rw [dpa_len hda', List.length_append, flen, List.length_map]
            omega
          · rw [upd_ne nb]
            exact scd _ _ (sz b o nb e)
          · rw [hid_upd_ne, List.take_add_one, he1]
            show DqAll X.K (hid (p :: M) Hd) (acc' ++ [u]) (((ds.take i).flatMap fun d => eds.map (g d)) ++ (eds.take j ++ [ed]).map (g d))
            rw [List.map_append, ← List.append_assoc]
            exact dpa_app (hda'.up (hid_mono scd)) (.cons hu .nil)
/-- x = .., such a comprehension, on one line -/
theorem rb_setC2 (i : Nat) {vs1 : List Nat} (g : PyData → PyData → PyData) (L : Live M H) (hN : X.N.Nodup) (hit : XD X M σ H iter (.list ds)) (ok : BlkOk X.N X.env.scope scope own) (hv : ∀ i ∈ vs1, i ∈ own.map (·.2)) (hz : ds.length * eds.length ≤ 100000)
    (hst : ∀ p d v H1, d ∈ ds → H p = none → Same H H1 → Live (p :: M) H1 → Dq X.K (hid (p :: M) H1) v d → BG X scope tg v (wipe σ (own.map (·.2))) H1 fun τ H2 => wipe τ (own.map (·.2)) = wipe σ (own.map (·.2)) ∧ Same H1 H2 ∧
      (∀ (s : Shared) (H0 : Hp) (C : Addr) (cl : List (Str × Addr)) (fp : List Addr), XD (X.blk s H0 scope (compEnvC scope cl C X.env) fp) (p :: M) τ H2 iter1 (.tuple eds)) ∧
      ∀ ed w H3, ed ∈ eds → (∀ b o, b ≠ p → H2 b = some o → H3 b = some o) → Live (p :: M) H3 → Dq X.K (hid (p :: M) H3) w ed → BG X scope tg1 w (wipe τ vs1) H3 fun τ2 H4 => wipe τ2 vs1 = wipe τ vs1 ∧ Same H3 H4 ∧ BE X scope elt τ2 H4 fun u H5 => Same H4 H5 ∧ Dq X.K (hid (p :: M) H5) u (g d ed))
    (q : ∀ p xs H2, Same H H2 → H p = none → H2 p = some (.lst xs) → DqAll X.K (hid M H2) xs (ds.flatMap fun d => eds.map (g d)) → RB X rest D (σ.set i (some (.ref p))) H2)
    (hi : X.N[i]? = some x := by rfl) (hx : X.env.scope.names.lookup x = some .local := by rfl) (hsw : swapsWith (.ListComp elt [⟨tg, iter, [], 0⟩, ⟨tg1, iter1, [], 0⟩] scope pos) (some (.Name x py)) spos.line X.env = pure true := by exact sw_true rfl rfl rfl rfl)
    (hc : X.calm = true := by rfl) (hs : ∀ x, foldedSetIterable iter X.env x = pure x := by intro _; rfl) (hs1 : ∀ env x, foldedSetIterable iter1 env x = pure x := by intro _ _; rfl) : RB X (.Assign [.Name x py] (.ListComp elt [⟨tg, iter, [], 0⟩, ⟨tg1, iter1, [], 0⟩] scope pos) spos :: rest) D σ H :=
  ⟨_, pss_cons (ps_setLc2 (own := own) (vs1 := vs1) hc hN hi hx hsw (pi_list re_) ok hv (fun _ _ _ _ _ => bg_) (fun _ _ _ _ _ => bt_) (fun _ _ _ _ _ => pi_tup be_) (fun _ _ _ _ _ => bg_) (fun _ _ _ _ _ => bt_) (fun _ _ _ _ _ => be_) hs hs1) rb_,
    lc_comp2 (own := own) (vs1 := vs1) (Q := fun v H1 => RB X rest D (σ.set i (some v)) H1) g L hit hz hst q⟩
/-- *e, e a tuple, in a display -/
theorem xa_starT {sp : Pos} (ha : XD X M σ H e (.tuple ds)) (hr : XA X M σ H es ds2) (hs : starEach (.Starred e sp :: es) X.env = (true, eval e X.env) :: starEach es X.env := by rfl) : XA X M σ H (.Starred e sp :: es) (ds ++ ds2) := fun H1 s Q q =>
  ⟨_, StX.pa_star re_ ra_ hs, ha H1 s _ fun v H2 s2 hv => by
    obtain ⟨p, xs, rfl, hp, hx⟩ := dp_tup hv
    exact ⟨p, xs, rfl, .inl (same_seqT hid_le hp), hr H2 (s.trans s2) _ fun vs H3 s3 hvs => q _ H3 (s2.trans s3) (dpa_app (hx.up (hid_mono s3)) hvs)⟩⟩
end
end Dl

set_option Elab.async false
set_option linter.all false
set_option maxRecDepth 100000
set_option maxHeartbeats 4000000
/-! Data layer: texts -/
namespace Dl
open PySem PySem.Spec PyProof.Rows L2
/-- the texts of one sign -/
def sg (c : Nat) : Str := ⟨#[c]⟩
section
variable {X : Cx} {M : List Addr} {σ : L2.St} {H H' : Hp} {e a b c o elt tg iter : Expr} {ifs : List Expr} {scope : Scope} {own : List (Str × Nat)} {es : List Expr} {d d1 d2 : PyData} {ds ds2 : List PyData} {x y z : Str} {v : V} {pos p1 p2 p3 : Pos}
theorem xd_addS (ha : XD X M σ H a (.str x)) (hb : XD X M σ H b (.str y)) (hl : x.length + y.length ≤ 100000) : XD X M σ H (.BinOp a .Add b pos) (.str (x ++ y)) :=
  xd_bin op_add_str ha hb fun H1 v w s hv hw Q q => ⟨x, y, dp_str hv, dp_str hw, small_sz hl, q _ H1 (Same.refl _) (.str _)⟩
theorem xd_lenStr (hm : X.mg "len" = none) (ha : XD X M σ H e (.str x)) (hl : x.length ≤ 100000) (hg : Gl X "len" := by rfl) (he : starEach [e] X.env = (false, eval e X.env) :: starEach [] X.env := by rfl) (hpl : (backTo pos (starEach [] X.env)).any (·.1) = false := by rfl) : XD X M σ H (.Call (.Name "len" p1) [e] [] pos) (.int x.length) :=
  xd_B call_len_str (xa_cons ha xa_nil he) (fun H1 vs s h Q q => by
    cases h with
    | cons h1 h2 =>
      cases h2
      exact ⟨x, by rw [dp_str h1], small_sz hl, q _ _ (Same.refl _) (.int _)⟩) hm PySem.boot_len hg (by decide) (by decide) he hpl
theorem xd_ixS {n : Int} {c : Nat} (hs : PlainIx b) (ha : XD X M σ H a (.str x)) (hb : XD X M σ H b (.int n)) (hl : x.length ≤ 100000) (h : atI x.cps.toList n = some c) : XD X M σ H (.Subscript a b pos) (.str (sg c)) := fun H1 s Q q =>
  ⟨_, pe_ix ix_str re_ re_ hs, ha H1 s _ fun v H2 s2 hv => hb H2 (s.trans s2) _ fun w H3 s3 hw => ⟨x, n, c, dp_str hv, dp_int hw, small_sz hl, h, q _ H3 (s2.trans s3) (.str _)⟩⟩
theorem xd_cutS {lo hi : Option Expr} {m n : Option Int} (ha : XD X M σ H a (.str x)) (hl : XO X σ H lo m) (hu : XO X σ H hi n) (hz : x.length ≤ 100000) : XD X M σ H (.Subscript a (.Slice lo hi none p2) pos) (.str (cutS x m n)) := fun H1 s Q q =>
  ⟨_, pe_slice sl_str re_ ro_ ro_, ha H1 s _ fun v H2 s2 hv => hl H2 (s.trans s2) _ fun H3 s3 => hu H3 ((s.trans s2).trans s3) _ fun H4 s4 => ⟨x, dp_str hv, small_sz hz, q _ H4 (s2.trans (s3.trans s4)) (.str _)⟩⟩
theorem xt_inSg {c : Nat} (ha : XD X M σ H a (.str (sg c))) (hb : XD X M σ H b (.str x)) (hm : behindInMarks .In b = false := by rfl) : XT X σ H (.Compare a [.In] [b] pos) (decide (c ∈ x.cps.toList)) :=
  xt_cmp op_inS ha hb (fun H1 v w s hv hw Q q => ⟨c, x, dp_str hv, dp_str hw, q H1 (Same.refl _)⟩) hm
theorem xd_inSg {c : Nat} (ha : XD X M σ H a (.str (sg c))) (hb : XD X M σ H b (.str x)) (hm : behindInMarks .In b = false := by rfl) : XD X M σ H (.Compare a [.In] [b] pos) (.bool (decide (c ∈ x.cps.toList))) :=
  xd_cmp op_inS ha hb (fun H1 v w s hv hw Q q => ⟨c, x, dp_str hv, dp_str hw, q _ H1 (Same.refl _) (.bl _)⟩) hm
theorem xt_notInSg {c : Nat} (ha : XD X M σ H a (.str (sg c))) (hb : XD X M σ H b (.str x)) (hm : behindInMarks .NotIn b = false := by rfl) : XT X σ H (.Compare a [.NotIn] [b] pos) (!decide (c ∈ x.cps.toList)) :=
  xt_cmp op_notInS ha hb (fun H1 v w s hv hw Q q => ⟨c, x, dp_str hv, dp_str hw, q H1 (Same.refl _)⟩) hm
theorem dec_str {m n : Str} : decide (V.str m = V.str n) = decide (m = n) := by
  by_cases h : m = n
  · subst h; simp
  · rw [decide_eq_false h, decide_eq_false fun z => h (V.str.inj z)]
theorem xt_neS (ha : XD X M σ H a (.str x)) (hb : XD X M σ H b (.str y)) : XT X σ H (.Compare a [.NotEq] [b] pos) (!decide (x = y)) :=
  xt_cmp op_ne ha hb fun H1 v w s hv hw Q q => by
    rw [dp_str hv, dp_str hw]
    exact ⟨rfl, by rw [dec_str]; exact q H1 (Same.refl _)⟩
/-- int(text) -/
theorem xd_intS {n : Int} (hm : X.mg "int" = none) (ha : XD X M σ H e (.str x)) (hn : PySem.intText? x = some n) (hl : x.length ≤ 640) (hg : Gl X "int" := by rfl) (he : starEach [e] X.env = (false, eval e X.env) :: starEach [] X.env := by rfl) (hpl : (backTo pos (starEach [] X.env)).any (·.1) = false := by rfl) :
    XD X M σ H (.Call (.Name "int" p1) [e] [] pos) (.int n) := fun H1 s Q q =>
  re_Ty call_int_str (ra_1 (ha H1 s _ fun v H2 s2 hv => ⟨x, n, by rw [dp_str hv], hn, hl, q _ H2 s2 (.int _)⟩) he) hm (by decide +kernel) hg (by decide) (by decide) he hpl
/-- str(int) -/
theorem xd_strI {n : Int} (hm : X.mg "str" = none) (ha : XD X M σ H e (.int n)) (hl : n.natAbs.log2 < 1920) (hg : Gl X "str" := by rfl) (he : starEach [e] X.env = (false, eval e X.env) :: starEach [] X.env := by rfl) (hpl : (backTo pos (starEach [] X.env)).any (·.1) = false := by rfl) :
    XD X M σ H (.Call (.Name "str" p1) [e] [] pos) (.str (Str.ofString (toString n))) := fun H1 s Q q =>
  re_Ty call_str_int (ra_1 (ha H1 s _ fun v H2 s2 hv => ⟨n, by rw [dp_int hv], hl, q _ H2 s2 (.str _)⟩) he) hm (by decide +kernel) hg (by decide) (by decide) he hpl
/-- [elt for tg in text if ..] -/
theorem xl_compS (f : Nat → Option PyData) (L : Live M H) (hN : X.N.Nodup) (hit : XD X M σ H iter (.str x)) (ok : BlkOk X.N X.env.scope scope own) (hz : x.length ≤ 100000)
    (hst : ∀ p c H1, c ∈ x.cps.toList → H p = none → Same H H1 → Live (p :: M) H1 → BG X scope tg (.str (sg c)) (wipe σ (own.map (·.2))) H1 fun σ2 H2 => wipe σ2 (own.map (·.2)) = wipe σ (own.map (·.2)) ∧ BT X scope ifs σ2 H2 fun k H3 =>
      Same H1 H3 ∧ ((k = true ∧ ∃ d', f c = some d' ∧ BE X scope elt σ2 H3 fun y H4 => Same H3 H4 ∧ Dq X.K (hid (p :: M) H4) y d') ∨ (k = false ∧ f c = none)))
    (hc : X.calm = true := by rfl) (hs : ∀ x, foldedSetIterable iter X.env x = pure x := by intro _; rfl) : XL X M σ H (.ListComp elt [⟨tg, iter, ifs, 0⟩] scope pos) (x.cps.toList.filterMap f) := fun H1 s1 Q q =>
  ⟨_, pe_lc (own := own) hc hN (pi_str re_) ok (fun _ _ _ _ _ => bg_) (fun _ _ _ _ _ => bt_) (fun _ _ _ _ _ => be_) hs, hit H1 s1 _ fun v H2 s2 hv => by
    have L2' : Live M H2 := L.mono (s1.trans s2)
    have ev := dp_str hv
    subst ev
    refine ⟨x, rfl, fun p hp => ?_⟩
    have hp0 : H p = none := (s1.trans s2).free hp
    have hsz : x.cps.toList.length = x.cps.size := by simp
    have hzz : x.cps.size ≤ 100000 := hz
    refine ⟨fun i m Hx => m + i = x.cps.size ∧ Same H2 Hx ∧ ∃ acc, Hx p = some (.lst acc) ∧ DqAll X.K (hid (p :: M) Hx) acc ((x.cps.toList.take i).filterMap f), ⟨x.cps.size, rfl, same_new hp, [], upd_same, by simpa using DqAll.nil⟩, fun i m Hx w => ?_⟩
    obtain ⟨hmi, sx, acc, hacc, hda⟩ := w
    by_cases hlt : i < x.cps.size
    · refine .inr ⟨hlt, fun Hy => Same H2 Hy ∧ ∃ acc, Hy p = some (.lst acc) ∧ DqAll X.K (hid (p :: M) Hy) acc ((x.cps.toList.take (i + 1)).filterMap f), fun Hy hy => ⟨m - 1, by omega, by omega, hy⟩, fun v Hy hyl => ?_⟩
      obtain ⟨rfl, c, hc1, rfl⟩ := hyl
      have hc2 : x.cps.toList[i]? = some c := by rw [Array.getElem?_toList]; exact hc1
      have etake : x.cps.toList.take (i + 1) = x.cps.toList.take i ++ [c] := by rw [List.take_add_one, hc2]; rfl
      have Lp : Live (p :: M) Hy := fun b hb => by
        rcases List.mem_cons.mp hb with z | hb
        · subst z; rw [hacc]; simp
        · exact L2'.mono sx b hb
      refine bg_mono (hst p c Hy (List.mem_of_getElem? hc2) hp0 ((s1.trans s2).trans sx) Lp) fun σ2 Ha ⟨hw, hbt⟩ => ⟨hw, bt_mono hbt fun k Hb ⟨sb, hk⟩ => ?_⟩
      rcases hk with ⟨hk, d', hf, hbe⟩ | ⟨hk, hf⟩
      · subst hk
        refine iteT (be_mono hbe fun y Hc ⟨sc, hy⟩ => ?_)
        have sd := sb.trans sc
        refine ⟨acc, sd _ _ hacc, ?_, fun b o e => ?_, acc ++ [y], upd_same, ?_⟩
        · have h1 : ((x.cps.toList.take i).filterMap f).length ≤ (x.cps.toList.take i).length := List.length_filterMap_le ..
          have h2 : (x.cps.toList.take i).length ≤ i := by rw [List.length_take]; omega
          have h4 : 100000 < sizeLine := by decide
          rw [dpa_len hda]
          omega
        · rw [upd_ne (ne_of_none e hp)]
          exact sd _ _ (sx _ _ e)
        · rw [hid_upd_ne, etake, List.filterMap_append]
          have e2 : [c].filterMap f = [d'] := by simp [hf]
          rw [e2]
          exact dpa_app (hda.up (hid_mono sd)) (.cons hy .nil)
      · subst hk
        refine iteF ⟨sx.trans sb, acc, sb _ _ hacc, ?_⟩
        rw [etake, List.filterMap_append]
        have e2 : [c].filterMap f = [] := by simp [hf]
        rw [e2, List.append_nil]
        exact hda.up (hid_mono sb)
    · have ei : x.cps.toList.take i = x.cps.toList := List.take_of_length_le (by omega)
      rw [ei] at hda
      refine .inl ⟨by show x.cps.size ≤ i; omega, q p acc Hx (s2.trans sx) (s2.free hp) hacc (hda.up fun b o e => ?_)⟩
      have n1 : b ∉ p :: M := fun z => by unfold hid at e; rw [if_pos z] at e; cases e
      rw [hid_of (fun z => n1 (List.mem_cons_of_mem _ z))]
      exact hid_le _ _ e⟩
/-- all([..]) -/
theorem bools_v {K : PySem.W.Frag} {H : Hp} : ∀ {bs : List Bool} {xs : List V}, DqAll K H xs (bs.map PyData.bool) → xs = bs.map V.bl
  | [], _, h => by cases h; rfl
  | n :: ns, _, h => by
    cases h with
    | cons a b => rw [dp_bl a, bools_v b]; rfl
end
/-- the number of two digits -/
theorem two_digits : ∀ i : Fin 10, ∀ j : Fin 10, PySem.intText? ⟨#[48 + i.val, 48 + j.val]⟩ = some ((10 * i.val + j.val : Nat) : Int) := by decide +kernel
end Dl

set_option Elab.async false
set_option linter.all false
set_option maxRecDepth 100000
set_option maxHeartbeats 4000000
/-! several clauses `except X as e`, all with one name -/
namespace Dl
open PySem PySem.Spec PyProof.Rows L2
/-- what the clauses wish, one after the other -/
def wManyAs (K : PySem.W.Frag) (i : Nat) (Wout : WX) (D : Ends) : List (Value × (Addr → Value → Option Addr → TS)) → WX
  | [] => Wout
  | (c, ts) :: r => wAs K c i ts (wManyAs K i Wout D r) D
inductive HdsAs (X : Cx) (n : Str) : List ExceptHandler → List (Value × (Addr → Value → Option Addr → TS)) → Prop
  | nil : HdsAs X n [] []
  | cons {y : Str} {c : Value} {ts : Addr → Value → Option Addr → TS} {st0 : Stmt} {sts : List Stmt} {np hp : Pos} {hs : List ExceptHandler} {l : List (Value × (Addr → Value → Option Addr → TS))} (nm : Names X y c)
      (run : ∀ (a : Addr) (ob : Obj) (cls : Value) (d : Option Addr) (pn : List (Addr × Obj)), Zc cls d ob → (∃ fs, ob.data = .fields fs) → PSs (X.suite a ((a, ob) :: pn)) (st0 :: sts) (ts a cls d)) (more : HdsAs X n hs l) :
      HdsAs X n (.ExceptHandler (some (.Name y np)) (some n) (st0 :: sts) hp :: hs) ((c, ts) :: l)
section
variable {X : Cx} {n : Str} {i : Nat} {body : List Stmt} {h0 : ExceptHandler} {hds : List ExceptHandler} {l : List (Value × (Addr → Value → Option Addr → TS))} {pos : Pos} {tb : WX → TS} {Wout : WX}
theorem ps_try_manyAs (stk : X.stack = X.env :: X.outer) (frm : X.env.frame = some X.env.locals) (nd : X.N.Nodup) (at_ : X.N[i]? = some n) (loc : X.env.kindOf n = some .local) (out : Takes X Wout)
    (bd : ∀ (W : WX) (pn : List (Addr × Obj)) (xe : Value → Shared → Prop), Takes (X.tr pn xe) W → PassesOwn (model X.prog X.w) X.A X.env xe → PSs (X.tr pn xe) body (tb W)) (hh : HdsAs X n (h0 :: hds) l) :
    PS X (.Try body (h0 :: hds) [] [] pos) fun D σ H => tb (wManyAs X.K i Wout D l) D σ H := by
  refine ⟨fun pins s σ H D I wish => ?_⟩
  have okX := I.ok
  have frs0 : X.A.frames = some (X.env :: X.outer) := okX.frames.trans (by rw [stk])
  have locN : Loc X.env.scope n := Or.inl loc
  refine wpAny_Try_except ?_
  refine wpAny_mono ((bd (wManyAs X.K i Wout D l) (X.pn ++ pins) (fun exc t1 => wpAny (model X.prog X.w) X.A (noteFrame exc X.env) (fun _ t2 => wpAny (model X.prog X.w) X.A (setFlight exc none) (fun _ t3 =>
      wpAny (model X.prog X.w) X.A (handleBy exc X.env (h0 :: hds)) (SP X pins D) X.xe t3) X.xe t2) X.xe t1) (fun u s2 flying => ?_) PassesOwn.looking).run [] s σ H D (I.toTry _) wish) (fun fl t1 done => ?_) fun exc t1 raised => raised
  · obtain ⟨a, B, sI, pins1, τ, G, cls, d, rfl, I1, stay, ups, sky, free, oss, bare, owe⟩ := flying
    have J : Inv X pins τ G sI := I1.ofTry okX
    have sky1 : Sky B (X.env :: X.outer) a (Zc cls d) X.env.locals s2.heap := by rw [← stk]; exact sky
    show wpAny (model X.prog X.w) X.A (noteFrame (.ref a) X.env) _ _ _
    refine Sky.land Zc.steady frs0 frm sky1 fun h3 fl3 up3 => ?_
    have J3 : Inv X pins τ G { s2 with heap := h3 } := J.landed stay fl3.1 (ups.trans up3) oss bare
    obtain ⟨o3, fs3, g3, z3, dt3⟩ := fl3.there
    have notIn : a ∉ frs (X.env :: X.outer) := fun m => by
      obtain ⟨_, o4, g4, no⟩ := fl3.2.2.1.mem m
      rw [g3] at g4
      cases g4
      exact no _ dt3
    have notLoc : a ≠ X.env.locals := fun z => notIn (List.mem_filterMap.mpr ⟨X.env, List.mem_cons_self, by rw [frm, z]⟩)
    have notFs : a ∉ X.fs := fun m => by
      obtain ⟨en, hen, q⟩ := List.mem_filterMap.mp m
      exact notIn (List.mem_filterMap.mpr ⟨en, List.mem_cons_of_mem _ hen, q⟩)
    have S3 := J3.suite g3 dt3 free notLoc notFs
    have walk : ∀ {hs1 : List ExceptHandler} {l1 : List (Value × (Addr → Value → Option Addr → TS))}, HdsAs X n hs1 l1 → wManyAs X.K i Wout D l1 cls d τ G →
        wpAny (model X.prog X.w) X.A (handleBy (.ref a) X.env hs1) (SP X pins D) X.xe { s2 with heap := h3 } := by
      intro hs1 l1 k
      induction k with
      | nil =>
        intro owe1
        refine wpAny_handleBy_nil ?_
        obtain ⟨q1, q2, q3, o5, fs5, tb5, ot5, ts5, g5, z5, dt5, one5, r5⟩ := id fl3
        unfold PySem.passOn
        refine wpAny_bind (wpAny_field g5 dt5 one5 ?_)
        rw [if_neg (show ¬ ((Value.ref tb5 == Value.none) = true) from by simp)]
        have up : wpAny (model X.prog X.w) X.A (setFlight (.ref a) X.env.frame) (fun _ t4 => wpAny (model X.prog X.w) X.A (throw (.ref a) : Sem Flow) (SP X pins D) X.xe t4) X.xe { s2 with heap := h3 } := by
          rw [frm]
          refine HandSPX.setFlight_upZ fl3 fun h4 fl4 up4 => wpAny_throw (out _ _ ?_)
          exact ⟨a, B, sI, pins, τ, G, cls, d, rfl, J, stay, (ups.trans up3).trans up4, .inr (.inr (by rw [stk]; exact fl4)), free, oss, bare, owe1⟩
        first | exact wpAny_bind (wpAny_pure (wpAny_bind up)) | exact wpAny_bind up
      | @cons y c ts st0 sts np hp hs2 l2 nm run more ih =>
        intro owe1
        obtain ⟨b, is1, yes1, no1⟩ := owe1
        refine wpAny_handleBy_cons (codeAny_handlers_test ?_) (by intro q; cases q)
        have looks : PySem.W.Looks (model X.prog X.w) h3 (typeOf (.ref a)) cls := fun A1 Q1 E1 t1 keep q => wpAny_typeOf_ref (keep _ _ g3) (by rw [z3.1]; exact q)
        have isIt := PySem.W.exm_one (M := model X.prog X.w) (J3.kIn) looks is1
        have named : ∀ {Q1 : Value → Shared → Prop} {E1 : Value → Shared → Prop}, Q1 c { s2 with heap := h3 } → wpAny (model X.prog X.w) (X.A.mark (some (.ref a))) (eval (.Name y np) X.env) Q1 E1 { s2 with heap := h3 } := fun {Q1 E1} q => by
          obtain ⟨gl, db, mm | ⟨mm, bv, nn⟩⟩ := nm
          · exact ld_glob (X := X.suite a ((a, o3) :: (X.pn ++ pins))) S3 gl mm q db
          · exact ld_blt (X := X.suite a ((a, o3) :: (X.pn ++ pins))) S3 gl mm bv q nn db
        refine named (isIt.here ?_)
        cases b with
        | false =>
          show wpAny _ X.A (handleBy (.ref a) X.env hs2) _ _ _
          exact ih (no1 rfl)
        | true =>
          refine codeAny_handlers_suite_as ?_
          refine HandSPX.lands_againZ fl3 fun h4 fl4 up4 => ?_
          have J4 : Inv X pins τ G { s2 with heap := h4 } := J.landed stay fl4.1 ((ups.trans up3).trans up4) oss bare
          obtain ⟨o4, fs4, g4, z4, dt4⟩ := fl4.there
          refine store_ok (X := X.suite a ((a, o4) :: (X.pn ++ pins))) (v := .ref a) (J4.suite g4 dt4 free notLoc notFs) nd at_ locN rfl (fun t5 S5 => ?_) (Or.inr loc)
          refine wpAny_mono ((run a o4 cls d (X.pn ++ pins) z4 ⟨_, dt4⟩).run [] t5 _ G _ S5 (yes1 rfl a free)) (fun fl t6 done => ?_) fun _ _ z => z.elim
          have forget : ∀ {σ6 : L2.St} {G6 : Hp} {Q1 : Shared → Prop}, Inv (X.suite a ((a, o4) :: (X.pn ++ pins))) [] σ6 G6 t6 → (∀ t7, Inv X pins (σ6.set i none) G6 t7 → Q1 t7) →
              wpAny (model X.prog X.w) X.A (do bindName X.env n .none; unbindBehindTheSuite X.env n hp) (fun _ t7 => Q1 t7) X.xe t6 := fun {σ6 G6 Q1} S6 q => gone_ok (S6.unsuite okX) nd at_ loc q
          cases fl with
          | next => obtain ⟨τ6, G6, S6, q6⟩ := done; exact forget S6 fun t7 J7 => ⟨_, _, J7, q6⟩
          | brk => obtain ⟨τ6, G6, S6, q6⟩ := done; exact forget S6 fun t7 J7 => ⟨_, _, J7, q6⟩
          | cont => obtain ⟨τ6, G6, S6, q6⟩ := done; exact forget S6 fun t7 J7 => ⟨_, _, J7, q6⟩
          | ret u => obtain ⟨v6, τ6, G6, S6, r6, q6⟩ := done; exact forget S6 fun t7 J7 => ⟨_, _, _, J7, r6, q6⟩
    exact walk hh owe
  · cases fl with
    | next => obtain ⟨τ, G, J, q⟩ := done; exact wpAny_execs_nil ⟨τ, G, J.ofTry okX, q⟩
    | brk => obtain ⟨τ, G, J, q⟩ := done; exact ⟨τ, G, J.ofTry okX, q⟩
    | cont => obtain ⟨τ, G, J, q⟩ := done; exact ⟨τ, G, J.ofTry okX, q⟩
    | ret u => obtain ⟨v, τ, G, J, rv, q⟩ := done; exact ⟨v, τ, G, J.ofTry okX, rv, q⟩
end
end Dl

set_option Elab.async false
set_option linter.all false
set_option maxRecDepth 100000
set_option maxHeartbeats 4000000
/-! Data layer: defs that may raise, raise, try with several clauses, the field of a caught exception -/
namespace Dl
open PySem PySem.Spec PyProof.Rows L2
section
variable {X : Cx} {M : List Addr} {σ : L2.St} {H H' : Hp} {e o : Expr} {es : List Expr} {x n : Str} {v : V} {pos p1 p2 p3 hp : Pos} {D : Ends} {rest body : List Stmt} {k i : Nat} {f C fI : Addr} {fd : FuncData} {ps : List Str} {W : WX} {Q : VK} {sp : Sp}
/-- x(e, ..), a def that may raise -/
theorem re_callX (F : FnOk X.prog X.w X.K X.mg X.base (L2.CX X.prog X.w) k f fd ps sp) (hr : Room k X.A) (tk : Takes X W) (hm : X.mg x = some (.ref f)) (hk : PySem.W.keepIn X.K (.ref f) = true) (hb : Binds X.K fd ps []) (ha : RA X (e :: es) σ H fun vs H1 => sp vs H1 Q fun cls d H2 => W cls d σ H2) (hg : Gl X x := by rfl)
    (hdb : (x == ("__debug__" : Str)) = false := by decide) (he : starEach (e :: es) X.env = (false, eval e X.env) :: starEach es X.env := by rfl) (hpl : (backTo pos (starEach es X.env)).any (·.1) = false := by rfl) : RE X (.Call (.Name x p1) (e :: es) [] pos) σ H Q :=
  ⟨_, pe_callS F hr hg hm hk hb (fun σ => passAt tk σ) ra_ hdb he hpl, ha⟩
/-- __init__(self, value) of an exception's class -/
def spXI (C : Addr) (fl : Str) : Sp := fun vs H Q _ => ∃ (a : Addr) (v : V), vs = [.ref a, v] ∧ H a = some (exo a C none) ∧ ∀ H2, Same H H2 → ∀ dx, H2 dx = none → dx ≠ a → Q .non (upd (upd H2 dx (exd dx [(fl, v)])) a (exo a C (some dx)))
/-- self.f = e, self a new exception -/
theorem rb_ost {m : Str} {a : Addr} {ap : Pos} (T : OexC X.K C) (no : PySem.W.findIn X.K (.ref C) m = some none) (he : XV X σ H e v) (ho : XV X σ H o (.ref a)) (ha : H a = some (exo a C none)) (q : ∀ H2, Same H H2 → ∀ dx, H2 dx = none → dx ≠ a → RB X rest D σ (upd (upd H2 dx (exd dx [(m, v)])) a (exo a C (some dx))))
    (hs : swapsWith e (some (.Attribute o m ap)) pos.line X.env = pure false := by rfl) : RB X (.Assign [.Attribute o m ap] e pos :: rest) D σ H :=
  ⟨_, pss_cons (ps_ost re_ re_ hs) rb_, he H (Same.refl H) _ fun H1 s1 => ho H1 s1 _ fun H2 s2 => ⟨a, C, rfl, T, no, .inl ⟨(s1.trans s2) _ _ ha, fun dx h1 h2 => q H2 (s1.trans s2) dx h1 h2⟩⟩⟩
/-- a class of exceptions with one field -/
structure XCls (P : Program) (w : World) (K : PySem.W.Frag) (mg : Str → Option Value) (base : Heap) (x fl : Str) (C fI : Addr) (fd : FuncData) : Prop where
  mgC : mg x = some (.ref C)
  T : OexC K C
  iC : PySem.W.findIn K (.ref C) "__init__" = some (some (.ref fI))
  tI : PySem.W.typeIn K (.ref fI) = some (.type "function")
  G : FnOk P w K mg base CX0 1 fI fd ["self", fl] (spXI C fl)
  b : Binds K fd ["self", fl] []
  xf : XfC K C
  no : PySem.W.findIn K (.ref C) fl = some none
  te : PySem.W.exmOne K (.ref C) (.ref C) = some true
theorem del_upd {H H2 : Hp} {a d : Addr} {fs : List (Str × V)} (ha : H a = none) (s : Same (upd H a (exo a C none)) H2) (hd : H2 d = none) (ne : d ≠ a) : Same H (upd (del (upd (upd H2 d (exd d fs)) a (exo a C (some d))) a) d (.xd fs)) := fun b o e => by
  have na : b ≠ a := fun z => by rw [z, ha] at e; cases e
  have e2 : H2 b = some o := s b o (by rw [upd_ne na]; exact e)
  have nd : b ≠ d := fun z => by rw [z, hd] at e2; cases e2
  rw [upd_ne nd, del_ne na, upd_ne na, upd_ne nd]
  exact e2
/-- raise C(e) -/
theorem rb_raise {fl : Str} (Y : XCls X.prog X.w X.K X.mg X.base x fl C fI fd) (hr : Room 2 X.A) (tk : Takes X W) (h : RE X e σ H fun v H1 => ∀ d H2, Same H1 H2 → H2 d = some (.xd [(fl, v)]) → W (.ref C) (some d) σ H2) (hc : X.calm = true := by rfl) (hg : Gl X x := by rfl)
    (hdb : (x == ("__debug__" : Str)) = false := by decide) (he : starEach [e] X.env = (false, eval e X.env) :: starEach [] X.env := by rfl) (hpl : (backTo pos (starEach [] X.env)).any (·.1) = false := by rfl) : RB X (.Raise (some (.Call (.Name x p1) [e] [] pos)) none p2 :: rest) D σ H :=
  ⟨_, pss_cons (ps_raise hc tk (pmk_oex Y.T Y.iC Y.tI Y.G hr Y.b .nil pass0 hg Y.mgC ra_ hdb he hpl)) rb_, ra_1 (re_mono h fun v H1 q => by
    refine ⟨by show 1 ≤ 1000; decide, fun a ha => ⟨a, v, rfl, upd_same, fun H2 s2 d h1 h2 => ⟨rfl, d, _, upd_same, by rw [upd_ne h2, upd_same], ?_, q d _ (del_upd ha s2 h1 h2) upd_same⟩⟩⟩
    cases e3 : H1 d with
    | none => rfl
    | some o =>
      have e4 := s2 d o (by rw [upd_ne h2]; exact e3)
      rw [h1] at e4
      cases e4) he⟩
/-! ### try -/
/-- the body of a try, what leaves it goes by W -/
def TB (X : Cx) (body : List Stmt) : WX → TS := fun W D σ H => ∀ (pn : List (Addr × Obj)) (xe : Value → Shared → Prop), Takes (X.tr pn xe) W → PassesOwn (model X.prog X.w) X.A X.env xe → RB (X.tr pn xe) body D σ H
/-- a clause's suite, the exception at a -/
def SB (X : Cx) (suite : List Stmt) : Addr → Value → Option Addr → TS := fun a cls d D σ H => ∀ (ob : Obj) (pn : List (Addr × Obj)), Zc cls d ob → (∃ fs, ob.data = .fields fs) → RB (X.suite a ((a, ob) :: pn)) suite D σ H
theorem tb_ {pn : List (Addr × Obj)} {xe : Value → Shared → Prop} (tk : Takes (X.tr pn xe) W) (po : PassesOwn (model X.prog X.w) X.A X.env xe) : PSs (X.tr pn xe) body (TB X body W) := ⟨fun pins s σ H D I h => by
  obtain ⟨t, ht, q⟩ := h pn xe tk po
  exact ht.run pins s σ H D I q⟩
theorem sb_ {suite : List Stmt} {a : Addr} {ob : Obj} {cls : Value} {d : Option Addr} {pn : List (Addr × Obj)} (z : Zc cls d ob) (hf : ∃ fs, ob.data = .fields fs) : PSs (X.suite a ((a, ob) :: pn)) suite (SB X suite a cls d) := ⟨fun pins s σ H D I h => by
  obtain ⟨t, ht, q⟩ := h ob pn z hf
  exact ht.run pins s σ H D I q⟩
/-- the clauses by their classes -/
inductive Cls (X : Cx) (n : Str) : List ExceptHandler → List (Value × (Addr → Value → Option Addr → TS)) → Prop
  | nil : Cls X n [] []
  | cons {y : Str} {c : Value} {st0 : Stmt} {sts : List Stmt} {np hp : Pos} {hs : List ExceptHandler} {l : List (Value × (Addr → Value → Option Addr → TS))} (nm : Names X y c) (more : Cls X n hs l) :
      Cls X n (.ExceptHandler (some (.Name y np)) (some n) (st0 :: sts) hp :: hs) ((c, SB X (st0 :: sts)) :: l)
theorem Cls.ok {hs : List ExceptHandler} {l : List (Value × (Addr → Value → Option Addr → TS))} (h : Cls X n hs l) : HdsAs X n hs l := by
  induction h with
  | nil => exact .nil
  | cons nm more ih => exact .cons nm (fun a ob cls d pn z hf => sb_ z hf) ih
theorem rb_tryAs {h0 : ExceptHandler} {hds : List ExceptHandler} {l : List (Value × (Addr → Value → Option Addr → TS))} {Wout : WX} (i : Nat) (hN : X.N.Nodup) (out : Takes X Wout) (hh : Cls X n (h0 :: hds) l) (h : TB X body (wManyAs X.K i Wout { D with nx := RB X rest D } l) { D with nx := RB X rest D } σ H)
    (hi : X.N[i]? = some n := by rfl) (loc : X.env.kindOf n = some .local := by rfl) (stk : X.stack = X.env :: X.outer := by rfl) (frm : X.env.frame = some X.env.locals := by rfl) : RB X (.Try body (h0 :: hds) [] [] pos :: rest) D σ H :=
  ⟨_, pss_cons (ps_try_manyAs (tb := TB X body) stk frm hN hi loc out (fun W pn xe tk po => tb_ tk po) hh.ok) rb_, h⟩
/-- e.f, e the caught exception -/
theorem xv_xf {a : Addr} {ob : Obj} {cls : Value} {d : Addr} {pn : List (Addr × Obj)} {fl : Str} {fs : List (Str × V)} (T : XfC X.K C) (no : PySem.W.findIn X.K (.ref C) fl = some none) (z : Zc cls (some d) ob) (hf : ∃ vs, ob.data = .fields vs) (hcl : cls = .ref C) (ho : XV (X.suite a ((a, ob) :: pn)) σ H e (.ref a)) (hd : H d = some (.xd fs)) (hl : fs.lookup fl = some v)
    (hb : attributeBase e fl X.env (eval e X.env) = eval e X.env := by rfl) : XV (X.suite a ((a, ob) :: pn)) σ H (.Attribute e fl pos) v := fun H1 s Q q =>
  ⟨_, pe_xf T no z hf re_ hb, ho H1 s _ fun H2 s2 => ⟨rfl, hcl, d, fs, v, rfl, (s.trans s2) _ _ hd, hl, q H2 s2⟩⟩
end
end Dl

set_option Elab.async false
set_option linter.all false
set_option maxRecDepth 100000
set_option maxHeartbeats 4000000
/-! exceptions of own classes over any built-in class of exceptions (LookupError, ..), with one field set by __init__ -/
namespace PySem
namespace SLx
open PySem.W PySem.Calls PyProof.Rows PySem.HandSPX
open Builtin Builtin.ObjectAttr
/-- a built-in's line of classes, as a tail -/
structure TlF (tl : List Value) : Prop where
  pass : ∀ u : Value, refuseLoop u "__setattr__" tl = pure ()
  obj : tl.contains (.type "object") = true
abbrev leTl : List Value := [.type "LookupError", .type "Exception", .type "BaseException", .type "object"]
theorem leTl_ok : TlF leTl := ⟨fun u => by kernel_rfl, by decide +kernel⟩
/-- own classes first -/
def Tl (tl l : List Value) : Prop := ∃ rs : List Addr, l = rs.map Value.ref ++ tl
theorem Tl.more {tl l : List Value} {a : Addr} (h : Tl tl l) : Tl tl (.ref a :: l) := by
  obtain ⟨rs, e⟩ := h
  exact ⟨a :: rs, by rw [e]; rfl⟩
theorem Tl.pass {tl l : List Value} (F : TlF tl) (h : Tl tl l) (u : Value) : refuseLoop u "__setattr__" l = pure () := by
  obtain ⟨rs, rfl⟩ := h
  induction rs with
  | nil => exact F.pass u
  | cons a rs ih => exact (refuseLoop_ref u "__setattr__" a _).trans ih
theorem Tl.has {tl l : List Value} (h : Tl tl l) (X : String) : l.contains (.type X) = tl.contains (.type X) := by
  obtain ⟨rs, rfl⟩ := h
  induction rs with
  | nil => rfl
  | cons a rs ih =>
    show ((Value.ref a :: (rs.map Value.ref ++ tl)).contains (.type X)) = _
    rw [List.contains_cons, ih]
    rfl
theorem Tl.ne {tl l : List Value} (F : TlF tl) (h : Tl tl l) : l.isEmpty = false := by
  have e := h.has "object"
  rw [F.obj] at e
  cases l with
  | nil => cases e
  | cons _ _ => rfl
section
variable {prog : Program} {w : World} {A : Around} {R : Result → Shared → Prop} {hp : Heap} {g : Array GenState} {d : Drawn} {t : Nat} {os : OsState}
/-- self.name = v on an exception without a dict -/
theorem osa_tl {K : W.Frag} {tl : List Value} {nm : Str} {tk : Tok} {v : Value} {x C : Addr} {fv : Array Value} {cd : ClassData} (F : TlF tl) (KX : K.In hp)
    (ox : hp.get? x = some { cls := .ref C, data := .fields fv }) (cc : W.clsIn K C = some cd) (mt : Tl tl cd.mro) (hasD : cd.hasDict = true) (noA : W.findIn K (.ref C) nm = some none)
    (q : ∀ h2 t2 dx, (∀ c o, c ≠ x → hp.get? c = some o → h2.get? c = some o) → hp.objs.size ≤ dx → dx ≠ x →
      h2.get? x = some { cls := .ref C, dict := some dx, data := .fields fv } → h2.Ns1 dx (fun y => if y = nm then some v else none) → R (.ok (.ret .none)) ⟨h2, g, d, t2, os⟩) :
    codeAny (model prog w) A (.call (.builtin "object.__setattr__") ⟨[.ref x, .str nm tk, v], []⟩) R ⟨hp, g, d, t, os⟩ := by
  have In0 : W.InstAt hp x { cls := .ref C, data := .fields fv } C none := ⟨ox, rfl, rfl, trivial⟩
  have SO := PySem.F.store_object
  have nE := mt.ne F
  have hO : cd.mro.contains (.type "object") = true := (mt.has "object").trans F.obj
  have xn : x ≠ hp.objs.size := Nat.ne_of_lt (Heap.lt_size ox)
  have isO : W.Looks (model prog w) hp (isInstance (.ref x) (.type "object")) true :=
    In0.type.andThen (W.looks_mroIn KX (by
      unfold W.mroIn
      rw [cc, Option.bind_some, if_neg (by rw [nE]; decide), hO]))
  refine codeAny_call_builtin SO.slot.plain SO.entry
    (@W.check_slot (model prog w) _ _ ⟨hp, g, d, t, os⟩ "object.__setattr__" "object" "__setattr__" (.ref x) [.str nm tk, v] [] _ SO.kind SO.split isO (SO.args (.ref x) (.str nm tk) v) ?_)
  have lm : W.Looks (model prog w) hp (mroOf (.ref C)) cd.mro :=
    (W.looks_clsIn KX cc).andThen .now
  have lt : W.Looks (model prog w) hp (storeTaker? none) none :=
    .now
  have lc : W.Looks (model prog w) hp (classData C) cd :=
    W.looks_clsIn KX cc
  rw [W.osa_eq, refuse_eq]
  refine wpAny_bind (wpAny_bind (In0.type.at (wpAny_bind (lm.at ?_))))
  rw [mt.pass F]
  refine wpAny_pure (wpAny_bind (In0.type.at (wpAny_bind ((W.looks_findIn KX noA).at (wpAny_bind (lt.at ?_))))))
  show wpAny _ _ (storeInOwnDict (.ref x) (.ref C) (.str nm tk) nm v false) _ _ _
  obtain ⟨n1, bs1, mro1, ns1, qn1, hd1, sn1, sb1, ab1, col1, del1⟩ := cd
  dsimp only at hasD
  subst hasD
  unfold storeInOwnDict ownDictForStores
  repeat (first
    | with_reducible refine store_in_new ?_ ?_
    | with_reducible refine wpAny_loadPart_at ox ?_
    | with_reducible refine lc.at ?_
    | wp_step)
  · exact ⟨_, #[], _, (Heap.get?_update_ne _ _ _ _ xn.symm).trans (Heap.get?_push_at rfl rfl),
      rfl, fun e he => absurd he (by simp), fun _ => rfl⟩
  · intro h2 t2 hn2 hs2
    have ox2 : (hp.push { cls := .type "dict", data := .dict #[] }).get? x = some { cls := .ref C, data := .fields fv } :=
      Heap.get?_push_of_some _ ox
    refine q h2 t2 hp.objs.size (fun c o hc ho => ?_) (Nat.le_refl _) xn.symm ?_ hn2
    · exact (hs2.2 c (Nat.ne_of_lt (Heap.lt_size ho))).trans
        ((Heap.get?_update_ne _ _ _ _ hc).trans (Heap.get?_push_of_some _ ho))
    · exact (hs2.2 x xn).trans (Heap.get?_update_self _ ox2 rfl)
end
end SLx
end PySem
namespace L2
open PySem PySem.Spec PyProof.Rows PySem.SLx
/-- a class of exceptions over the built-in whose line of classes is tl -/
structure OexG (K : PySem.W.Frag) (C : Addr) (tl : List Value) (newId : String) : Prop where
  F : TlF tl
  cls : ∃ nm q N bs bm sn sub ab col dd k0 k1 k2 k3 k5, K.lookup C = some (excClassObj nm q C N bs bm true sn sub ab col dd k0 k1 k2 k3 k5 newId) ∧ Tl tl bm
  sa : PySem.W.findIn K (.ref C) "__setattr__" = some (some (.builtin "object.__setattr__"))
  ex : PySem.W.subIn K (.ref C) (.type "BaseException") = some true
  ty : PySem.W.typeIn K (.ref C) = some (.type "type")
  kp : PySem.W.keepIn K (.ref C) = true
section
variable {X : Cx} {pins : List (Addr × Obj)} {σ : St} {H : Hp} {s : Shared} {a C : Addr} {f : Str} {y : V} {u : Value} {Q : Unit → Shared → Prop} {E : Value → Shared → Prop} {A : Around} {tl : List Value} {newId : String}
theorem ostG_new (T : OexG X.K C tl newId) (I : Inv X pins σ H s) (ea : H a = some (exo a C none)) (no : PySem.W.findIn X.K (.ref C) f = some none) (ry : RelV y u)
    (q : ∀ dx s2, H dx = none → dx ≠ a → Inv X pins σ (upd (upd H dx (exd dx [(f, y)])) a (exo a C (some dx))) s2 → Q () s2) : wpAny (model X.prog X.w) A (setAttr (.ref a) f u) Q E s := by
  obtain ⟨nm, qq, N, bs, bm, sn, sub, ab, col, dd, k0, k1, k2, k3, k5, hC, hbm⟩ := T.cls
  have hcl : PySem.W.clsIn X.K C = some { name := nm, bases := bs, mro := .ref C :: bm, ns := N, qualname := qq, hasDict := true, slotNames := sn, subclasses := sub, abstract := ab, collection := col, hasDel := false } := by
    unfold PySem.W.clsIn
    rw [hC] <;> rfl
  obtain ⟨t1, ho⟩ := exo_at I.hok ea
  obtain ⟨hp, g, d, t, os⟩ := s
  refine PySem.W.set_plain I.kIn (ox := { cls := .ref C, dict := none, data := .fields #[.ref t1, .none, .none, .none, .bool false, .none] })
    (od := none) ⟨ho, rfl, rfl, trivial⟩ T.sa ?_
  refine osa_tl T.F I.kIn ho hcl hbm.more rfl no (fun h2 t2 dx kp dn dne hx hn => ?_)
  have dN : H dx = none := I.hok.fresh dn
  have old : ∀ {c : Addr} {o : Obj}, hp.get? c = some o → c ≠ dx := fun {c o} z => Nat.ne_of_lt (Nat.lt_of_lt_of_le (Heap.lt_size z) dn)
  have off : ∀ {c : Addr}, H c = none → c ≠ a := fun {c} n z => by rw [z, ea] at n; cases n
  have U : Un X.fs [] H (upd (upd H dx (exd dx [(f, y)])) a (exo a C (some dx))) hp h2 := by
    refine ⟨?_, ?_, ?_, ?_, ?_, ?_, ?_⟩
    · exact fun c o z n _ _ => kp c o (off n) z
    · exact fun c o z n _ _ => ⟨o.slots, kp c o (off n) z⟩
    · exact fun c o z n _ => by rw [upd_ne (off n), upd_ne (old z)]; exact n
    · intro c o z _
      by_cases e : c = a
      · exact ⟨_, by rw [e]; exact hx⟩
      · exact ⟨o, kp c o e z⟩
    · exact fun c xs z => by rw [upd_ne (at_ne ea z exo_tup), upd_ne (ne_of_none z dN)]; exact z
    · exact fun c o v z => by rw [upd_ne (at_ne ea z exo_frz), upd_ne (ne_of_none z dN)]; exact z
    · exact fun c ps z => ⟨#[], by rw [upd_ne (at_ne ea z exo_tbl), upd_ne (ne_of_none z dN), z]; simp⟩
  refine q dx _ dN dne (I.un (t' := t2) U fun c o z => ?_)
  by_cases e : c = a
  · subst e
    rw [upd_same] at z
    cases z
    exact exo_ok hx
  · rw [upd_ne e] at z
    by_cases e2 : c = dx
    · subst e2
      rw [upd_same] at z
      cases z
      exact exd_ok hn (relO_put (fs := []) ry fun _ => True.intro)
    · rw [upd_ne e2] at z
      refine (I.hok c o z).stay (fun c' v hc z' => kp c' v ?_ z') (fun c' hc => ?_) (fun c' xs hc => ?_)
      · rcases hc with hc | hc
        · rw [hc]; exact e
        · exact at_ne ea hc exo_own
      · rw [upd_ne (at_ne ea hc exo_own), upd_ne (ne_of_none hc dN)]; exact hc
      · rw [upd_ne (at_ne ea hc exo_tup), upd_ne (ne_of_none hc dN)]; exact hc
end
/-- self.f = e, self a new exception -/
def tOstG (K : PySem.W.Frag) (tl : List Value) (newId : String) (f : Str) (to te : TE) : TS := fun D σ H => te σ H fun y H1 => to σ H1 fun x H2 => ∃ a C : Addr, x = .ref a ∧ OexG K C tl newId ∧ PySem.W.findIn K (.ref C) f = some none ∧
  H2 a = some (exo a C none) ∧ ∀ dx, H2 dx = none → dx ≠ a → D.nx σ (upd (upd H2 dx (exd dx [(f, y)])) a (exo a C (some dx)))
section
variable {X : Cx} {o e : Expr} {es : List Expr} {to te : TE} {ta : TA} {f : Str} {p p' pos : Pos} {tl : List Value} {newId initId B : String}
theorem ps_ostG (ho : PE X o to) (he : PE X e te) (hs : swapsWith e (some (.Attribute o f p')) pos.line X.env = pure false := by rfl) : PS X (.Assign [.Attribute o f p'] e pos) (tOstG X.K tl newId f to te) := by
  refine ⟨fun pins s σ H D I h => ?_⟩
  refine plainObj_wpAny_Assign_Attribute (thn (he.run pins s σ H _ I h) fun v s1 ⟨y, H1, I1, r1, q1⟩ =>
    thn (ho.run pins s1 σ H1 _ I1 q1) fun u s2 ⟨x, H2, I2, r2, a, C, ex, T, no, ea, q⟩ => ?_) hs
  subst ex
  obtain rfl : u = Value.ref a := r2
  exact ostG_new T I2 ea no r1 fun dx s3 n ne J => ⟨σ, _, J, q dx n ne⟩
theorem pmk_oexG {CX : CXT} {x : Str} {C fI : Addr} {k : Nat} {fd : FuncData} {ps : List Str} {sp : Sp} (FB : ExcBaseFacts B newId initId tl) (T : OexG X.K C tl newId) (iC : PySem.W.findIn X.K (.ref C) "__init__" = some (some (.ref fI))) (tI : PySem.W.typeIn X.K (.ref fI) = some (.type "function"))
    (G : FnOk X.prog X.w X.K X.mg X.base CX k fI fd ps sp) (hr : Room (k + 1) X.A) (hb : Binds X.K fd ps []) (hx : Passes CX X (fun _ _ _ => False)) (hg : Gl X x) (hm : X.mg x = some (.ref C)) (ha : PA X (e :: es) ta)
    (hdb : (x == ("__debug__" : Str)) = false := by decide) (he : starEach (e :: es) X.env = (false, eval e X.env) :: starEach es X.env := by rfl) (hpl : (backTo pos (starEach es X.env)).any (·.1) = false := by rfl) :
    PMk X (.Call (.Name x p) (e :: es) [] pos) (tMkO C sp [] ta) := by
  intro pins s σ H Q I h
  obtain ⟨nm, qq, N, bs, bm, sn, sub, ab, col, dd, k0, k1, k2, k3, k5, hC, hbm⟩ := T.cls
  refine wpAny_Call_Name_kw (ld_glob I hg hm ?_ hdb)
  refine PySem.W.callWith_K (h₀ := X.base) I.ok.mod.kin T.kp (thn (ha.run pos pins s σ H _ I h) fun us s1 ⟨vs, H1, I1, r1, hz, q1⟩ => ⟨I1.kIn, ?_⟩) he hpl
  show wpAny _ _ (call (.ref C) us) _ _ _
  obtain ⟨hp, g, dr, tk, os⟩ := s1
  have up1 : hp.objs.size ≤ hp.objs.size + 1 := Nat.le_succ _
  have new1 : H1 (hp.objs.size + 1) = none := I1.hok.fresh up1
  have q2 := q1 (hp.objs.size + 1) new1
  have keep2 : ∀ c o, hp.get? c = some o → ((hp.push (PySem.W.kdv_tup us)).push (PySem.HandSPX.excO C hp.objs.size)).get? c = some o :=
    fun c o z => Heap.get?_push_of_some _ (Heap.get?_push_of_some _ z)
  have at2 : ((hp.push (PySem.W.kdv_tup us)).push (PySem.HandSPX.excO C hp.objs.size)).get? (hp.objs.size + 1) = some (PySem.HandSPX.excO C hp.objs.size) := by
    heap_get
  have I2 : Inv X pins σ (upd H1 (hp.objs.size + 1) (exo (hp.objs.size + 1) C none)) ⟨(hp.push (PySem.W.kdv_tup us)).push (PySem.HandSPX.excO C hp.objs.size), g, dr, tk, os⟩ :=
    I1.laid (t' := tk) (a := hp.objs.size + 1) (o := exo (hp.objs.size + 1) C none)
      (h' := (hp.push (PySem.W.kdv_tup us)).push (PySem.HandSPX.excO C hp.objs.size)) keep2 up1 (exo_ok at2)
  have r2 : Vals (V.ref (hp.objs.size + 1) :: (vs ++ [])) (Value.ref (hp.objs.size + 1) :: (us ++ [])) :=
    .cons rfl (r1.append .nil)
  have hl : (Value.ref (hp.objs.size + 1) :: us ++ []).length = ps.length := by
    have e2 := r2.length
    rw [G.len _ _ _ _ q2] at e2
    exact e2.symm
  have small : us.length ≤ sizeLine := by
    rw [← Paired.length r1, sizeLine_eq]
    omega
  have hb2 := hb ⟨(hp.push (PySem.W.kdv_tup us)).push (PySem.HandSPX.excO C hp.objs.size), g, dr, tk, os⟩ (Value.ref (hp.objs.size + 1) :: us) I2.kIn hl
  rw [List.cons_append] at hb2
  refine wpAny_call (PySem.HandSPX.call_own FB (fun Y => hbm.has Y) (I1.kIn _ _ hC) (PySem.W.looks_findIn I1.kIn iC) (fun self => PySem.W.bind_fn I1.kIn self tI) small ?_)
  refine codeAny_mono (G.run _ X.stack _ _ ⟨Value.ref (hp.objs.size + 1) :: us, []⟩ (Value.ref (hp.objs.size + 1) :: (us ++ [])) _ _ (fun _ _ _ => False)
    (hr.make C us []) (I2.env0.make C us []) hb2 r2 q2) fun r s2 z => ?_
  cases r with
  | error er => exact hx pins σ _ _ er s2 I2 z
  | ok fl =>
    cases fl with
    | ret u =>
      obtain ⟨v, H2, os2, bare2, un2, hok2, rv, ev, d, fs, ea, ed, hd1, q3⟩ := z
      subst ev
      obtain ⟨h2, g2, d2, t2, os'⟩ := s2
      exact ⟨rv, mk_end (raises_own T.ex T.ty) I1 up1 keep2 un2 hok2 os2 bare2 ea ed hd1 q3⟩
    | next => exact z.elim
    | brk => exact z.elim
    | cont => exact z.elim
end
end L2
namespace Dl
open PySem PySem.Spec PyProof.Rows L2 PySem.SLx
section
variable {X : Cx} {M : List Addr} {σ : L2.St} {H H' : Hp} {e o : Expr} {es : List Expr} {x n : Str} {v : V} {pos p1 p2 p3 hp : Pos} {D : Ends} {rest body : List Stmt} {k i : Nat} {f C fI : Addr} {fd : FuncData} {W : WX} {Q : VK} {tl : List Value} {newId initId B : String}
theorem rb_ostG {m : Str} {a : Addr} {ap : Pos} (T : OexG X.K C tl newId) (no : PySem.W.findIn X.K (.ref C) m = some none) (he : XV X σ H e v) (ho : XV X σ H o (.ref a)) (ha : H a = some (exo a C none)) (q : ∀ H2, Same H H2 → ∀ dx, H2 dx = none → dx ≠ a → RB X rest D σ (upd (upd H2 dx (exd dx [(m, v)])) a (exo a C (some dx))))
    (hs : swapsWith e (some (.Attribute o m ap)) pos.line X.env = pure false := by rfl) : RB X (.Assign [.Attribute o m ap] e pos :: rest) D σ H :=
  ⟨_, pss_cons (ps_ostG (tl := tl) (newId := newId) re_ re_ hs) rb_, he H (Same.refl H) _ fun H1 s1 => ho H1 s1 _ fun H2 s2 => ⟨a, C, rfl, T, no, (s1.trans s2) _ _ ha, fun dx h1 h2 => q H2 (s1.trans s2) dx h1 h2⟩⟩
/-- a class of exceptions with one field, over another built-in -/
structure XClsG (P : Program) (w : World) (K : PySem.W.Frag) (mg : Str → Option Value) (base : Heap) (tl : List Value) (newId initId B : String) (x fl : Str) (C fI : Addr) (fd : FuncData) : Prop where
  FB : ExcBaseFacts B newId initId tl
  mgC : mg x = some (.ref C)
  T : OexG K C tl newId
  iC : PySem.W.findIn K (.ref C) "__init__" = some (some (.ref fI))
  tI : PySem.W.typeIn K (.ref fI) = some (.type "function")
  G : FnOk P w K mg base CX0 1 fI fd ["self", fl] (spXI C fl)
  b : Binds K fd ["self", fl] []
  xf : XfC K C
  no : PySem.W.findIn K (.ref C) fl = some none
  te : PySem.W.exmOne K (.ref C) (.ref C) = some true
/-- raise C(e) -/
theorem rb_raiseG {fl : Str} (Y : XClsG X.prog X.w X.K X.mg X.base tl newId initId B x fl C fI fd) (hr : Room 2 X.A) (tk : Takes X W) (h : RE X e σ H fun v H1 => ∀ d H2, Same H1 H2 → H2 d = some (.xd [(fl, v)]) → W (.ref C) (some d) σ H2) (hc : X.calm = true := by rfl) (hg : Gl X x := by rfl)
    (hdb : (x == ("__debug__" : Str)) = false := by decide) (he : starEach [e] X.env = (false, eval e X.env) :: starEach [] X.env := by rfl) (hpl : (backTo pos (starEach [] X.env)).any (·.1) = false := by rfl) : RB X (.Raise (some (.Call (.Name x p1) [e] [] pos)) none p2 :: rest) D σ H :=
  ⟨_, pss_cons (ps_raise hc tk (pmk_oexG Y.FB Y.T Y.iC Y.tI Y.G hr Y.b pass0 hg Y.mgC ra_ hdb he hpl)) rb_, ra_1 (re_mono h fun v H1 q => by
    refine ⟨by show 1 ≤ 1000; decide, fun a ha => ⟨a, v, rfl, upd_same, fun H2 s2 d h1 h2 => ⟨rfl, d, _, upd_same, by rw [upd_ne h2, upd_same], ?_, q d _ (del_upd ha s2 h1 h2) upd_same⟩⟩⟩
    cases e3 : H1 d with
    | none => rfl
    | some o =>
      have e4 := s2 d o (by rw [upd_ne h2]; exact e3)
      rw [h1] at e4
      cases e4) he⟩
end
end Dl

set_option Elab.async false
set_option linter.all false
set_option maxRecDepth 100000
set_option maxHeartbeats 8000000
/-! Data layer: {i:02d}, whole numbers below sixty -/
namespace Dl
open PySem PySem.Spec PyProof.Rows L2 PySem.Builtin PySem.Builtin.Str PySem.Builtin.Int
def two (i : Int) : PySem.Str := if i < 10 then (⟨#[48]⟩ : PySem.Str) ++ PySem.Str.ofString (toString i) else PySem.Str.ofString (toString i)
def s02 : PySem.Str := "02d"
section
variable {prog : Program} {w : World} {A : Around} {E : Value → Shared → Prop} {s : Shared}
theorem field_02 {i : Int} {t : Tok} {Q : Value → Shared → Prop} (h0 : 0 ≤ i) (h1 : i < 60) (q : Q (.str (two i) (s.toks + 1)) { s with toks := s.toks + 1 + 1 }) : wpAny (model prog w) A (formatField (.int i t) s02) Q E s := by
  show wpAny _ _ (holding [.int i t] (pyFormat (.int i t) s02)) Q E s
  refine wpAny_holding ?_
  unfold pyFormat
  refine wpAny_bind (wpAny_mkStr ?_ (by decide))
  refine wpAny_bind (m := callSpecial? (.int i t) (PySem.Str.ofString "__format__") [.str s02 s.toks]) (wpAny_callSpecial?_slot (name := PySem.Str.ofString "__format__") (typeIs_int _ _ t) PyProof.Rows.slot_int_format ?_)
  refine wpAny_call (codeAny_call_builtin PyProof.Rows.slot_int_format.plain PyProof.Rows.entry_int_format (PyProof.Rows.slot_int_format.check _ _ _ _ _ _ _ _ (typeIs_int _ _ t) (PyProof.Rows.args_int_format _ _) ?_))
  unfold Builtin.«int.__format__»
  simp only [selfAndOne, noKeywords, Int.intOfSelf, asInt?, asStr?, List.isEmpty_nil, if_true, pure_bind, bind_pure, bind_assoc, Bool.false_eq_true, if_false, show (Value.str s02 s.toks == Value.none) = false from rfl]
  refine wpAny_bind (wpAny_typeNameOf (T := "str") (typeIs_str _ _ _) (by decide) fun _ => ?_)
  rw [if_neg (by decide), if_neg (by decide)]
  refine wpAny_bind (wpAny_typeNameOfCut_int ?_)
  have all : i = 0 ∨ i = 1 ∨ i = 2 ∨ i = 3 ∨ i = 4 ∨ i = 5 ∨ i = 6 ∨ i = 7 ∨ i = 8 ∨ i = 9 ∨ i = 10 ∨ i = 11 ∨ i = 12 ∨ i = 13 ∨ i = 14 ∨ i = 15 ∨ i = 16 ∨ i = 17 ∨ i = 18 ∨ i = 19 ∨ i = 20 ∨ i = 21 ∨ i = 22 ∨ i = 23 ∨ i = 24 ∨ i = 25 ∨ i = 26 ∨ i = 27 ∨ i = 28 ∨ i = 29 ∨ i = 30 ∨ i = 31 ∨ i = 32 ∨ i = 33 ∨ i = 34 ∨ i = 35 ∨ i = 36 ∨ i = 37 ∨ i = 38 ∨ i = 39 ∨ i = 40 ∨ i = 41 ∨ i = 42 ∨ i = 43 ∨ i = 44 ∨ i = 45 ∨ i = 46 ∨ i = 47 ∨ i = 48 ∨ i = 49 ∨ i = 50 ∨ i = 51 ∨ i = 52 ∨ i = 53 ∨ i = 54 ∨ i = 55 ∨ i = 56 ∨ i = 57 ∨ i = 58 ∨ i = 59 := by omega
  rcases all with rfl | rfl | rfl | rfl | rfl | rfl | rfl | rfl | rfl | rfl | rfl | rfl | rfl | rfl | rfl | rfl | rfl | rfl | rfl | rfl | rfl | rfl | rfl | rfl | rfl | rfl | rfl | rfl | rfl | rfl | rfl | rfl | rfl | rfl | rfl | rfl | rfl | rfl | rfl | rfl | rfl | rfl | rfl | rfl | rfl | rfl | rfl | rfl | rfl | rfl | rfl | rfl | rfl | rfl | rfl | rfl | rfl | rfl | rfl | rfl
  · refine wpAny_bind (m := retStr (two 0)) (wpAny_bind (wpAny_mkStr (wpAny_pure (wpAny_pure ?_)) (by decide +kernel)))
    dsimp only
    exact wpAny_bind (wpAny_isInstance (typeIs_str _ _ _) isSubtype_str_str (wpAny_pure q))
  · refine wpAny_bind (m := retStr (two 1)) (wpAny_bind (wpAny_mkStr (wpAny_pure (wpAny_pure ?_)) (by decide +kernel)))
    dsimp only
    exact wpAny_bind (wpAny_isInstance (typeIs_str _ _ _) isSubtype_str_str (wpAny_pure q))
  · refine wpAny_bind (m := retStr (two 2)) (wpAny_bind (wpAny_mkStr (wpAny_pure (wpAny_pure ?_)) (by decide +kernel)))
    dsimp only
    exact wpAny_bind (wpAny_isInstance (typeIs_str _ _ _) isSubtype_str_str (wpAny_pure q))
  · refine wpAny_bind (m := retStr (two 3)) (wpAny_bind (wpAny_mkStr (wpAny_pure (wpAny_pure ?_)) (by decide +kernel)))
    dsimp only
    exact wpAny_bind (wpAny_isInstance (typeIs_str _ _ _) isSubtype_str_str (wpAny_pure q))
  · refine wpAny_bind (m := retStr (two 4)) (wpAny_bind (wpAny_mkStr (wpAny_pure (wpAny_pure ?_)) (by decide +kernel)))
    dsimp only
    exact wpAny_bind (wpAny_isInstance (typeIs_str _ _ _) isSubtype_str_str (wpAny_pure q))
  · refine wpAny_bind (m := retStr (two 5)) (wpAny_bind (wpAny_mkStr (wpAny_pure (wpAny_pure ?_)) (by decide +kernel)))
    dsimp only
    exact wpAny_bind (wpAny_isInstance (typeIs_str _ _ _) isSubtype_str_str (wpAny_pure q))
  · refine wpAny_bind (m := retStr (two 6)) (wpAny_bind (wpAny_mkStr (wpAny_pure (wpAny_pure ?_)) (by decide +kernel)))
    dsimp only
    exact wpAny_bind (wpAny_isInstance (typeIs_str _ _ _) isSubtype_str_str (wpAny_pure q))
  · refine wpAny_bind (m := retStr (two 7)) (wpAny_bind (wpAny_mkStr (wpAny_pure (wpAny_pure ?_)) (by decide +kernel)))
    dsimp only
    exact wpAny_bind (wpAny_isInstance (typeIs_str _ _ _) isSubtype_str_str (wpAny_pure q))
  · refine wpAny_bind (m := retStr (two 8)) (wpAny_bind (wpAny_mkStr (wpAny_pure (wpAny_pure ?_)) (by decide +kernel)))
    dsimp only
    exact wpAny_bind (wpAny_isInstance (typeIs_str _ _ _) isSubtype_str_str (wpAny_pure q))
  · refine wpAny_bind (m := retStr (two 9)) (wpAny_bind (wpAny_mkStr (wpAny_pure (wpAny_pure ?_)) (by decide +kernel)))
    dsimp only
    exact wpAny_bind (wpAny_isInstance (typeIs_str _ _ _) isSubtype_str_str (wpAny_pure q))
  · refine wpAny_bind (m := retStr (two 10)) (wpAny_bind (wpAny_mkStr (wpAny_pure (wpAny_pure ?_)) (by decide +kernel)))
    dsimp only
    exact wpAny_bind (wpAny_isInstance (typeIs_str _ _ _) isSubtype_str_str (wpAny_pure q))
  · refine wpAny_bind (m := retStr (two 11)) (wpAny_bind (wpAny_mkStr (wpAny_pure (wpAny_pure ?_)) (by decide +kernel)))
    dsimp only
    exact wpAny_bind (wpAny_isInstance (typeIs_str _ _ _) isSubtype_str_str (wpAny_pure q))
  · refine wpAny_bind (m := retStr (two 12)) (wpAny_bind (wpAny_mkStr (wpAny_pure (wpAny_pure ?_)) (by decide +kernel)))
    dsimp only
    exact wpAny_bind (wpAny_isInstance (typeIs_str _ _ _) isSubtype_str_str (wpAny_pure q))
  · refine wpAny_bind (m := retStr (two 13)) (wpAny_bind (wpAny_mkStr (wpAny_pure (wpAny_pure ?_)) (by decide +kernel)))
    dsimp only
    exact wpAny_bind (wpAny_isInstance (typeIs_str _ _ _) isSubtype_str_str (wpAny_pure q))
  · refine wpAny_bind (m := retStr (two 14)) (wpAny_bind (wpAny_mkStr (wpAny_pure (wpAny_pure ?_)) (by decide +kernel)))
    dsimp only
    exact wpAny_bind (wpAny_isInstance (typeIs_str _ _ _) isSubtype_str_str (wpAny_pure q))
  · refine wpAny_bind (m := retStr (two 15)) (wpAny_bind (wpAny_mkStr (wpAny_pure (wpAny_pure ?_)) (by decide +kernel)))
    dsimp only
    exact wpAny_bind (wpAny_isInstance (typeIs_str _ _ _) isSubtype_str_str (wpAny_pure q))
  · refine wpAny_bind (m := retStr (two 16)) (wpAny_bind (wpAny_mkStr (wpAny_pure (wpAny_pure ?_)) (by decide +kernel)))
    dsimp only
    exact wpAny_bind (wpAny_isInstance (typeIs_str _ _ _) isSubtype_str_str (wpAny_pure q))
  · refine wpAny_bind (m := retStr (two 17)) (wpAny_bind (wpAny_mkStr (wpAny_pure (wpAny_pure ?_)) (by decide +kernel)))
    dsimp only
    exact wpAny_bind (wpAny_isInstance (typeIs_str _ _ _) isSubtype_str_str (wpAny_pure q))
  · refine wpAny_bind (m := retStr (two 18)) (wpAny_bind (wpAny_mkStr (wpAny_pure (wpAny_pure ?_)) (by decide +kernel)))
    dsimp only
    exact wpAny_bind (wpAny_isInstance (typeIs_str _ _ _) isSubtype_str_str (wpAny_pure q))
  · refine wpAny_bind (m := retStr (two 19)) (wpAny_bind (wpAny_mkStr (wpAny_pure (wpAny_pure ?_)) (by decide +kernel)))
    dsimp only
    exact wpAny_bind (wpAny_isInstance (typeIs_str _ _ _) isSubtype_str_str (wpAny_pure q))
  · refine wpAny_bind (m := retStr (two 20)) (wpAny_bind (wpAny_mkStr (wpAny_pure (wpAny_pure ?_)) (by decide +kernel)))
    dsimp only
    exact wpAny_bind (wpAny_isInstance (typeIs_str _ _ _) isSubtype_str_str (wpAny_pure q))
  · refine wpAny_bind (m := retStr (two 21)) (wpAny_bind (wpAny_mkStr (wpAny_pure (wpAny_pure ?_)) (by decide +kernel)))
    dsimp only
    exact wpAny_bind (wpAny_isInstance (typeIs_str _ _ _) isSubtype_str_str (wpAny_pure q))
  · refine wpAny_bind (m := retStr (two 22)) (wpAny_bind (wpAny_mkStr (wpAny_pure (wpAny_pure ?_)) (by decide +kernel)))
    dsimp only
    exact wpAny_bind (wpAny_isInstance (typeIs_str _ _ _) isSubtype_str_str (wpAny_pure q))
  · refine wpAny_bind (m := retStr (two 23)) (wpAny_bind (wpAny_mkStr (wpAny_pure (wpAny_pure ?_)) (by decide +kernel)))
    dsimp only
    exact wpAny_bind (wpAny_isInstance (typeIs_str _ _ _) isSubtype_str_str (wpAny_pure q))
  · refine wpAny_bind (m := retStr (two 24)) (wpAny_bind (wpAny_mkStr (wpAny_pure (wpAny_pure ?_)) (by decide +kernel)))
    dsimp only
    exact wpAny_bind (wpAny_isInstance (typeIs_str _ _ _) isSubtype_str_str (wpAny_pure q))
  · refine wpAny_bind (m := retStr (two 25)) (wpAny_bind (wpAny_mkStr (wpAny_pure (wpAny_pure ?_)) (by decide +kernel)))
    dsimp only
    exact wpAny_bind (wpAny_isInstance (typeIs_str _ _ _) isSubtype_str_str (wpAny_pure q))
  · refine wpAny_bind (m := retStr (two 26)) (wpAny_bind (wpAny_mkStr (wpAny_pure (wpAny_pure ?_)) (by decide +kernel)))
    dsimp only
    exact wpAny_bind (wpAny_isInstance (typeIs_str _ _ _) isSubtype_str_str (wpAny_pure q))
  · refine wpAny_bind (m := retStr (two 27)) (wpAny_bind (wpAny_mkStr (wpAny_pure (wpAny_pure ?_)) (by decide +kernel)))
    dsimp only
    exact wpAny_bind (wpAny_isInstance (typeIs_str _ _ _) isSubtype_str_str (wpAny_pure q))
  · refine wpAny_bind (m := retStr (two 28)) (wpAny_bind (wpAny_mkStr (wpAny_pure (wpAny_pure ?_)) (by decide +kernel)))
    dsimp only
    exact wpAny_bind (wpAny_isInstance (typeIs_str _ _ _) isSubtype_str_str (wpAny_pure q))
  · refine wpAny_bind (m := retStr (two 29)) (wpAny_bind (wpAny_mkStr (wpAny_pure (wpAny_pure ?_)) (by decide +kernel)))
    dsimp only
    exact wpAny_bind (wpAny_isInstance (typeIs_str _ _ _) isSubtype_str_str (wpAny_pure q))
  · refine wpAny_bind (m := retStr (two 30)) (wpAny_bind (wpAny_mkStr (wpAny_pure (wpAny_pure ?_)) (by decide +kernel)))
    dsimp only
    exact wpAny_bind (wpAny_isInstance (typeIs_str _ _ _) isSubtype_str_str (wpAny_pure q))
  · refine wpAny_bind (m := retStr (two 31)) (wpAny_bind (wpAny_mkStr (wpAny_pure (wpAny_pure ?_)) (by decide +kernel)))
    dsimp only
    exact wpAny_bind (wpAny_isInstance (typeIs_str _ _ _) isSubtype_str_str (wpAny_pure q))
  · refine wpAny_bind (m := retStr (two 32)) (wpAny_bind (wpAny_mkStr (wpAny_pure (wpAny_pure ?_)) (by decide +kernel)))
    dsimp only
    exact wpAny_bind (wpAny_isInstance (typeIs_str _ _ _) isSubtype_str_str (wpAny_pure q))
  · refine wpAny_bind (m := retStr (two 33)) (wpAny_bind (wpAny_mkStr (wpAny_pure (wpAny_pure ?_)) (by decide +kernel)))
    dsimp only
    exact wpAny_bind (wpAny_isInstance (typeIs_str _ _ _) isSubtype_str_str (wpAny_pure q))
  · refine wpAny_bind (m := retStr (two 34)) (wpAny_bind (wpAny_mkStr (wpAny_pure (wpAny_pure ?_)) (by decide +kernel)))
    dsimp only
    exact wpAny_bind (wpAny_isInstance (typeIs_str _ _ _) isSubtype_str_str (wpAny_pure q))
  · refine wpAny_bind (m := retStr (two 35)) (wpAny_bind (wpAny_mkStr (wpAny_pure (wpAny_pure ?_)) (by decide +kernel)))
    dsimp only
    exact wpAny_bind (wpAny_isInstance (typeIs_str _ _ _) isSubtype_str_str (wpAny_pure q))
  · refine wpAny_bind (m := retStr (two 36)) (wpAny_bind (wpAny_mkStr (wpAny_pure (wpAny_pure ?_)) (by decide +kernel)))
    dsimp only
    exact wpAny_bind (wpAny_isInstance (typeIs_str _ _ _) isSubtype_str_str (wpAny_pure q))
  · refine wpAny_bind (m := retStr (two 37)) (wpAny_bind (wpAny_mkStr (wpAny_pure (wpAny_pure ?_)) (by decide +kernel)))
    dsimp only
    exact wpAny_bind (wpAny_isInstance (typeIs_str _ _ _) isSubtype_str_str (wpAny_pure q))
  · refine wpAny_bind (m := retStr (two 38)) (wpAny_bind (wpAny_mkStr (wpAny_pure (wpAny_pure ?_)) (by decide +kernel)))
    dsimp only
    exact wpAny_bind (wpAny_isInstance (typeIs_str _ _ _) isSubtype_str_str (wpAny_pure q))
  · refine wpAny_bind (m := retStr (two 39)) (wpAny_bind (wpAny_mkStr (wpAny_pure (wpAny_pure ?_)) (by decide +kernel)))
    dsimp only
    exact wpAny_bind (wpAny_isInstance (typeIs_str _ _ _) isSubtype_str_str (wpAny_pure q))
  · refine wpAny_bind (m := retStr (two 40)) (wpAny_bind (wpAny_mkStr (wpAny_pure (wpAny_pure ?_)) (by decide +kernel)))
    dsimp only
    exact wpAny_bind (wpAny_isInstance (typeIs_str _ _ _) isSubtype_str_str (wpAny_pure q))
  · refine wpAny_bind (m := retStr (two 41)) (wpAny_bind (wpAny_mkStr (wpAny_pure (wpAny_pure ?_)) (by decide +kernel)))
    dsimp only
    exact wpAny_bind (wpAny_isInstance (typeIs_str _ _ _) isSubtype_str_str (wpAny_pure q))
  · refine wpAny_bind (m := retStr (two 42)) (wpAny_bind (wpAny_mkStr (wpAny_pure (wpAny_pure ?_)) (by decide +kernel)))
    dsimp only
    exact wpAny_bind (wpAny_isInstance (typeIs_str _ _ _) isSubtype_str_str (wpAny_pure q))
  · refine wpAny_bind (m := retStr (two 43)) (wpAny_bind (wpAny_mkStr (wpAny_pure (wpAny_pure ?_)) (by decide +kernel)))
    dsimp only
    exact wpAny_bind (wpAny_isInstance (typeIs_str _ _ _) isSubtype_str_str (wpAny_pure q))
  · refine wpAny_bind (m := retStr (two 44)) (wpAny_bind (wpAny_mkStr (wpAny_pure (wpAny_pure ?_)) (by decide +kernel)))
    dsimp only
    exact wpAny_bind (wpAny_isInstance (typeIs_str _ _ _) isSubtype_str_str (wpAny_pure q))
  · refine wpAny_bind (m := retStr (two 45)) (wpAny_bind (wpAny_mkStr (wpAny_pure (wpAny_pure ?_)) (by decide +kernel)))
    dsimp only
    exact wpAny_bind (wpAny_isInstance (typeIs_str _ _ _) isSubtype_str_str (wpAny_pure q))
  · refine wpAny_bind (m := retStr (two 46)) (wpAny_bind (wpAny_mkStr (wpAny_pure (wpAny_pure ?_)) (by decide +kernel)))
    dsimp only
    exact wpAny_bind (wpAny_isInstance (typeIs_str _ _ _) isSubtype_str_str (wpAny_pure q))
  · refine wpAny_bind (m := retStr (two 47)) (wpAny_bind (wpAny_mkStr (wpAny_pure (wpAny_pure ?_)) (by decide +kernel)))
    dsimp only
    exact wpAny_bind (wpAny_isInstance (typeIs_str _ _ _) isSubtype_str_str (wpAny_pure q))
  · refine wpAny_bind (m := retStr (two 48)) (wpAny_bind (wpAny_mkStr (wpAny_pure (wpAny_pure ?_)) (by decide +kernel)))
    dsimp only
    exact wpAny_bind (wpAny_isInstance (typeIs_str _ _ _) isSubtype_str_str (wpAny_pure q))
  · refine wpAny_bind (m := retStr (two 49)) (wpAny_bind (wpAny_mkStr (wpAny_pure (wpAny_pure ?_)) (by decide +kernel)))
    dsimp only
    exact wpAny_bind (wpAny_isInstance (typeIs_str _ _ _) isSubtype_str_str (wpAny_pure q))
  · refine wpAny_bind (m := retStr (two 50)) (wpAny_bind (wpAny_mkStr (wpAny_pure (wpAny_pure ?_)) (by decide +kernel)))
    dsimp only
    exact wpAny_bind (wpAny_isInstance (typeIs_str _ _ _) isSubtype_str_str (wpAny_pure q))
  · refine wpAny_bind (m := retStr (two 51)) (wpAny_bind (wpAny_mkStr (wpAny_pure (wpAny_pure ?_)) (by decide +kernel)))
    dsimp only
    exact wpAny_bind (wpAny_isInstance (typeIs_str _ _ _) isSubtype_str_str (wpAny_pure q))
  · refine wpAny_bind (m := retStr (two 52)) (wpAny_bind (wpAny_mkStr (wpAny_pure (wpAny_pure ?_)) (by decide +kernel)))
    dsimp only
    exact wpAny_bind (wpAny_isInstance (typeIs_str _ _ _) isSubtype_str_str (wpAny_pure q))
  · refine wpAny_bind (m := retStr (two 53)) (wpAny_bind (wpAny_mkStr (wpAny_pure (wpAny_pure ?_)) (by decide +kernel)))
    dsimp only
    exact wpAny_bind (wpAny_isInstance (typeIs_str _ _ _) isSubtype_str_str (wpAny_pure q))
  · refine wpAny_bind (m := retStr (two 54)) (wpAny_bind (wpAny_mkStr (wpAny_pure (wpAny_pure ?_)) (by decide +kernel)))
    dsimp only
    exact wpAny_bind (wpAny_isInstance (typeIs_str _ _ _) isSubtype_str_str (wpAny_pure q))
  · refine wpAny_bind (m := retStr (two 55)) (wpAny_bind (wpAny_mkStr (wpAny_pure (wpAny_pure ?_)) (by decide +kernel)))
    dsimp only
    exact wpAny_bind (wpAny_isInstance (typeIs_str _ _ _) isSubtype_str_str (wpAny_pure q))
  · refine wpAny_bind (m := retStr (two 56)) (wpAny_bind (wpAny_mkStr (wpAny_pure (wpAny_pure ?_)) (by decide +kernel)))
    dsimp only
    exact wpAny_bind (wpAny_isInstance (typeIs_str _ _ _) isSubtype_str_str (wpAny_pure q))
  · refine wpAny_bind (m := retStr (two 57)) (wpAny_bind (wpAny_mkStr (wpAny_pure (wpAny_pure ?_)) (by decide +kernel)))
    dsimp only
    exact wpAny_bind (wpAny_isInstance (typeIs_str _ _ _) isSubtype_str_str (wpAny_pure q))
  · refine wpAny_bind (m := retStr (two 58)) (wpAny_bind (wpAny_mkStr (wpAny_pure (wpAny_pure ?_)) (by decide +kernel)))
    dsimp only
    exact wpAny_bind (wpAny_isInstance (typeIs_str _ _ _) isSubtype_str_str (wpAny_pure q))
  · refine wpAny_bind (m := retStr (two 59)) (wpAny_bind (wpAny_mkStr (wpAny_pure (wpAny_pure ?_)) (by decide +kernel)))
    dsimp only
    exact wpAny_bind (wpAny_isInstance (typeIs_str _ _ _) isSubtype_str_str (wpAny_pure q))
end
section
variable {X : Cx} {M : List Addr} {σ : L2.St} {H : Hp} {e : Expr} {pos p1 p2 : Pos} {j : Nat}
def tFmt2 (te : TE) : TE := fun σ H Q => te σ H fun x H1 => ∃ i : Int, x = .int i ∧ 0 ≤ i ∧ i < 60 ∧ Q (.str (two i)) H1
theorem pe_fmt2 {te : TE} (he : PE X e te) : PE X (.FormattedValue e (-1) (some (.JoinedStr [.Constant (.str s02) j p1] p2)) pos) (tFmt2 te) := by
  refine ⟨fun pins s σ H Q I h => ?_⟩
  refine wpAny_FormattedValue_spec (thn (he.run pins s σ H _ I h) fun v s1 hv => ?_)
  obtain ⟨x, H1, I1, r1, i, rfl, h0, h1, q⟩ := hv
  obtain ⟨t, rfl⟩ := r1
  refine wpAny_mono ((pe_joined1 (X := X) pe_str).run pins s1 σ H1 (fun v H2 => v = .str s02 ∧ H2 = H1) I1 ⟨rfl, rfl⟩) (fun u s2 hu => ?_) fun _ _ z => z
  obtain ⟨y, H2, I2, r2, rfl, rfl⟩ := hu
  obtain ⟨t2, rfl⟩ := r2
  exact ⟨s02, t2, rfl, field_02 h0 h1 ⟨.str (two i), H2, I2.tok _, ⟨_, rfl⟩, q⟩⟩
end
end Dl

set_option Elab.async false
set_option linter.all false
set_option maxRecDepth 100000
set_option maxHeartbeats 8000000
/-! set(list of texts), sorted of it -/
namespace Dl
open PySem PySem.Spec PyProof.Rows L2
def nameE (e : Int × Value) : Str := match e.2 with
  | .str x _ => x
  | _ => Str.empty
def OkE (wd : World) (e : Int × Value) : Prop := ∃ x u, e.2 = Value.str x u ∧ e.1 = hashStr wd x
/-- the set of texts at a, its members those of L -/
def TxS (wd : World) (hp : Heap) (a : Addr) (L : List Str) : Prop := ∃ ob rows ep tb, hp.get? a = some ob ∧ ob.ExactSet ∧ ob.data = .set rows ep tb ∧ (∀ e ∈ rows.toList, OkE wd e) ∧ (rows.toList.map nameE).Nodup ∧ (∀ x, x ∈ L ↔ x ∈ rows.toList.map nameE) ∧
  rows.size < scanBound ∧ tb.fits rows.size = true ∧ Ris tb.place.toList ∧ (wd.params.followText "set-order" = true ∨ tb.led = true)
section
variable {P : Program} {wd : World} {hp hq : Heap} {a : Addr} {L : List Str}
theorem TxS.at (R : TxS wd hp a L) (k : ∀ o, hp.get? a = some o → hq.get? a = some o) : TxS wd hq a L := by
  obtain ⟨ob, rows, ep, tb, ho, more⟩ := R
  exact ⟨ob, rows, ep, tb, k _ ho, more⟩
theorem okE_is {e : Int × Value} (g : OkE wd e) (x : Str) : (PySem.strKind P wd).is x e.2 = true ↔ nameE e = x := by
  obtain ⟨y, u, e1, _⟩ := g
  unfold nameE
  rw [e1]
  show Value.isStrOf x (.str y u) = true ↔ y = x
  constructor
  · intro h
    obtain ⟨t, ht⟩ := Value.isStrOf_shape h
    cases ht
    rfl
  · intro h
    subst h
    simp [Value.isStrOf]
theorem okE_elems {l : List (Int × Value)} (g : ∀ e ∈ l, OkE wd e) : ElemsOf (PySem.strKind P wd) l := fun e he => by
  obtain ⟨y, u, e1, e2⟩ := g e he
  refine ⟨⟨y, ?_, e2⟩, by rw [e1]; rfl⟩
  rw [e1]
  show Value.isStrOf y (.str y u) = true
  simp [Value.isStrOf]
theorem okE_mem {l : List (Int × Value)} (g : ∀ e ∈ l, OkE wd e) (x : Str) : x ∈ l.map nameE ↔ ∃ e ∈ l, (PySem.strKind P wd).is x e.2 = true := by
  constructor
  · intro hm
    obtain ⟨e, he, q⟩ := List.mem_map.mp hm
    exact ⟨e, he, (okE_is (P := P) (g e he) x).mpr q⟩
  · rintro ⟨e, he, q⟩
    exact List.mem_map.mpr ⟨e, he, (okE_is (P := P) (g e he) x).mp q⟩
end
section
variable {P : Program} {wd : World} {Ar : Around} {Er : Value → Shared → Prop} {z : Shared} {a : Addr} {L : List Str}
/-- the set laid with new rows, the table made wider where it is full -/
theorem txS_tail {note : Bool → Sem Unit} (quiet : ∀ (b : Bool) (y : Shared) (Qn : Unit → Shared → Prop), Qn () y → wpAny (model P wd) Ar (note b) Qn Er y) {ob : Obj} {old rows : Array (Int × Value)} {ep : Nat} {tb tb2 : SetTable} {ML : List Str} {full : Bool} {Rn : Option Bool → Shared → Prop}
    (there : z.heap.get? a = some ob) (exact_ : ob.ExactSet) (dat : ob.data = .set old ep tb) (good : ∀ e ∈ rows.toList, OkE wd e) (once : (rows.toList.map nameE).Nodup) (mem : ∀ x, x ∈ ML ↔ x ∈ rows.toList.map nameE) (few : rows.size < scanBound) (fit : tb2.fits rows.size = true)
    (ris : Ris tb2.place.toList) (led : wd.params.followText "set-order" = true ∨ tb2.led = true) (fin : ∀ hn, Heap.SameBut a z.heap hn → TxS wd hn a ML → Rn (some true) { z with heap := hn }) :
    wpAny (model P wd) Ar (do
      storeSet a rows tb2
      if (!full && tb2.tooFull) = true then do
        note (relayAll tb2 rows (SetTable.grown rows.size)).2.2
        storeSet a (relayAll tb2 rows (SetTable.grown rows.size)).1 (relayAll tb2 rows (SetTable.grown rows.size)).2.1
        pure (some true)
      else pure (some true)) Rn Er z := by
  have laid := store_at (es' := rows) (t' := tb2) there dat
  have but1 := Heap.SameBut.update z.heap a (Obj.putSet rows tb2)
  refine wpAny_bind (wpAny_storeSet_of there dat ?_ (fits_of_scanBound few))
  split
  · have pm := relayAll_perm tb2 rows (SetTable.grown rows.size)
    have fit3 := relayAll_fits tb2 rows (SetTable.grown rows.size)
    have ris3 := relayAll_ris tb2 rows (SetTable.grown rows.size)
    have led3 := relayAll_led tb2 rows (SetTable.grown rows.size)
    generalize relayAll tb2 rows (SetTable.grown rows.size) = G at pm fit3 ris3 led3 ⊢
    obtain ⟨rows2, tb3, gave⟩ := G
    dsimp only at pm fit3 ris3 led3 ⊢
    have size2 : rows2.size = rows.size := by rw [← Array.length_toList, pm.length_eq, Array.length_toList]
    have few2 : rows2.size < scanBound := by rw [size2]; exact few
    refine wpAny_bind (quiet _ _ _ ?_)
    refine wpAny_bind (wpAny_storeSet_of laid rfl ?_ (fits_of_scanBound few2))
    have laid2 := store_at (es' := rows2) (t' := tb3) laid rfl
    have pn := pm.map nameE
    exact wpAny_pure (fin _ (but1.trans (Heap.SameBut.update _ a _)) ⟨_, rows2, _, tb3, laid2, exact_, rfl, fun e he => good e (pm.mem_iff.mp he), pn.nodup_iff.mpr once, fun x => (mem x).trans pn.mem_iff.symm, few2, fit3, ris3, led.imp id fun q => by rw [led3]; exact q⟩)
  · exact wpAny_pure (fin _ but1 ⟨_, rows, _, tb2, laid, exact_, rfl, good, once, mem, few, fit, ris, led⟩)
theorem txS_hashed {x : Str} {u : Tok} {Q : Bool → Shared → Prop} (R : TxS wd z.heap a L) (room : L.length + 1 < scanBound) (fin : ∀ hn b, Heap.SameBut a z.heap hn → TxS wd hn a (x :: L) → Q b { z with heap := hn }) :
    wpAny (model P wd) Ar (setAddHashed a (.str x u) ((PySem.strKind P wd).hash x)) Q Er z := by
  obtain ⟨ob, rows, ep, tb, ho, hex, hd, good, once, mem, few, fit, ris, led⟩ := R
  have isx : (PySem.strKind P wd).is x (.str x u) = true := by show Value.isStrOf x (.str x u) = true; simp [Value.isStrOf]
  have scan : (Value.str x u).scannable = true := rfl
  have elems : ElemsOf (PySem.strKind P wd) rows.toList := okE_elems good
  have size_le : rows.size ≤ L.length := by
    have := Dl.nodup_le once fun y hy => (mem y).mpr hy
    rw [List.length_map, Array.length_toList] at this
    exact this
  unfold setAddHashed setAddHashedIn
  refine wpAny_holding (wpAny_bind (wpAny_setState_of ho hd fit ?_))
  dsimp only
  rw [byScan_of scan few elems]
  simp only [↓reduceIte]
  unfold setAddByScan
  refine wpAny_bind ?_
  refine wpAny_bind (wpAny_rule ?_)
  refine wpAny_bind (wpAny_setScan_of isx ho hd fit elems ?_)
  cases seek : List.findIdx? (fun e => (PySem.strKind P wd).is x e.2) rows.toList with
  | some j =>
    dsimp only
    obtain ⟨jl, js, _⟩ := List.findIdx?_eq_some_iff_getElem.mp seek
    have inn : x ∈ L := (mem x).mpr ((okE_mem (P := P) good x).mpr ⟨rows.toList[j], List.getElem_mem jl, js⟩)
    refine wpAny_pure (wpAny_pure ?_)
    exact fin z.heap _ (Heap.SameBut.refl a z.heap) ⟨ob, rows, ep, tb, ho, hex, hd, good, once, fun y => by
      rw [List.mem_cons, ← mem y]
      exact ⟨fun q => q.elim (fun e => by rw [e]; exact inn) id, .inr⟩, few, fit, ris, led⟩
  | none =>
    dsimp only
    have out : x ∉ rows.toList.map nameE := fun q => by
      obtain ⟨e, he, q⟩ := (okE_mem (P := P) good x).mp q
      have := List.findIdx?_eq_none_iff.mp seek e he
      rw [q] at this
      cases this
    have calmN : ∀ (b : Bool) {y : Shared} {Qn : Unit → Shared → Prop}, Qn () y → wpAny (model P wd) Ar (match b with | true => rule "set.scan.the-table-gave-way" | false => pure ()) Qn Er y :=
      fun b y Qn q => by cases b <;> first | exact wpAny_pure q | exact wpAny_rule q
    have pm := layNew_perm tb rows ((PySem.strKind P wd).hash x) (.str x u)
    have fit1 := layNew_fits tb rows ((PySem.strKind P wd).hash x) (.str x u)
    have ris1 := layNew_ris tb rows ((PySem.strKind P wd).hash x) (.str x u) ris
    have led1 := layNew_led tb rows ((PySem.strKind P wd).hash x) (.str x u)
    generalize layNew tb rows ((PySem.strKind P wd).hash x) (.str x u) = G at pm fit1 ris1 led1 ⊢
    obtain ⟨rows1, tb1, full, gave⟩ := G
    dsimp only at pm fit1 ris1 led1 ⊢
    rw [Array.toList_push] at pm
    have perm1 : rows1.toList.Perm (((PySem.strKind P wd).hash x, Value.str x u) :: rows.toList) := pm.trans (List.perm_append_singleton _ _)
    have permN : (rows1.toList.map nameE).Perm (x :: rows.toList.map nameE) := perm1.map nameE
    have good1 : ∀ e ∈ rows1.toList, OkE wd e := fun e he => by
      rcases List.mem_cons.mp (perm1.mem_iff.mp he) with q | q
      · rw [q]; exact ⟨x, u, rfl, rfl⟩
      · exact good e q
    have once1 : (rows1.toList.map nameE).Nodup := permN.nodup_iff.mpr (List.nodup_cons.mpr ⟨out, once⟩)
    have mem1 : ∀ y, y ∈ x :: L ↔ y ∈ rows1.toList.map nameE := fun y => by
      rw [permN.mem_iff, List.mem_cons, List.mem_cons, mem y]
    have size1 : rows1.size = rows.size + 1 := by rw [← Array.length_toList, perm1.length_eq, List.length_cons, Array.length_toList]
    have few1 : rows1.size < scanBound := by omega
    have led1' : wd.params.followText "set-order" = true ∨ tb1.led = true := led.imp id fun q => by rw [led1]; exact q
    refine wpAny_bind (calmN _ ?_)
    split
    · refine wpAny_bind ?_
      rw [hashByValue_scannable 8 scan]
      refine wpAny_pure ?_
      refine txS_tail ?_ ho hex hd good1 once1 mem1 few1 ?_ ?_ ?_ ?_
      · intro b y Qn q; cases b <;> first | exact wpAny_pure q | exact wpAny_rule q
      · first | (split <;> first | exact fit1 | exact SetTable.fits_plain_off fit1) | exact fit1
      · first | (split <;> exact ris1) | exact ris1
      · first | (split <;> exact led1') | exact led1'
      · intro hn sb r; dsimp only; exact wpAny_pure (fin hn _ sb r)
    · refine wpAny_bind (wpAny_pure ?_)
      simp only [↓reduceIte]
      refine txS_tail ?_ ho hex hd good1 once1 mem1 few1 fit1 ris1 led1' ?_
      · intro b y Qn q; cases b <;> first | exact wpAny_pure q | exact wpAny_rule q
      · intro hn sb r; dsimp only; exact wpAny_pure (fin hn _ sb r)
/-- the members put in one by one -/
theorem txS_fill {It : Addr} {fp wr : List Addr} {Gs : Array GenState → Array GenState → Prop} {m : Nat} {Pv : Nat → Value → Prop} {St : Nat → Shared → Prop} {Rn : Result → Shared → Prop} (Wk : WalksS P wd Ar.in1 It fp wr Gs m Pv St) (D : Addr) (apart : D ∉ fp) (xs : List Str) (hm : m = xs.length) (room : xs.length + 1 < scanBound)
    (is : ∀ i v, Pv i v → ∃ x u, xs[i]? = some x ∧ v = .str x u) : ∀ (k i : Nat) (y : Shared), m - i = k → i ≤ m → St i y → (∃ L, L.length = i ∧ (∀ x, x ∈ L ↔ x ∈ xs.take i) ∧ TxS wd y.heap D L) →
      (∀ y2 L, Moved (D :: wr) Gs y y2 → (∀ x, x ∈ L ↔ x ∈ xs) → TxS wd y2.heap D L → Rn (.ok (.ret .none)) y2) → codeAny (model P wd) Ar (.builtin "set.update.loop" ⟨[.ref D, .ref It], []⟩) Rn y := by
  have apartW : D ∉ wr := fun q => apart (Wk.sub _ q)
  have within : ∀ b ∈ wr, b ∈ D :: wr := fun b q => List.mem_cons_of_mem _ q
  intro k
  induction k with
  | zero =>
    intro i y hk hi st ⟨L, hL, mL, T⟩ fin
    obtain rfl : i = m := by omega
    refine codeAny_builtin F.entry_set_update_loop ?_
    rw [Around.under_plainId F.plain_set_update_loop _]
    show wpAny _ Ar.in1 (pyNext (.ref It) >>= _) _ _ y
    refine wpAny_bind (Wk.done y _ _ st fun y2 mv => ?_)
    show wpAny _ Ar.in1 (ret Value.none) _ _ y2
    refine wpAny_pure (fin y2 L (mv.mono within) (fun x => (mL x).trans (by rw [List.take_of_length_le (by omega)])) (T.at fun o e => mv.heap D o apartW e))
  | succ k ih =>
    intro i y hk hi st ⟨L, hL, mL, T⟩ fin
    have lt : i < m := by omega
    refine codeAny_builtin F.entry_set_update_loop ?_
    rw [Around.under_plainId F.plain_set_update_loop _]
    show wpAny _ Ar.in1 (pyNext (.ref It) >>= _) _ _ y
    refine wpAny_bind (Wk.item i y _ _ lt st fun v y2 hP st2 mv => ?_)
    obtain ⟨x, u, hx, rfl⟩ := is i v hP
    have T2 : TxS wd y2.heap D L := T.at fun o e => mv.heap D o apartW e
    show wpAny _ Ar.in1 (holding [Value.str x u] (setAdd D (.str x u)) >>= _) _ _ y2
    refine wpAny_bind (wpAny_holding ?_)
    unfold setAdd
    refine wpAny_holding ?_
    refine wpAny_bind ((PySem.strKind P wd).pyHash (k := x) (by show Value.isStrOf x (.str x u) = true; simp [Value.isStrOf]) ?_)
    refine txS_hashed (z := { y2 with toks := y2.toks + 1 }) T2 (by omega) fun hn b sb T3 => ?_
    refine wpAny_pure ⟨plainId_quiet F.plain_set_update_loop _, ih (i + 1) _ (by omega) lt (Wk.frame _ y2 _ _ st2 (Nat.le_succ _) fun c hc o e => ?_) ⟨x :: L, by rw [List.length_cons, hL], fun q => ?_, T3⟩ fun y3 L3 mv3 m3 T4 => ?_⟩
    · rw [sb.2 c (fun q : c = D => apart (by rw [← q]; exact hc))]; exact e
    · rw [List.mem_cons, mL q, List.take_add_one, hx, List.mem_append]
      simp only [Option.toList_some, List.mem_singleton]
      exact Or.comm
    · refine fin y3 L3 (Moved.trans Wk.gtrans ((mv.mono within).then_heap (Nat.le_succ _) fun c o hc e => ?_) mv3) m3 T4
      rw [sb.2 c (fun q : c = D => hc (by rw [q]; exact List.mem_cons_self))]; exact e
theorem txS_new {hp : Heap} {a : Addr} (there : hp.get? a = some (bareSet wd)) : TxS wd hp a [] :=
  ⟨_, #[], 0, _, there, ⟨rfl, rfl, rfl⟩, rfl, fun e he => by simp at he, by simp, fun x => by simp, by decide, by rfl, List.Pairwise.nil, by
    show _ ∨ (!wd.params.followText "set-order") = true
    cases wd.params.followText "set-order"
    · exact .inr rfl
    · exact .inl rfl⟩
theorem set_of_txts {l : Addr} {vs : Array Value} (xs : List Str) {Q : Value → Shared → Prop} (calm : Ar.handled = none) (isL : z.heap.IsList l vs) (are : StrsAre vs.toList xs) (room : xs.length + 1 < scanBound)
    (fin : ∀ (hn : Heap) (tk : Nat) (L : List Str), (∀ x, x ∈ L ↔ x ∈ xs) → TxS wd hn z.heap.objs.size L → (∀ b o, z.heap.get? b = some o → hn.get? b = some o) → Q (.ref z.heap.objs.size) { z with heap := hn, toks := tk }) :
    wpAny (model P wd) Ar (call (.type "set") [.ref l]) Q Er z := by
  have size_vs : vs.size = xs.length := (Array.length_toList (xs := vs)).symm.trans are.length
  obtain ⟨c0, tl0, mro0⟩ := F.called_set.mro
  have made0 := F.called_set.made
  have sub0 := F.called_set.sub
  refine wpAny_call (codeAny_of_tree ?_)
  show wpAny _ _ (callAny (.type "set") _) _ _ _
  refine wpAny_pure ⟨Code.quiet_builtin _ (by decide +kernel), codeAny_builtin F.entry_type_call ?_⟩
  rw [Around.under_plain (weight_type_call_type "set" [.ref l] []) rfl]
  have not_ty := F.called_set.notType
  have can := F.called_set.canCreate
  have tc := F.typeCall_set_1 (.ref l)
  repeat (any_goals (first | assumption | wp_step))
  refine codeAny_mono (code_set_led1 (.ref l) (E := Er) (Q₁ := fun y z1 => y = .ref z.heap.objs.size ∧ z1 = { z with heap := z.heap.push (bareSet wd) }) ⟨rfl, rfl⟩) fun r z1 hr => ?_
  match r, hr with
  | .error e, hr => exact hr
  | .ok .next, hr => exact hr.elim
  | .ok .brk, hr => exact hr.elim
  | .ok .cont, hr => exact hr.elim
  | .ok (.ret y), hr =>
    obtain ⟨rfl, rfl⟩ := hr
    have at_new : (z.heap.push (bareSet wd)).get? z.heap.objs.size = some (bareSet wd) := Heap.get?_push_size _ rfl
    have ty_new : Shared.TypeIs { z with heap := z.heap.push (bareSet wd) } (.ref z.heap.objs.size) "set" := ⟨_, at_new, rfl⟩
    have look := F.called_set.init.lookup
    have bindS := F.called_set.init.bind (.ref z.heap.objs.size)
    repeat (any_goals (first | assumption | wp_step))
    refine codeAny_mono (codeAny_call_builtin (R := wants (fun r2 z2 => r2 = .none ∧ ∃ hn tk L, z2 = { z with heap := hn, toks := tk } ∧ (∀ x, x ∈ L ↔ x ∈ xs) ∧ TxS wd hn z.heap.objs.size L ∧ (∀ b o, z.heap.get? b = some o → hn.get? b = some o)) Er)
      F.called_set.init.plain F.entry_set_init (check_set_init_1 ty_new ?_)) fun r2 z2 hr2 => ?_
    · obtain ⟨⟨oc, od, odt, osl⟩, get_l, cls_l, nl, dat_l⟩ := isL
      simp only at cls_l dat_l
      subst cls_l
      subst dat_l
      have get_l2 : (z.heap.push (bareSet wd)).get? l = some { cls := .type "list", dict := od, data := .seq vs nl, slots := osl } := Heap.get?_push_of_some _ get_l
      have no1 := F.sub_list_set
      have no2 := F.sub_list_frozenset
      have no3 : (Value.type "list" == Value.type "dict") = false := by decide
      have list_l : (z.heap.push (bareSet wd)).IsList l vs := ⟨_, get_l2, rfl, nl, rfl⟩
      unfold Builtin.«set.__init__» noKeywords Builtin.Frozenset.updateFrom
      generalize walker : pyIter = walk
      wp_walk
      subst walker
      refine wpAny_pyIter_list list_l ?_
      refine wpAny_bind (wpAny_runValue ?_)
      have l_lt : l < z.heap.objs.size := Heap.lt_size get_l
      have size1 : (z.heap.push (bareSet wd)).objs.size = z.heap.objs.size + 1 := Heap.size_push ..
      have calm3 : Ar.in1.in1.in1.handled = none := by simp [calm]
      have lt1 : l < z.heap.objs.size + 1 := Nat.lt_succ_of_lt l_lt
      have ne_new : l ≠ (z.heap.push (bareSet wd)).objs.size := fun q => by
        rw [size1] at q
        exact Nat.ne_of_lt lt1 q
      have out_new : z.heap.objs.size ∉ [(z.heap.push (bareSet wd)).objs.size, l] := fun q => by
        rw [size1] at q
        rcases List.mem_cons.mp q with q | q
        · exact Nat.ne_of_lt (Nat.lt_succ_self _) q
        · exact Nat.ne_of_lt l_lt (List.mem_singleton.mp q).symm
      refine txS_fill ((Walks.list calm3 _ l ne_new vs).toS) z.heap.objs.size out_new xs size_vs room (fun i v hv => ?_) (vs.size - 0) 0 _ (by omega) (Nat.zero_le _)
        ⟨⟨_, Heap.get?_push_size _ rfl, rfl, rfl⟩, (list_l.push _)⟩ ⟨[], rfl, fun x => by simp, txS_new (Heap.get?_push_of_some _ at_new)⟩ fun z3 L3 moved m3 new3 => ?_
      · have hv' : vs.toList[i]? = some v := by rw [Array.getElem?_toList]; exact hv
        have hall := are.all v (List.mem_of_getElem? hv')
        obtain ⟨x, u, rfl⟩ := hall
        refine ⟨x, u, ?_, rfl⟩
        have e := are.strs
        have e2 : (vs.toList.map strOf)[i]? = some x := by rw [List.getElem?_map, hv']; rfl
        rw [e] at e2
        exact e2
      · obtain ⟨hz, gz, dz, tz, oz⟩ := z3
        have g1 : gz = z.gens := moved.gens
        have g2 : dz = z.drawn := moved.drawn
        have g3 : oz = z.os := moved.os
        subst g1
        subst g2
        subst g3
        show wpAny _ _ _ _ _ _
        refine wpAny_pure ?_
        show wpAny _ _ (ret Value.none) _ _ _
        refine wpAny_pure ⟨rfl, hz, tz, L3, rfl, m3, new3, fun b o e => ?_⟩
        have b_lt : b < z.heap.objs.size := Heap.lt_size e
        have free_b : b ∉ [z.heap.objs.size, (z.heap.push (bareSet wd)).objs.size] := fun q => by
          rw [size1] at q
          rcases List.mem_cons.mp q with q | q
          · exact Nat.ne_of_lt b_lt q
          · exact Nat.ne_of_lt (Nat.lt_succ_of_lt b_lt) (List.mem_singleton.mp q)
        exact moved.heap b o free_b (Heap.get?_push_of_some _ (Heap.get?_push_of_some _ e))
    · match r2, hr2 with
      | .error e, hr2 => exact hr2
      | .ok .next, hr2 => exact hr2.elim
      | .ok .brk, hr2 => exact hr2.elim
      | .ok .cont, hr2 => exact hr2.elim
      | .ok (.ret y2), hr2 =>
        obtain ⟨rfl, hn, tk, L3, rfl, m3, isSet, kept⟩ := hr2
        repeat (any_goals (first | assumption | wp_step))
        exact fin _ _ _ m3 isSet kept
end
end Dl

set_option Elab.async false
set_option linter.all false
set_option maxRecDepth 100000
set_option maxHeartbeats 8000000
/-! sorted(set of texts) -/
namespace Dl
open PySem PySem.Spec PyProof.Rows L2
theorem strs_are : ∀ (l : List Value), (∀ v ∈ l, ∃ x u, v = Value.str x u) → ∃ xs, StrsAre l xs ∧ xs = l.map strOf
  | [], _ => ⟨[], .nil, rfl⟩
  | v :: l, h => by
    obtain ⟨x, u, rfl⟩ := h v List.mem_cons_self
    obtain ⟨xs, h1, h2⟩ := strs_are l fun w hw => h w (List.mem_cons_of_mem _ hw)
    exact ⟨x :: xs, .cons x u h1, by rw [h2]; rfl⟩
section
variable {P : Program} {wd : World} {Ar : Around} {Er : Value → Shared → Prop} {z : Shared} {a : Addr} {L : List Str}
theorem sorted_txs {Q : Value → Shared → Prop} (R : TxS wd z.heap a L) (calm : Ar.handled = none) (few64 : L.length < 64)
    (fin : ∀ y p (out : Array Value) (c : Nat) (ys : List Str), (∀ b o, z.heap.get? b = some o → y.heap.get? b = some o) → y.gens = z.gens → y.os = z.os → z.heap.objs.size ≤ p → y.heap.get? p = some (seqObj "list" out c) → StrsAre out.toList ys → sortedS ys = true → ys.Nodup → (∀ x, x ∈ ys ↔ x ∈ L) → Q (.ref p) y) :
    wpAny (model P wd) Ar (call (.builtin "sorted") [.ref a]) Q Er z := by
  obtain ⟨ob, rows, ep, tb, ho, hex, hd, good, once, mem, few, fit, ris, led⟩ := R
  have size_le : rows.size ≤ L.length := by
    have := Dl.nodup_le once fun y hy => (mem y).mpr hy
    rw [List.length_map, Array.length_toList] at this
    exact this
  refine Calls.call_function_entry kind_sorted plain_sorted entry_sorted (args_sorted1 _) ?_
  unfold Builtin.«sorted»
  refine wpAny_bind (m := checkCount "sorted" 1 1 _) (wpAny_pure ?_)
  refine wpAny_bind (collect_set (A := Ar.in1) calm ⟨ob, ho, hex.1, hd⟩ fit few ris led fun z1 vs kept grown gens1 os1 pm => ?_)
  have len_vs : vs.length = rows.size := by rw [pm.length_eq, List.length_map, Array.length_toList]
  obtain ⟨xs, are, exs⟩ := strs_are vs fun v hv => by
    obtain ⟨e, he, q⟩ := List.mem_map.mp (pm.mem_iff.mp hv)
    obtain ⟨x, u, h1, _⟩ := good e he
    exact ⟨x, u, by rw [← q]; exact h1⟩
  have px : xs.Perm (rows.toList.map nameE) := by
    rw [exs]
    have q := pm.map strOf
    rw [List.map_map] at q
    have e : rows.toList.map (strOf ∘ fun x => x.2) = rows.toList.map nameE := List.map_congr_left fun e he => by
      obtain ⟨x, u, h1, _⟩ := good e he
      show strOf e.2 = nameE e
      unfold nameE
      rw [h1]
      rfl
    rw [← e]
    exact q
  have sz : vs.length ≤ sizeLine := by rw [len_vs, sizeLine_eq]; omega
  refine wpAny_bind (wpAny_newList ?_ sz)
  have laid : (z1.heap.push (seqObj "list" vs.toArray 0)).get? z1.heap.objs.size = some (seqObj "list" vs.toArray 0) := Heap.get?_push_size _ rfl
  refine wpAny_bind (wpAny_holding (wpAny_call_entry slot_list_sort ⟨_, laid, rfl⟩ entry_list_sort (list_sort_treeKAny (κ := PyProof.Rows.strKind) strKind_oneLt laid are.keysOf (fun v1 v2 rest e => keyKind_strs (by rw [← e]; exact are)) sz fun st hp hs => ⟨_, rfl, ?_⟩) (args_list_sort _)))
  obtain ⟨ys, a1, a2, a3⟩ := sorted_out_str are hp hs
  obtain ⟨c, hc⟩ := sortedHeap_at (vs := vs) (out := (arrOf st).map (·.2)) laid
  have py : ys.Perm (rows.toList.map nameE) := a2.trans px
  refine wpAny_pure ⟨_, rfl, fin _ z1.heap.objs.size _ c ys (fun b u e => ?_) gens1 os1 grown hc a1 a3 (py.nodup_iff.mpr once) fun x => by rw [py.mem_iff, ← mem x]⟩
  have q := kept b u e
  have lt := Heap.lt_size q
  show (sortedHeap (z1.heap.push (seqObj "list" vs.toArray 0)) z1.heap.objs.size vs _).get? b = some u
  rw [sortedHeap_old (Nat.ne_of_lt lt) (by rw [size_push']; exact Nat.lt_succ_of_lt lt)]
  exact Heap.get?_push_of_some _ q
end
def SetTx (wd : World) (a : Addr) (L : List Str) : HO := .ext fun h => TxS wd h a L
theorem setTx_new {wd : World} {P : Program} {H : Hp} {h : Heap} {a : Addr} {L : List Str} (R : TxS wd h a L) : ObjOk P wd H h a (SetTx wd a L) := by
  have ⟨o, _, _, _, ho, _⟩ := R
  exact ⟨R, ⟨o, ho⟩, fun h1 h2 p k => TxS.at p k⟩
theorem perm_sorted : ∀ {xs ys : List Str}, xs.Perm ys → sortedS xs = true → sortedS ys = true → xs = ys := by
  have rise : ∀ (l : List Str) (p : Str), risingS p l = true → ∀ x ∈ l, ¬ x.cps.toList < p.cps.toList := by
    intro l
    induction l with
    | nil => intro p _ x hx; cases hx
    | cons y t ih =>
      intro p h x hx
      have h' : (!ltCps y.cps.toList p.cps.toList && risingS y t) = true := h
      rw [Bool.and_eq_true] at h'
      have h1 : ¬ y.cps.toList < p.cps.toList := by
        have := h'.1
        rw [ltCps_eq] at this
        simpa using this
      rcases List.mem_cons.mp hx with e | hx
      · rw [e]; exact h1
      · intro z
        have h2 := ih y h'.2 x hx
        have h3 : p.cps.toList ≤ y.cps.toList := List.not_lt.mp h1
        have h4 : y.cps.toList ≤ x.cps.toList := List.not_lt.mp h2
        exact List.not_lt.mpr (List.le_trans h3 h4) z
  have tail : ∀ (l : List Str) (p : Str), risingS p l = true → sortedS l = true := by
    intro l p h
    cases l with
    | nil => rfl
    | cons y t =>
      have h' : (!ltCps y.cps.toList p.cps.toList && risingS y t) = true := h
      rw [Bool.and_eq_true] at h'
      exact h'.2
  intro xs
  induction xs with
  | nil => intro ys p _ _; exact (List.Perm.eq_nil p.symm).symm
  | cons x xs ih =>
    intro ys p hx hy
    cases ys with
    | nil => exact absurd p.length_eq (by simp)
    | cons y ys =>
      have e : x = y := by
        have m1 : y ∈ x :: xs := p.mem_iff.mpr (List.mem_cons_self ..)
        have m2 : x ∈ y :: ys := p.mem_iff.mp (List.mem_cons_self ..)
        rcases List.mem_cons.mp m1 with e | m1
        · exact e.symm
        · rcases List.mem_cons.mp m2 with e | m2
          · exact e
          · have h1 := rise xs x hx y m1
            have h2 := rise ys y hy x m2
            have e : x.cps.toList = y.cps.toList := List.le_antisymm (List.not_lt.mp h1) (List.not_lt.mp h2)
            have e2 : x.cps = y.cps := Array.ext' e
            cases x; cases y
            cases e2
            rfl
      subst e
      rw [ih (List.Perm.cons_inv p) (tail xs x hx) (tail ys x hy)]
section
variable {X : Cx} {M : List Addr} {σ : L2.St} {H : Hp} {e : Expr} {p1 p2 pa pb : Pos}
theorem cr_sortedTx (hc : X.calm = true) : CallR X (.builtin "sorted") (fun vs H Q => ∃ (a : Addr) (L T : List Str), vs = [V.ref a] ∧ H a = some (SetTx X.w a L) ∧ (∀ x ∈ L, x ∈ T) ∧ L.length < 64 ∧
    ∀ (ys : List Str) (p : Addr), sortedS ys = true → ys.Nodup → (∀ x, x ∈ ys ↔ x ∈ L) → H p = none → Q (.ref p) (upd H p (.lst (ys.map V.str)))) := by
  intro pins s σ H vs us Q I r h
  obtain ⟨a, L, T, rfl, ha, hT, h64, q⟩ := h
  have R : TxS X.w s.heap a L := (I.hok a _ ha).1
  rw [Vals.ref1 r]
  refine sorted_txs R (I.ok.hd hc) h64 fun y p out c ys k g o hp hg hi hs hn hm => ?_
  have len : (ys.map V.str).length ≤ sizeLine := by
    have := Dl.nodup_le hn fun x hx => (hm x).mp hx
    rw [List.length_map, sizeLine_eq]; omega
  have np : H p = none := I.hok.fresh hp
  have J : Inv X pins σ (upd H p (.lst (ys.map V.str))) { s with heap := y.heap, gens := y.gens, drawn := y.drawn, toks := y.toks } :=
    I.call (ch := []) (Un.laid k hp np) (I.hok.laid k hp ⟨len, out.toList, c, vals_of_strs hi, hg⟩) (by rw [g]; exact I.bare) (fun _ z => nomatch z)
  have e : y = { s with heap := y.heap, gens := y.gens, drawn := y.drawn, toks := y.toks } := by
    cases y
    cases s
    cases o
    rfl
  rw [e]
  exact ⟨.ref p, _, J, rfl, q ys p hs hn hm np⟩
theorem cr_setTx (hc : X.calm = true) : CallR X (.type "set") (fun vs H Q => ∃ (l : Addr) (xs : List Str), vs = [V.ref l] ∧ SqL X.K H l (xs.map V.str) ∧ xs.length ≤ 4000 ∧ ∀ p, H p = none → Q (.ref p) (upd H p (SetTx X.w p xs))) := by
  intro pins s σ H vs us Q I r h
  obtain ⟨l, xs, rfl, hl, hz, q⟩ := h
  obtain ⟨its, rv, isl, _⟩ := I.list hl
  obtain ⟨u, rfl, ru⟩ := vals1 r
  obtain rfl : u = Value.ref l := ru
  refine set_of_txts xs (I.ok.hd hc) isl.isList (by simpa using rv.strs) (Nat.lt_of_le_of_lt (Nat.succ_le_succ hz) (by decide)) fun hn tk L hm new kept => ?_
  have new' : TxS X.w hn s.heap.objs.size xs := by
    obtain ⟨ob, rows, ep, tb, h1, h2, h3, h4, h5, h6, h7⟩ := new
    exact ⟨ob, rows, ep, tb, h1, h2, h3, h4, h5, fun x => (hm x).symm.trans (h6 x), h7⟩
  exact ⟨.ref s.heap.objs.size, upd H s.heap.objs.size (SetTx X.w s.heap.objs.size xs), I.laid (t' := tk) kept (Nat.le_refl _) (setTx_new new'), rfl, q _ (I.hok.fresh (Nat.le_refl _))⟩
theorem strs_v {K : PySem.W.Frag} {H : Hp} : ∀ {xs : List Str} {vs : List V}, DqAll K H vs (xs.map PyData.str) → vs = xs.map V.str
  | [], _, h => by cases h; rfl
  | x :: xs, _, h => by
    cases h with
    | cons h1 h2 => rw [dp_str h1, strs_v h2]; rfl
theorem strs_d {K : PySem.W.Frag} {H : Hp} : ∀ xs : List Str, DqAll K H (xs.map V.str) (xs.map PyData.str)
  | [] => .nil
  | x :: xs => .cons (.str x) (strs_d xs)
/-- sorted(set(e)) of texts -/
theorem re_sortedSet {xs : List Str} {Q : VK} (hm : X.mg "sorted" = none) (hm2 : X.mg "set" = none) (ha : XD X M σ H e (.list (xs.map PyData.str))) (h64 : xs.length < 64)
    (q : ∀ ys p H1, Same H H1 → H p = none → H1 p = some (.lst (ys.map V.str)) → sortedS ys = true → ys.Nodup → (∀ x, x ∈ ys ↔ x ∈ xs) → Q (.ref p) H1) (hc : X.calm = true := by rfl) (hg : Gl X "sorted" := by rfl) (hg2 : Gl X "set" := by rfl)
    (he : starEach [.Call (.Name "set" pa) [e] [] pb] X.env = (false, eval (.Call (.Name "set" pa) [e] [] pb) X.env) :: starEach [] X.env := by rfl) (he2 : starEach [e] X.env = (false, eval e X.env) :: starEach [] X.env := by rfl) (hpl : (backTo p2 (starEach [] X.env)).any (·.1) = false := by rfl) (hpl2 : (backTo pb (starEach [] X.env)).any (·.1) = false := by rfl) :
    RE X (.Call (.Name "sorted" p1) [.Call (.Name "set" pa) [e] [] pb] [] p2) σ H Q := by
  refine re_B (cr_sortedTx hc) (ra_1 ⟨_, pe_callTy (cr_setTx hc) hg2 hm2 (by decide +kernel) ra_ (by decide) (by decide) he2 hpl2, ra_1 (ha.go fun v H2 s2 hv => ?_) he2⟩ he) hm (by decide +kernel) hg (by decide) (by decide) he hpl
  obtain ⟨a, vs, rfl, hl, hx⟩ := dp_lst hv
  have ex := strs_v hx
  subst ex
  refine ⟨a, xs, rfl, SqL.of (hid_le _ _ hl), by omega, fun p hp => ⟨p, xs, xs, rfl, upd_same, fun x hx => hx, h64, fun ys l hs hn hmm hl2 => ?_⟩⟩
  have hl3 : H2 l = none := by
    by_cases z : l = p
    · subst z; exact hp
    · rw [upd_ne z] at hl2; exact hl2
  exact q ys l _ ((s2.trans (same_new hp)).trans (same_new hl2)) (s2.free hl3) upd_same hs hn hmm
/-- sorted(e), a list of texts -/
theorem re_sortedL {xs : List Str} {Q : VK} (hm : X.mg "sorted" = none) (ha : XD X M σ H e (.list (xs.map PyData.str))) (h64 : xs.length < 64)
    (q : ∀ ys p H1, Same H H1 → H p = none → H1 p = some (.lst (ys.map V.str)) → sortedS ys = true → ys.Perm xs → Q (.ref p) H1) (hg : Gl X "sorted" := by rfl)
    (he : starEach [e] X.env = (false, eval e X.env) :: starEach [] X.env := by rfl) (hpl : (backTo p2 (starEach [] X.env)).any (·.1) = false := by rfl) :
    RE X (.Call (.Name "sorted" p1) [e] [] p2) σ H Q := by
  refine re_B cr_sortedS (ra_1 (ha.go fun v H2 s2 hv => ?_) he) hm (by decide +kernel) hg (by decide) (by decide) he hpl
  obtain ⟨a, vs, rfl, hl, hx⟩ := dp_lst hv
  have ex := strs_v hx
  subst ex
  exact ⟨a, xs, rfl, SqL.of (hid_le _ _ hl), h64, fun ys l hp hs hl2 => q ys l _ (s2.trans (same_new hl2)) (s2.free hl2) upd_same hs hp⟩
end
end Dl

set_option Elab.async false
set_option linter.all false
set_option maxRecDepth 100000
set_option maxHeartbeats 4000000
namespace Zn
open PySem PySem.Spec PyProof.Rows L2 Dl
def top (i : Nat) : Stmt := PySem.Challenge.pw_everyzone_k16_bounds_judged.main.body.getD i (.Pass ⟨0, 0, 0, 0⟩)
abbrev sWhole : Stmt := top 12
abbrev sIsInt : Stmt := top 13
abbrev sIsName : Stmt := top 14
/-- built-in names that the module leaves alone -/
structure Nm (mg : Str → Option Value) : Prop where
  isi : mg "isinstance" = none
  int : mg "int" = none
  bool : mg "bool" = none
  str : mg "str" = none
  len : mg "len" = none
  min : mg "min" = none
  max : mg "max" = none
  rep : mg "repr" = none
  rng : mg "range" = none
  all : mg "all" = none
  lst : mg "list" = none
  tup : mg "tuple" = none
  dct : mg "dict" = none
  set : mg "set" = none
  srt : mg "sorted" = none
  sum : mg "sum" = none
  enu : mg "enumerate" = none
  rvs : mg "reversed" = none
  abs : mg "abs" = none
structure Df (K : PySem.W.Frag) (mg : Str → Option Value) (x : Str) (st : Stmt) (ps : List Str) (f : Addr) (fd : FuncData) : Prop where
  F : Fun K x x st f fd
  g : mg x = some (.ref f)
  b : Binds K fd ps []
def tys : List String := ["NoneType", "bool", "int", "str", "list", "tuple", "dict"]
structure Th (K : PySem.W.Frag) (H : Hp) (v : V) (T : String) : Prop where
  ty : ∀ H1, Same H H1 → TyX K H1 v (.type T)
  t : T ∈ tys
  i : ∀ n, v = .int n → T = "int"
  j : T = "int" → ∃ n, v = .int n
  k : ∀ x, v = .str x → T = "str"
  l : T = "str" → ∃ x, v = .str x
theorem Th.up {K : PySem.W.Frag} {H H1 : Hp} {v : V} {T : String} (h : Th K H v T) (s : Same H H1) : Th K H1 v T := ⟨fun H2 s2 => h.ty H2 (s.trans s2), h.t, h.i, h.j, h.k, h.l⟩
theorem th_int {K : PySem.W.Frag} {H : Hp} {n : Int} : Th K H (.int n) "int" := ⟨fun _ _ => .base (.int n), by decide, fun _ _ => rfl, fun _ => ⟨n, rfl⟩, fun _ z => V.noConfusion z, fun z => absurd z (by decide)⟩
theorem th_str {K : PySem.W.Frag} {H : Hp} {x : Str} : Th K H (.str x) "str" := ⟨fun _ _ => .base (.str x), by decide, fun _ z => V.noConfusion z, fun z => absurd z (by decide), fun _ _ => rfl, fun _ => ⟨x, rfl⟩⟩
def intT (T : String) : Bool := decide (T = "int") || decide (T = "bool")
theorem kt_int {T : String} (h : T ∈ tys) : kitB T "int" = some (intT T) := by
  simp only [tys, List.mem_cons, List.not_mem_nil, or_false] at h
  rcases h with e | e | e | e | e | e | e <;> rw [e] <;> decide +kernel
theorem kt_bool {T : String} (h : T ∈ tys) : kitB T "bool" = some (decide (T = "bool")) := by
  simp only [tys, List.mem_cons, List.not_mem_nil, or_false] at h
  rcases h with e | e | e | e | e | e | e <;> rw [e] <;> decide +kernel
theorem kt_str {T : String} (h : T ∈ tys) : kitB T "str" = some (decide (T = "str")) := by
  simp only [tys, List.mem_cons, List.not_mem_nil, or_false] at h
  rcases h with e | e | e | e | e | e | e <;> rw [e] <;> decide +kernel
theorem whole_T (T : String) : (intT T && !decide (T = "bool")) = decide (T = "int") := by
  unfold intT
  by_cases a : T = "bool"
  · subst a; decide
  · rw [decide_eq_false a]; simp
section
variable {X : Cx} {M : List Addr} {σ : L2.St} {H : Hp} {a : Expr} {v : V} {pos p1 p2 : Pos}
theorem xd_isTy {T T' : String} {r : Bool} {nm : Str} (hk : kitB T' T = some r) (hm : X.mg "isinstance" = none) (hmT : X.mg nm = none) (hvT : bootBuiltins nm = some (.type T)) (ha : XV X σ H a v) (hty : ∀ H1, Same H H1 → TyX X.K H1 v (.type T')) (hg : Gl X "isinstance" := by rfl) (hgT : Gl X nm := by rfl) (hnT : nm ≠ "__name__" := by decide) (hdT : (nm == ("__debug__" : Str)) = false := by decide)
    (he : starEach [a, .Name nm p2] X.env = (false, eval a X.env) :: starEach [.Name nm p2] X.env := by rfl) (he2 : starEach [.Name nm p2] X.env = (false, eval (.Name nm p2) X.env) :: starEach [] X.env := by rfl) (hpl : (backTo pos (starEach [.Name nm p2] X.env)).any (·.1) = false := by rfl) :
    XD X M σ H (.Call (.Name "isinstance" p1) [a, .Name nm p2] [] pos) (.bool r) := fun H1 s Q q =>
  re_B call_isi (ra_cons (ha H1 s _ fun H2 s2 => ra_1 (xv_bltn (v := .ty T) hmT hvT rfl hgT hnT hdT H2 (Same.refl _) _ fun H3 s3 =>
    ⟨v, .ty T, _, _, r, rfl, .ty T, hty H3 ((s.trans s2).trans s3), kit_ty hk, q _ H3 (s2.trans s3) (.bl _)⟩) he2) he) hm (by decide +kernel) hg (by decide) (by decide) he hpl
end
section
variable {P : Program} {w : World} {K : PySem.W.Frag} {mg : Str → Option Value} {base : Heap}
theorem fn0 {k : Nat} {f : Addr} {fd : FuncData} {ps : List Str} {sp : Sp} (F : FnOk P w K mg base (L2.CX P w) k f fd ps sp) : FnOk P w K mg base CX0 k f fd ps (fun vs H Q _ => sp vs H Q fun _ _ _ => False) where
  len := fun vs H Q E h => F.len vs H Q _ h
  run := fun A outer s H args us vs Q E hr e0 hb r h => codeAny_mono (F.run A outer s H args us vs Q (fun _ _ _ => False) hr e0 hb r h) fun r' s' z => by
    cases r' with
    | ok fl => cases fl <;> exact z
    | error e =>
      obtain ⟨a, B, H', cls, d, _, _, _, _, _, _, _, q⟩ := z
      exact q.elim
def spWh (K : PySem.W.Frag) : Sp := fun vs H Q _ => ∃ (v : V) (T : String), vs = [v] ∧ Th K H v T ∧ ∀ H1, Same H H1 → Q (.bl (decide (T = "int"))) H1
theorem scWhole : FnScope ["value"] ["value"] (defScope sWhole) := ⟨rfl, rfl, rfl, by decide +kernel, rfl, by decide +kernel, by decide +kernel⟩
theorem ok_whole {f : Addr} {fd : FuncData} (T : Nm mg) (F : Df K mg "is_whole" sWhole ["value"] f fd) : FnOk P w K mg base CX0 1 f fd ["value"] (spWh K) := by
  refine F.F.ok scWhole (fun vs H Q E h => ?_) (fun cdv A outer s H vs Q E hr h => ?_)
  · obtain ⟨v, T', rfl, _⟩ := h; rfl
  · obtain ⟨v, T', rfl, ht, q⟩ := h
    refine rb_ret (M := []) (xd_and2 (xd_isTy (kt_int ht.t) T.isi T.int (by decide +kernel) (xv_name 0 rfl) ht.ty) fun _ => xd_not (xd_isTy (kt_bool ht.t) T.isi T.bool (by decide +kernel) (xv_name 0 rfl) ht.ty)) fun v1 H1 s1 hv1 => ?_
    rw [dp_bl hv1, whole_T]
    exact q H1 s1
end
section
variable {P : Program} {w : World} {K : PySem.W.Frag} {mg : Str → Option Value} {base : Heap}
theorem xd_chainV {X : Cx} {M : List Addr} {σ : L2.St} {H : Hp} {a b c : Expr} {pos : Pos} {op op' : CmpOp} {g g' : Int → Int → Bool} {l m n : Int} (ho : OpR X (compareOp op) (rI0 fun i j => .bl (g i j))) (ho' : OpR X (compareOp op') (rI0 fun i j => .bl (g' i j))) (ha : XD X M σ H a (.int l)) (hb : XD X M σ H b (.int m)) (hc : XD X M σ H c (.int n))
    (hm : lastMarks [op, op'] [b, c] = false := by with_unfolding_all rfl) : XD X M σ H (.Compare a [op, op'] [b, c] pos) (.bool (g l m && g' m n)) := fun H1 s Q q =>
  ⟨_, pe_chain ho ho' re_ re_ re_ hm, ha H1 s _ fun v H2 s2 hv => hb H2 (s.trans s2) _ fun u H3 s3 hu => ⟨l, m, dp_int hv, dp_int hu, g l m, rfl, by
    cases e : g l m with
    | false =>
      rw [e] at q
      exact iteF (q _ H3 (s2.trans s3) (.bl _))
    | true =>
      rw [e] at q
      exact iteT (hc H3 ((s.trans s2).trans s3) _ fun y H4 s4 hy => ⟨m, n, dp_int hu, dp_int hy, q _ H4 ((s2.trans s3).trans s4) (.bl _)⟩)⟩⟩
def spIsInt (K : PySem.W.Frag) : Sp := fun vs H Q _ => ∃ (v : V) (T : String) (lo hi : Int), vs = [v, .int lo, .int hi] ∧ Th K H v T ∧ (T = "int" → ∃ n : Int, v = .int n ∧ ∀ H1, Same H H1 → Q (.bl (decide (lo ≤ n) && decide (n ≤ hi))) H1) ∧ (T ≠ "int" → ∀ H1, Same H H1 → Q (.bl false) H1)
theorem scIsInt : FnScope ["value", "low", "high"] ["value", "low", "high"] (defScope sIsInt) := ⟨rfl, rfl, rfl, by decide +kernel, rfl, by decide +kernel, by decide +kernel⟩
theorem xd_whole {X : Cx} {M : List Addr} {σ : L2.St} {H : Hp} {e : Expr} {pos p1 : Pos} {v : V} {T : String} {f : Addr} {fd : FuncData} (G : FnOk X.prog X.w X.K X.mg X.base CX0 1 f fd ["value"] (spWh X.K)) (hr : Room 1 X.A) (FF : Df X.K X.mg "is_whole" sWhole ["value"] f fd) (ho : XV X σ H e v) (ht : Th X.K H v T) (hg : Gl X "is_whole" := by rfl)
    (he : starEach [e] X.env = (false, eval e X.env) :: starEach [] X.env := by rfl) (hpl : (backTo pos (starEach [] X.env)).any (·.1) = false := by rfl) : XD X M σ H (.Call (.Name "is_whole" p1) [e] [] pos) (.bool (decide (T = "int"))) := fun H1 s Q q =>
  re_call G hr FF.g FF.F.kp FF.b (ra_1 (ho H1 s _ fun H2 s2 => ⟨v, T, rfl, ht.up (s.trans s2), fun H3 s3 => q _ H3 (s2.trans s3) (.bl _)⟩) he) hg (by decide) he hpl
theorem ok_isInt {f fW : Addr} {fd fdW : FuncData} (GW : FnOk P w K mg base CX0 1 fW fdW ["value"] (spWh K)) (FW : Df K mg "is_whole" sWhole ["value"] fW fdW) (F : Df K mg "is_integer" sIsInt ["value", "low", "high"] f fd) : FnOk P w K mg base CX0 2 f fd ["value", "low", "high"] (spIsInt K) := by
  refine F.F.ok scIsInt (fun vs H Q E h => ?_) (fun cdv A outer s H vs Q E hr h => ?_)
  · obtain ⟨v, T, lo, hi, rfl, _⟩ := h; rfl
  · obtain ⟨v, T, lo, hi, rfl, ht, q1, q2⟩ := h
    by_cases c : T = "int"
    · obtain ⟨n, rfl, q⟩ := q1 c
      refine rb_ret (M := []) (xd_andT ((xd_whole GW hr FW (xv_name 0 rfl) ht).to (by rw [decide_eq_true c])) (xd_one (xd_chainV op_le op_le (xv_name 1 rfl).int (xv_name 0 rfl).int (xv_name 2 rfl).int))) fun v1 H1 s1 hv1 => ?_
      rw [dp_bl hv1]; exact q H1 s1
    · refine rb_ret (M := []) (xd_andF ((xd_whole GW hr FW (xv_name 0 rfl) ht).to (by rw [decide_eq_false c]))) fun v1 H1 s1 hv1 => ?_
      rw [dp_bl hv1]; exact q2 c H1 s1
end
end Zn
namespace Dl
open PySem PySem.Spec PyProof.Rows L2
section
variable {X : Cx} {M : List Addr} {σ : L2.St} {H : Hp} {e a b : Expr} {pos p1 p2 : Pos} {k1 k2 : Bool}
theorem xd_all {bs : List Bool} (hm : X.mg "all" = none) (ha : XD X M σ H e (.list (bs.map PyData.bool))) (hc : X.calm = true := by rfl) (hg : Gl X "all" := by rfl)
    (he : starEach [e] X.env = (false, eval e X.env) :: starEach [] X.env := by rfl) (hpl : (backTo p2 (starEach [] X.env)).any (·.1) = false := by rfl) : XD X M σ H (.Call (.Name "all" p1) [e] [] p2) (.bool (bs.all id)) := fun H1 s1 Q q =>
  re_B (cr_all hc) (ra_1 (ha H1 s1 _ fun v H2 s2 hv => by
    obtain ⟨a, xs, rfl, ha, hx⟩ := dp_lst hv
    have ex := bools_v hx
    subst ex
    exact ⟨a, bs, rfl, SqL.of (hid_le _ _ ha), q _ H2 s2 (.bl _)⟩) he) hm (by decide +kernel) hg (by decide) (by decide) he hpl
theorem xd_or2 (ha : XD X M σ H a (.bool k1)) (hb : XD X M σ H b (.bool k2)) : XD X M σ H (.BoolOp .Or [a, b] pos) (.bool (k1 || k2)) := by
  cases k1 with
  | true => exact xd_orT ha
  | false => exact xd_orF ha (xd_one hb)
end
end Dl
namespace Zn
open PySem PySem.Spec PyProof.Rows L2 Dl
/-! k02: is_name, is_time_text, time_from -/
def letS : Str := "abcdefghijklmnopqrstuvwxyz"
def digS : Str := "0123456789"
def lets : List Nat := letS.cps.toList
def digs : List Nat := digS.cps.toList
def nameB (x : Str) : Bool := (decide ((1 : Int) ≤ x.length) && decide ((x.length : Int) ≤ 8)) && ((match x.cps.toList.head? with | some c => decide (c ∈ lets) | none => false) && x.cps.toList.all fun c => decide (c ∈ lets) || decide (c ∈ digs))
theorem all_map (x : List Nat) (g : Nat → Bool) : x.filterMap (fun c => some (PyData.bool (g c))) = (x.map g).map PyData.bool := by
  induction x with
  | nil => rfl
  | cons c x ih => rw [List.filterMap_cons, List.map_cons, List.map_cons, ← ih]
theorem all_id (x : List Nat) (g : Nat → Bool) : (x.map g).all id = x.all g := by rw [List.all_map]; rfl
section
variable {P : Program} {w : World} {K : PySem.W.Frag} {mg : Str → Option Value} {base : Heap} {CT : Addr}
def spName (K : PySem.W.Frag) : Sp := fun vs H Q _ => ∃ (v : V) (T : String), vs = [v] ∧ Th K H v T ∧ (∀ x, v = .str x → x.length ≤ 1000 ∧ ∀ H1, Same H H1 → Q (.bl (nameB x)) H1) ∧ (T ≠ "str" → ∀ H1, Same H H1 → Q (.bl false) H1)
theorem scIsName : FnScope ["value", "sign"] ["value"] (defScope sIsName) := ⟨rfl, rfl, rfl, by decide +kernel, rfl, by decide +kernel, by decide +kernel⟩
theorem ok_isName {f : Addr} {fd : FuncData} (T : Nm mg) (hN : ∃ t, mg "LONGEST_NAME" = some (.int 8 t)) (hL : ∃ t, mg "LETTERS" = some (.str letS t)) (hD : ∃ t, mg "DIGITS" = some (.str digS t)) (F : Df K mg "is_name" sIsName ["value"] f fd) : FnOk P w K mg base CX0 1 f fd ["value"] (spName K) := by
  obtain ⟨t1, hN⟩ := hN
  obtain ⟨t2, hL⟩ := hL
  obtain ⟨t3, hD⟩ := hD
  refine F.F.ok scIsName (fun vs H Q E h => ?_) (fun cdv A outer s H vs Q E hr h => ?_)
  · obtain ⟨v, T', rfl, _⟩ := h; rfl
  · obtain ⟨v, T', rfl, ht, q1, q2⟩ := h
    by_cases c : T' = "str"
    · obtain ⟨x, rfl⟩ := ht.l c
      obtain ⟨hz, q⟩ := q1 x rfl
      refine rb_if (k := !(decide ((1 : Int) ≤ x.length) && decide ((x.length : Int) ≤ 8))) ((xt_or2 (k1 := false) ((xt_not (xt_val (M := []) (k := true) (xd_isTy (by rw [kt_str ht.t, decide_eq_true c]) T.isi T.str (by decide +kernel) (xv_name 0 rfl) ht.ty))).to rfl) fun _ => xt_not (xt_chainI (M := []) op_le op_le xd_int (xd_lenStr T.len (xd_name 0 rfl (.str x)) (by omega)) (xv_glob (v := .int 8) hN ⟨t1, rfl⟩).int)).to (Bool.false_or _)) (fun e H1 s1 => ?_) (fun e H1 s1 => rb_nil ?_)
      · have e0 : nameB x = false := by
          unfold nameB
          cases z : (decide ((1 : Int) ≤ x.length) && decide ((x.length : Int) ≤ 8)) with
          | true => rw [z] at e; cases e
          | false => rfl
        exact rb_ret (M := []) xd_bl fun v2 H2 s2 hv2 => by rw [dp_bl hv2, ← e0]; exact q H2 (s1.trans s2)
      · have e1 : (decide ((1 : Int) ≤ x.length) && decide ((x.length : Int) ≤ 8)) = true := by simpa using e
        have hlen : 1 ≤ x.length := by
          rw [Bool.and_eq_true] at e1
          have := of_decide_eq_true e1.1
          omega
        obtain ⟨c0, cs, hcs⟩ : ∃ c0 cs, x.cps.toList = c0 :: cs := by
          cases z : x.cps.toList with
          | nil =>
            have hz0 : x.length = 0 := by show x.cps.size = 0; rw [← Array.length_toList, z]; rfl
            omega
          | cons c0 cs => exact ⟨c0, cs, rfl⟩
        refine rb_ret (M := []) (d := .bool (decide (c0 ∈ lets) && x.cps.toList.all fun c => decide (c ∈ lets) || decide (c ∈ digs))) (xd_and2 (xd_inSg (xd_ixS (c := c0) (fun _ _ => rfl) (xd_name 0 rfl (.str x)) xd_int (by omega) (by rw [hcs]; unfold atI ixN; simp)) ((xv_glob (v := .str letS) hL ⟨t2, rfl⟩).dd (.str _))) fun _ => (xd_all T.all (XL.dd ((xl_compS (own := [("sign", 1)]) (fun c => some (PyData.bool (decide (c ∈ lets) || decide (c ∈ digs)))) Live.nil scIsName.nd (xd_name 0 rfl (.str x))
          (blkOk_by (own := [("sign", 1)]) (N := ["value", "sign"]) (sc := defScope sIsName) (by decide +kernel)) (by omega) (fun p c H2 hc hp s2 Lp => ?comp)).to (all_map _ _)) Live.nil)).to (by rw [all_id])) fun v3 H3 s3 hv3 => ?_
        case comp =>
          intro s0 H0 C0 cl fp
          refine rg_name 1 ⟨rfl, bt_nil ⟨Same.refl _, .inl ⟨rfl, _, rfl, fun s0 H0 C0 cl fp => ?_⟩⟩⟩ scIsName.nd
          exact XD.go (xd_or2 (xd_inSg (xd_name 1 rfl (.str _)) ((xv_glob (v := .str letS) hL ⟨t2, rfl⟩).dd (.str _))) (xd_inSg (xd_name 1 rfl (.str _)) ((xv_glob (v := .str digS) hD ⟨t3, rfl⟩).dd (.str _)))) fun v H4 s4 hv4 => ⟨s4, hv4⟩
        have e2 : nameB x = (decide (c0 ∈ lets) && x.cps.toList.all fun c => decide (c ∈ lets) || decide (c ∈ digs)) := by
          unfold nameB
          rw [e1, hcs]
          rfl
        rw [dp_bl hv3, ← e2]
        exact q H3 (s1.trans s3)
    · refine rb_ifT ((xt_or2 (k1 := true) (k2 := false) ((xt_not (xt_val (M := []) (k := false) (xd_isTy (by rw [kt_str ht.t, decide_eq_false c]) T.isi T.str (by decide +kernel) (xv_name 0 rfl) ht.ty))).to rfl) fun z => absurd z (by decide)).to rfl) fun H1 s1 => ?_
      exact rb_ret (M := []) xd_bl fun v2 H2 s2 hv2 => by rw [dp_bl hv2]; exact q2 c H2 (s1.trans s2)
end
end Zn
namespace Zn
open PySem PySem.Spec PyProof.Rows L2 Dl
section
variable {X : Cx} {M : List Addr} {σ : L2.St} {H H' : Hp} {e a b o ie : Expr} {d : PyData} {ds : List PyData} {pos p1 p2 p3 : Pos} {D : Ends} {rest : List Stmt} {v : V} {xs : List V}
/-! ### lists by the values themselves -/
theorem xv_lenS {p : Addr} (hm : X.mg "len" = none) (ha : XV X σ H e (.ref p)) (hS : SqL X.K H p xs) (hg : Gl X "len" := by rfl) (he : starEach [e] X.env = (false, eval e X.env) :: starEach [] X.env := by rfl) (hpl : (backTo pos (starEach [] X.env)).any (·.1) = false := by rfl) :
    XV X σ H (.Call (.Name "len" p1) [e] [] pos) (.int xs.length) := fun H1 s Q q =>
  re_B call_len_seq (ra_1 (ha H1 s _ fun H2 s2 => ⟨p, xs, rfl, .inl ((s.trans s2).seq hS), q H2 s2⟩) he) hm PySem.boot_len hg (by decide) (by decide) he hpl
theorem xv_ixS {p : Addr} {n : Int} (hs : PlainIx b) (ha : XV X σ H a (.ref p)) (hS : SqL X.K H p xs) (hb : XV X σ H b (.int n)) (h : atI xs n = some v) : XV X σ H (.Subscript a b pos) v := fun H1 s Q q =>
  ⟨_, pe_ix ix_list re_ re_ hs, ha H1 s _ fun H2 s2 => hb H2 (s.trans s2) _ fun H3 s3 => ⟨p, xs, n, v, rfl, rfl, ((s.trans s2).trans s3).seq hS, h, q H3 (s2.trans s3)⟩⟩
/-- o[i] = e -/
theorem rb_setIx {l : Addr} {n : Int} {j : Nat} (hl : H l = some (.lst xs)) (he : XD X M σ H e d) (ho : XV X σ H o (.ref l)) (hi : XV X σ H ie (.int n)) (hj : ixN xs.length n = some j) (k : ∀ v H1, Same H H1 → Dq X.K (hid M H1) v d → RB X rest D σ (upd H1 l (.lst (xs.set j v))))
    (hs : swapsWithSole [.Subscript o ie p1] e pos.line X.env = pure false := by rfl) (hw : swappedStores [.Subscript o ie p1] e X.env = pure none := by rfl) (h1 : (assignEach [.Subscript o ie p1] X.env).map (·.2) = [assign (.Subscript o ie p1) X.env] := by rfl)
    (hg : PG X (.Subscript o ie p1) (gSub (RE X o) (RE X ie) rSetL) := by exact pg_sub re_ re_ set_list) : RB X (.Assign [.Subscript o ie p1] e pos :: rest) D σ H :=
  rb_asgR (he.go fun v H1 s1 hv => ⟨_, hg, ho H1 s1 _ fun H2 s2 => hi H2 (s1.trans s2) _ fun H3 s3 => ⟨l, xs, n, j, rfl, rfl, ((s1.trans s2).trans s3) _ _ hl, hj, k v H3 ((s1.trans s2).trans s3) (hv.up (hid_mono (s2.trans s3)))⟩⟩) hs hw h1
theorem xd_pow {m n : Int} (ha : XD X M σ H a (.int m)) (hb : XD X M σ H b (.int n)) (hc : CPow m n) : XD X M σ H (.BinOp a .Pow b pos) (.int (m ^ n.toNat)) := xd_binI op_pow ha hb hc
theorem xd_mod {m n : Int} (ha : XD X M σ H a (.int m)) (hb : XD X M σ H b (.int n)) (hc : 0 < n) : XD X M σ H (.BinOp a .Mod b pos) (.int (m % n)) := xd_binI op_mod ha hb hc
theorem xd_div {m n : Int} (ha : XD X M σ H a (.int m)) (hb : XD X M σ H b (.int n)) (hc : CDivW m n) : XD X M σ H (.BinOp a .FloorDiv b pos) (.int (m / n)) := xd_binI op_fdivW ha hb hc
end
section
variable {X : Cx} {M : List Addr} {σ : L2.St} {H H' : Hp} {e a b o ie : Expr} {es : List Expr} {d : PyData} {ds : List PyData} {pos p1 p2 p3 : Pos} {D : Ends} {rest : List Stmt} {v : V} {xs : List V} {Q : VK}
theorem re_bin {op : Operator} {r : R2} (ho : OpR X (binaryOp op) r) (h : RE X a σ H fun x H1 => RE X b σ H1 fun y H2 => r x y H2 Q) : RE X (.BinOp a op b pos) σ H Q := ⟨_, pe_op ho re_ re_, h⟩
theorem re_addI (h : RE X a σ H fun x H1 => ∃ i, x = .int i ∧ RE X b σ H1 fun y H2 => ∃ j, y = .int j ∧ Q (.int (i + j)) H2) : RE X (.BinOp a .Add b pos) σ H Q :=
  re_bin op_add (re_mono h fun x H1 ⟨i, ei, h1⟩ => re_mono h1 fun y H2 ⟨j, ej, q⟩ => ⟨i, j, ei, ej, q⟩)
theorem re_subI (h : RE X a σ H fun x H1 => ∃ i, x = .int i ∧ RE X b σ H1 fun y H2 => ∃ j, y = .int j ∧ Q (.int (i - j)) H2) : RE X (.BinOp a .Sub b pos) σ H Q :=
  re_bin op_sub (re_mono h fun x H1 ⟨i, ei, h1⟩ => re_mono h1 fun y H2 ⟨j, ej, q⟩ => ⟨i, j, ei, ej, q⟩)
theorem re_mulI (h : RE X a σ H fun x H1 => ∃ i, x = .int i ∧ (-(2 ^ 64) < i ∧ i < 2 ^ 64) ∧ RE X b σ H1 fun y H2 => ∃ j, y = .int j ∧ Q (.int (i * j)) H2) : RE X (.BinOp a .Mult b pos) σ H Q :=
  re_bin op_mul (re_mono h fun x H1 ⟨i, ei, hi, h1⟩ => re_mono h1 fun y H2 ⟨j, ej, q⟩ => ⟨i, j, ei, ej, .inl hi, q⟩)
theorem at_menu {ms : List Int} {r : Int} (h0 : 0 ≤ r) (h1 : r.toNat < ms.length) : atI (ms.map V.int) r = some (V.int (ms[r.toNat])) := by
  have h : atI (ms.map V.int) ((r.toNat : Nat) : Int) = some (V.int (ms[r.toNat])) := atI_nat (by rw [List.getElem?_map, List.getElem?_eq_getElem h1]; rfl)
  rw [Int.toNat_of_nonneg h0] at h
  exact h
/-- [ints][e] -/
theorem re_menu {esl : List Expr} {n : Nat} (hs : PlainIx b) (hn : n ≤ 1000) (h : RA X esl σ H fun vs H1 => ∃ ms : List Int, vs = ms.map V.int ∧ ms.length = n ∧ ∀ l, H1 l = none → RE X b σ (upd H1 l (.lst vs)) fun y H3 => ∃ r : Int, y = .int r ∧ 0 ≤ r ∧ r < n ∧ H3 l = some (.lst vs) ∧ ∀ z, z ∈ ms → Q (.int z) H3) :
    RE X (.Subscript (.List esl p1) b pos) σ H Q :=
  ⟨_, pe_ix ix_list (pe_lst ra_) re_ hs, ra_mono h fun vs H1 ⟨ms, e1, e2, k⟩ => ⟨by rw [e1, List.length_map, e2]; exact Nat.le_trans hn (by decide), fun l hl => re_mono (k l hl) fun y H3 ⟨r, ey, r0, r1, h3, q⟩ => by
    subst ey
    have hlt : r.toNat < ms.length := by omega
    exact ⟨l, vs, r, .int (ms[r.toNat]), rfl, rfl, SqL.of h3, by rw [e1]; exact at_menu r0 hlt, q _ (List.getElem_mem hlt)⟩⟩⟩
theorem ra_int {n : Int} {Q : List V → Hp → Prop} (h : XV X σ H e (.int n)) (k : ∀ H1, Same H H1 → RA X es σ H1 fun vs H2 => Q (.int n :: vs) H2) (hs : starEach (e :: es) X.env = (false, eval e X.env) :: starEach es X.env := by rfl) : RA X (e :: es) σ H Q := ra_cons (h.go fun H1 s => k H1 s) hs
theorem re_int {n : Int} (h : XV X σ H e (.int n)) (k : ∀ H1, Same H H1 → Q (.int n) H1) : RE X e σ H Q := h.go k
end
theorem at_any {vs : List V} {r : Int} (h0 : 0 ≤ r) (h1 : r.toNat < vs.length) : atI vs r = some (vs[r.toNat]) := by
  obtain ⟨n, rfl⟩ : ∃ n : Nat, r = (n : Int) := ⟨r.toNat, by omega⟩
  have h2 : n < vs.length := by omega
  unfold atI
  rw [show ixN vs.length (n : Int) = some n by unfold ixN; simp; omega]
  simp [h2]
theorem day_len {ds : List Int} {r : Int} (h0 : 0 ≤ r) (h1 : r < ds.length) : ∃ v, atI (ds.map V.int) r = some (V.int v) ∧ v ∈ ds := by
  have h : r.toNat < ds.length := by omega
  exact ⟨ds[r.toNat], at_menu h0 h, List.getElem_mem h⟩
section
variable {X : Cx} {M : List Addr} {σ : L2.St} {H : Hp} {a b c e e2 e3 e4 e5 o : Expr} {pos apos p1 p2 py spos : Pos} {C f : Addr} {fd : FuncData} {off n : Int} {k : Nat} {D : Ends} {rest : List Stmt} {x : Str} {scope : Scope} {own : List (Str × Nat)} {elt tg : Expr} {Q : VK} {esl : List Expr}
theorem rb_setCR (i : Nat) (hm : X.mg "range" = none) (hN : X.N.Nodup) (ok : BlkOk X.N X.env.scope scope own) (h : tLc (iRng1 (RA X [a])) (BG X scope tg) (BT X scope []) (BE X scope elt) (own.map (·.2)) σ H fun v H1 => RB X rest D (σ.set i (some v)) H1)
    (hi : X.N[i]? = some x := by rfl) (hx : X.env.scope.names.lookup x = some .local := by rfl) (hsw : swapsWith (.ListComp elt [⟨tg, .Call (.Name "range" p1) [a] [] p2, [], 0⟩] scope pos) (some (.Name x py)) spos.line X.env = pure true := by exact sw_true rfl rfl rfl rfl)
    (hc : X.calm = true := by rfl) (hg : Gl X "range" := by rfl) (he : starEach [a] X.env = [(false, eval a X.env)] := by rfl) (hs : ∀ x, foldedSetIterable (.Call (.Name "range" p1) [a] [] p2) X.env x = pure x := by intro _; rfl) : RB X (.Assign [.Name x py] (.ListComp elt [⟨tg, .Call (.Name "range" p1) [a] [] p2, [], 0⟩] scope pos) spos :: rest) D σ H :=
  ⟨_, pss_cons (ps_setLc (own := own) hc hN hi hx hsw (pi_range1 hg hm ra_ he) ok (fun _ _ _ _ _ => bg_) (fun _ _ _ _ _ => bt_) (fun _ _ _ _ _ => be_) hs) rb_, h⟩
theorem re_lcR (hm : X.mg "range" = none) (hN : X.N.Nodup) (ok : BlkOk X.N X.env.scope scope own) (h : tLc (iRng1 (RA X [a])) (BG X scope tg) (BT X scope []) (BE X scope elt) (own.map (·.2)) σ H Q)
    (hc : X.calm = true := by rfl) (hg : Gl X "range" := by rfl) (he : starEach [a] X.env = [(false, eval a X.env)] := by rfl) (hs : ∀ x, foldedSetIterable (.Call (.Name "range" p1) [a] [] p2) X.env x = pure x := by intro _; rfl) : RE X (.ListComp elt [⟨tg, .Call (.Name "range" p1) [a] [] p2, [], 0⟩] scope pos) σ H Q :=
  ⟨_, pe_lc (own := own) hc hN (pi_range1 hg hm ra_ he) ok (fun _ _ _ _ _ => bg_) (fun _ _ _ _ _ => bt_) (fun _ _ _ _ _ => be_) hs, h⟩
theorem re_menuV {vs : List V} (hs : PlainIx b) (hn : vs.length ≤ 1000) (h : RA X esl σ H fun ws H1 => ws = vs ∧ ∀ l, H1 l = none → RE X b σ (upd H1 l (.lst vs)) fun y H3 => ∃ r : Int, y = .int r ∧ 0 ≤ r ∧ r < vs.length ∧ H3 l = some (.lst vs) ∧ ∀ z, z ∈ vs → Q z H3) :
    RE X (.Subscript (.List esl p1) b pos) σ H Q :=
  ⟨_, pe_ix ix_list (pe_lst ra_) re_ hs, ra_mono h fun ws H1 ⟨e1, k⟩ => by
    subst e1
    exact ⟨Nat.le_trans hn (by decide), fun l hl => re_mono (k l hl) fun y H3 ⟨r, ey, r0, r1, h3, q⟩ => by
      subst ey
      have hlt : r.toNat < ws.length := by omega
      refine ⟨l, ws, r, ws[r.toNat], rfl, rfl, SqL.of h3, ?_, q _ (List.getElem_mem hlt)⟩
      exact at_any r0 hlt⟩⟩
theorem rb_forE {tg : Expr} {body : List Stmt} (h : RE X e σ H fun v H1 => ∃ ds, Dq X.K (hid M H1) v (.list ds) ∧ ∃ Pv : Nat → L2.St → Hp → Prop, Pv 0 σ H1 ∧ (∀ k σ' H', Pv k σ' H' → Same (hid M H1) (hid M H')) ∧
      (∀ k d, ds[k]? = some d → ∀ σ' H' v, Pv k σ' H' → Dq X.K (hid M H') v d → RG X tg v σ' H' fun σ2 H2 => RB X body { D with nx := Pv (k + 1), ct := Pv (k + 1), bk := RB X rest D } σ2 H2) ∧ ∀ σ' H', Pv ds.length σ' H' → RB X rest D σ' H')
    (hp : PassesOwn (model X.prog X.w) X.A X.env X.xe := by exact PassesOwn.never) (hc : X.calm = true := by rfl) (hs : ∀ x, foldedSetIterable e X.env x = pure x := by intro _; rfl) : RB X (.For tg e body [] pos :: rest) D σ H :=
  ⟨_, pss_cons (ps_for hp hc (pi_list re_) rg_ rb_ hs) rb_, re_mono h fun v H1 ⟨ds, hv, Pv, h0, hk, hst, hd⟩ => by
    obtain ⟨a, xs, rfl, ha, hx⟩ := dp_lst hv
    refine ⟨a, rfl, ⟨xs, SqL.of (hid_le _ _ ha)⟩, for_list (xs := xs) Pv h0 (fun i σ' H' _ p => SqL.of (hid_le _ _ (hk i σ' H' p _ _ ha))) (fun i x σ' H' hi p => ?_) (by rw [dpa_len hx]; exact hd)⟩
    obtain ⟨d, h1, h2⟩ := dpa_get' hx hi
    exact hst i d h1 σ' H' x p (h2.up (hk i σ' H' p))⟩
end
end Zn
namespace Dl
open PySem PySem.Spec PyProof.Rows L2
section
variable {X : Cx} {M : List Addr} {σ : L2.St} {H H' : Hp} {e a b c o elt tg iter : Expr} {ifs : List Expr} {scope : Scope} {own : List (Str × Nat)} {d d1 d2 : PyData} {ds ds2 es' : List PyData} {v : V} {pos p1 p2 p3 tpos : Pos} {D : Ends} {rest : List Stmt}
theorem xl_compT (f : PyData → Option PyData) (L : Live M H) (hN : X.N.Nodup) (hit : XD X M σ H iter (.tuple ds)) (ok : BlkOk X.N X.env.scope scope own) (hz : ds.length ≤ 100000)
    (hst : ∀ p d v H1, d ∈ ds → H p = none → Same H H1 → Live (p :: M) H1 → Dq X.K (hid (p :: M) H1) v d → BG X scope tg v (wipe σ (own.map (·.2))) H1 fun σ2 H2 => wipe σ2 (own.map (·.2)) = wipe σ (own.map (·.2)) ∧ BT X scope ifs σ2 H2 fun k H3 =>
      Same H1 H3 ∧ ((k = true ∧ ∃ d', f d = some d' ∧ BE X scope elt σ2 H3 fun y H4 => Same H3 H4 ∧ Dq X.K (hid (p :: M) H4) y d') ∨ (k = false ∧ f d = none)))
    (hc : X.calm = true := by rfl) (hs : ∀ x, foldedSetIterable iter X.env x = pure x := by intro _; rfl) : XL X M σ H (.ListComp elt [⟨tg, iter, ifs, 0⟩] scope pos) (ds.filterMap f) := fun H1 s1 Q q =>
  ⟨_, pe_lc (own := own) hc hN (pi_tup re_) ok (fun _ _ _ _ _ => bg_) (fun _ _ _ _ _ => bt_) (fun _ _ _ _ _ => be_) hs, hit H1 s1 _ fun v H2 s2 hv => by
    obtain ⟨a, xs, rfl, ha, hx⟩ := dp_tup hv
    have L2' : Live M H2 := L.mono (s1.trans s2)
    refine ⟨a, rfl, ⟨xs, same_seqT hid_le ha⟩, fun p hp => ?_⟩
    have hp0 : H p = none := (s1.trans s2).free hp
    refine lc_tup (xs := xs) (a := a) (fun i H' => Same H2 H' ∧ ∃ acc, H' p = some (.lst acc) ∧ DqAll X.K (hid (p :: M) H') acc ((ds.take i).filterMap f)) ⟨same_new hp, [], upd_same, by simpa using DqAll.nil⟩ (fun i H' _ w => same_seqT w.1 (same_seqT hid_le ha)) (fun i x H' hi w => ?_) (fun H' w => ?_)
    · obtain ⟨sH, acc, hacc, hda⟩ := w
      obtain ⟨d, hd1, hd2⟩ := dpa_get' hx hi
      have etake : ds.take (i + 1) = ds.take i ++ [d] := by rw [List.take_add_one, hd1]; rfl
      have hlen : acc.length < sizeLine := by
        rw [dpa_len hda]
        have h1 : ((ds.take i).filterMap f).length ≤ (ds.take i).length := List.length_filterMap_le ..
        have h2 : (ds.take i).length ≤ i := by rw [List.length_take]; omega
        have h3 : i < ds.length := (List.getElem?_eq_some_iff.mp hd1).1
        have h4 : 100000 < sizeLine := by decide
        omega
      have Lp : Live (p :: M) H' := fun b hb => by
        rcases List.mem_cons.mp hb with z | hb
        · subst z; rw [hacc]; simp
        · exact L2'.mono sH b hb
      refine bg_mono (hst p d x H' (List.mem_of_getElem? hd1) hp0 ((s1.trans s2).trans sH) Lp (hd2.up (hid_step hp sH))) fun σ2 Ha ⟨hw, hbt⟩ => ⟨hw, bt_mono hbt fun k Hb ⟨sb, hk⟩ => ?_⟩
      rcases hk with ⟨hk, d', hf, hbe⟩ | ⟨hk, hf⟩
      · subst hk
        refine iteT (be_mono hbe fun y Hc ⟨sc, hy⟩ => ?_)
        have sd := sb.trans sc
        refine ⟨acc, sd _ _ hacc, hlen, fun b o e => ?_, acc ++ [y], upd_same, ?_⟩
        · rw [upd_ne (ne_of_none e hp)]
          exact sd _ _ (sH _ _ e)
        · have eh : hid (p :: M) (upd Hc p (.lst (acc ++ [y]))) = hid (p :: M) Hc := hid_upd_mem (List.mem_cons_self ..)
          rw [eh, etake, List.filterMap_append]
          have e2 : [d].filterMap f = [d'] := by simp [hf]
          rw [e2]
          exact dpa_app (hda.up (hid_mono sd)) (.cons hy .nil)
      · subst hk
        refine iteF ⟨sH.trans sb, acc, sb _ _ hacc, ?_⟩
        rw [etake, List.filterMap_append]
        have e2 : [d].filterMap f = [] := by simp [hf]
        rw [e2, List.append_nil]
        exact hda.up (hid_mono sb)
    · obtain ⟨sH, acc, hacc, hda⟩ := w
      have e1 : ds.take xs.length = ds := by rw [dpa_len hx]; exact List.take_length
      rw [e1] at hda
      refine q p acc H' (s2.trans sH) (s2.free hp) hacc (hda.up fun b o e => ?_)
      have n1 : b ∉ p :: M := fun z => by unfold hid at e; rw [if_pos z] at e; cases e
      rw [hid_of (fun z => n1 (List.mem_cons_of_mem _ z))]
      exact hid_le _ _ e⟩
theorem rb_enum {elts : List Expr} {kk : Nat} {body : List Stmt} (hm : X.mg "enumerate" = none) (hit : XD X M σ H e (.list ds))
    (h : ∀ H1, Same H H1 → ∃ Pv : Nat → L2.St → Hp → Prop, Pv 0 σ H1 ∧ (∀ k σ' H', Pv k σ' H' → Same (hid M H1) (hid M H')) ∧
      (∀ k d, ds[k]? = some d → ∀ σ' H' T x, Pv k σ' H' → H' T = none → Dq X.K (hid M H') x d → RG X (.Tuple elts kk tpos) (.ref T) σ' (upd H' T (.tup [.int (k : Nat), x])) fun σ2 H2 => RB X body { D with nx := Pv (k + 1), ct := Pv (k + 1), bk := RB X rest D } σ2 H2) ∧ ∀ σ' H', Pv ds.length σ' H' → RB X rest D σ' H')
    (hg : Gl X "enumerate" := by rfl) (he : starEach [e] X.env = [(false, eval e X.env)] := by rfl) (hp : PassesOwn (model X.prog X.w) X.A X.env X.xe := by exact PassesOwn.never) (hc : X.calm = true := by rfl) (hs : ∀ x, foldedSetIterable (.Call (.Name "enumerate" p1) [e] [] p2) X.env x = pure x := by intro _; rfl) :
    RB X (.For (.Tuple elts kk tpos) (.Call (.Name "enumerate" p1) [e] [] p2) body [] pos :: rest) D σ H :=
  ⟨_, pss_cons (ps_for hp hc (pi_enum hg hm ra_ he) rg_ rb_ hs) rb_, ra_1 (hit H (Same.refl H) _ fun v H1 s1 hv => by
    obtain ⟨a, xs, rfl, ha, hx⟩ := dp_lst hv
    obtain ⟨Pv, h0, hk, hst, hd⟩ := h H1 s1
    have hlen := dpa_len hx
    refine ⟨a, xs, rfl, SqL.of (hid_le _ _ ha), fun i m σ' H' => m + i = xs.length ∧ Pv i σ' H', ⟨xs.length, rfl, h0⟩, fun i m σ' H' w => ?_⟩
    obtain ⟨hmi, hp⟩ := w
    have here : SqL X.K H' a xs := SqL.of (hid_le _ _ (hk i σ' H' hp _ _ ha))
    cases ex : xs[i]? with
    | none =>
      have hge : xs.length ≤ i := List.getElem?_eq_none_iff.mp ex
      have ei : i = ds.length := by omega
      subst ei
      exact .inl ⟨⟨xs, here, hge⟩, hd σ' H' hp⟩
    | some x0 =>
      have hlt := (List.getElem?_eq_some_iff.mp ex).1
      refine .inr ⟨⟨xs, x0, here, ex⟩, Pv (i + 1), fun σ2 H2 h2 => ⟨m - 1, by omega, by omega, h2⟩, fun v H2 hy => ?_⟩
      obtain ⟨T, x, rfl, hT, rfl, hx0⟩ := hy
      obtain ⟨d, hd1, hd2⟩ := dpa_get' hx (hx0 xs here)
      exact hst i d hd1 σ' H' T x hp hT (hd2.up (hk i σ' H' hp))) he⟩
def isN : PyData → Bool
  | .none => true
  | _ => false
theorem dec_non {K : PySem.W.Frag} {H : Hp} {v : V} {d : PyData} (h : Dq K H v d) : decide (v = V.non) = isN d := by
  cases h <;> first | exact decide_eq_true rfl | exact decide_eq_false (fun z => V.noConfusion z)
theorem xd_isNone {j} (ha : XD X M σ H a d) (hm : behindInMarks .Is (.Constant .none j p1) = false := by rfl) : XD X M σ H (.Compare a [.Is] [.Constant .none j p1] pos) (.bool (isN d)) :=
  xd_cmp op_isN ha xd_non (fun H1 v w s hv hw Q q => ⟨dp_non hw, by rw [dec_non hv]; exact q _ H1 (Same.refl _) (.bl _)⟩) hm
theorem xt_isNone {j} (ha : XD X M σ H a d) (hm : behindInMarks .Is (.Constant .none j p1) = false := by rfl) : XT X σ H (.Compare a [.Is] [.Constant .none j p1] pos) (isN d) :=
  xt_cmp op_isN ha (xd_non (M := M)) (fun H1 v w s hv hw Q q => ⟨dp_non hw, by rw [dec_non hv]; exact q H1 (Same.refl _)⟩) hm
end
end Dl

set_option Elab.async false
set_option linter.all false
/-! k15: bounds on differences, the mathematics: values or a ring; the tightest bound -/
namespace Bf
variable {α : Type} [DecidableEq α]
/-- x minus y at most n -/
abbrev Bd (α : Type) := α × α × Int
def up {β : Type} (f : α → β) (x : α) (v : β) : α → β := fun z => if z = x then v else f z
def ins (L : List α) (x : α) : List α := if x ∈ L then L else L ++ [x]
theorem up_same {β : Type} {f : α → β} {x : α} {v : β} : up f x v x = v := if_pos rfl
theorem up_ne {β : Type} {f : α → β} {x z : α} {v : β} (h : z ≠ x) : up f x v z = f z := if_neg h
theorem mem_ins {L : List α} {x z : α} : z ∈ ins L x ↔ z ∈ L ∨ z = x := by
  unfold ins
  split
  · rename_i h
    constructor
    · exact fun z => .inl z
    · rintro (z | rfl)
      · exact z
      · exact h
  · simp
theorem nodup_ins {L : List α} {x : α} (h : L.Nodup) : (ins L x).Nodup := by
  unfold ins
  split
  · exact h
  · rename_i n
    rw [List.nodup_append]
    refine ⟨h, by simp, fun a ha b hb => ?_⟩
    rw [List.mem_singleton] at hb
    subst hb
    exact fun e => n (e ▸ ha)
def Holds (bs : List (Bd α)) (h : α → Int) : Prop := ∀ b ∈ bs, h b.1 - h b.2.1 ≤ b.2.2
structure S (α : Type) where
  w : α → Int
  L : List α
  p : α → Nat
  last : Option α
def step (s : S α) (i : Nat) (b : Bd α) : S α := if s.w b.1 - s.w b.2.1 > b.2.2 then ⟨up s.w b.1 (s.w b.2.1 + b.2.2), ins s.L b.1, up s.p b.1 i, some b.1⟩ else s
def go : Nat → List (Bd α) → S α → S α
  | _, [], s => s
  | i, b :: t, s => go (i + 1) t (step s i b)
def pass (bs : List (Bd α)) (s : S α) : S α := go 0 bs { s with last := none }
theorem go_snoc : ∀ (i : Nat) (t : List (Bd α)) (b : Bd α) (s : S α), go i (t ++ [b]) s = step (go i t s) (i + t.length) b
  | i, [], b, s => rfl
  | i, c :: t, b, s => by
    show go (i + 1) (t ++ [b]) (step s i c) = _
    rw [go_snoc (i + 1) t b, List.length_cons]
    have e : i + 1 + t.length = i + (t.length + 1) := by omega
    rw [e]
    rfl
/-! nothing lowered -/
theorem step_some {s : S α} {i : Nat} {b : Bd α} (h : (step s i b).last = none) : step s i b = s ∧ s.w b.1 - s.w b.2.1 ≤ b.2.2 := by
  unfold step at h ⊢
  split
  · rename_i c
    rw [if_pos c] at h
    cases h
  · rename_i c
    exact ⟨rfl, by omega⟩
theorem go_none : ∀ (t : List (Bd α)) (i : Nat) (s : S α), (go i t s).last = none → go i t s = s ∧ Holds t s.w
  | [], _, s, _ => ⟨rfl, fun b hb => by cases hb⟩
  | b :: t, i, s, h => by
    obtain ⟨e1, h1⟩ := go_none t (i + 1) (step s i b) h
    have h2 : (step s i b).last = none := by rw [← e1]; exact h
    obtain ⟨e3, h3⟩ := step_some h2
    refine ⟨?_, fun c hc => ?_⟩
    · show go (i + 1) t (step s i b) = s
      rw [e1, e3]
    · rcases List.mem_cons.mp hc with e | hc
      · rw [e]; exact h3
      · have := h1 c hc
        rw [e3] at this
        exact this
theorem pass_none {bs : List (Bd α)} {s : S α} (h : (pass bs s).last = none) : Holds bs (pass bs s).w := by
  obtain ⟨e, hh⟩ := go_none bs 0 _ h
  unfold pass
  rw [e]
  exact hh
/-! values only go down -/
theorem step_le (s : S α) (i : Nat) (b : Bd α) (z : α) : (step s i b).w z ≤ s.w z := by
  unfold step
  split
  · rename_i c
    show up s.w b.1 _ z ≤ _
    by_cases e : z = b.1
    · rw [e, up_same]; omega
    · rw [up_ne e]; exact Int.le_refl _
  · exact Int.le_refl _
theorem go_le : ∀ (t : List (Bd α)) (i : Nat) (s : S α) (z : α), (go i t s).w z ≤ s.w z
  | [], _, _, _ => Int.le_refl _
  | b :: t, i, s, z => Int.le_trans (go_le t (i + 1) _ z) (step_le s i b z)
theorem step_at (s : S α) (i : Nat) (b : Bd α) : (step s i b).w b.1 ≤ s.w b.2.1 + b.2.2 := by
  unfold step
  split
  · show up s.w b.1 _ b.1 ≤ _
    rw [up_same]; exact Int.le_refl _
  · omega
theorem go_at : ∀ (t : List (Bd α)) (i : Nat) (s : S α) (b : Bd α), b ∈ t → (go i t s).w b.1 ≤ s.w b.2.1 + b.2.2
  | c :: t, i, s, b, h => by
    rcases List.mem_cons.mp h with e | h
    · rw [e]
      exact Int.le_trans (go_le t (i + 1) _ _) (step_at s i c)
    · have h1 := go_at t (i + 1) (step s i c) b h
      have h2 := step_le s i c b.2.1
      show (go (i + 1) t (step s i c)).w b.1 ≤ _
      omega
theorem go_last : ∀ (t : List (Bd α)) (i : Nat) (s : S α) (z : α), (go i t s).last = some z → s.last = some z ∨ (go i t s).w z < s.w z ∧ z ∈ (go i t s).L
  | [], _, _, _, h => .inl h
  | b :: t, i, s, z, h => by
    rcases go_last t (i + 1) (step s i b) z h with h1 | ⟨h1, h2⟩
    · by_cases c : s.w b.1 - s.w b.2.1 > b.2.2
      · have e : step s i b = ⟨up s.w b.1 (s.w b.2.1 + b.2.2), ins s.L b.1, up s.p b.1 i, some b.1⟩ := if_pos c
        rw [e] at h1
        have ez : b.1 = z := Option.some.inj h1
        refine .inr ⟨?_, ?_⟩
        · have h3 := go_le t (i + 1) (step s i b) z
          have h4 : (step s i b).w z = s.w b.2.1 + b.2.2 := by rw [e, ← ez]; exact up_same
          show (go (i + 1) t (step s i b)).w z < _
          rw [← ez] at h3 h4 ⊢
          omega
        · have hk : ∀ (t : List (Bd α)) (i : Nat) (s : S α) (z : α), z ∈ s.L → z ∈ (go i t s).L := by
            intro t
            induction t with
            | nil => intro _ _ _ h; exact h
            | cons c t ih =>
              intro i s z h
              refine ih (i + 1) _ z ?_
              unfold step
              split
              · exact mem_ins.mpr (.inl h)
              · exact h
          refine hk t (i + 1) (step s i b) z ?_
          rw [e]
          exact mem_ins.mpr (.inr ez.symm)
      · have e : step s i b = s := if_neg c
        rw [e] at h1
        exact .inl h1
    · refine .inr ⟨?_, h2⟩
      have := step_le s i b z
      show (go (i + 1) t (step s i b)).w z < _
      omega
theorem pass_last {bs : List (Bd α)} {s : S α} {z : α} (h : (pass bs s).last = some z) : (pass bs s).w z < s.w z ∧ z ∈ (pass bs s).L := by
  rcases go_last bs 0 { s with last := none } z h with h | h
  · cases h
  · exact h
/-! chains -/
inductive Ch (bs : List (Bd α)) : Nat → α → Int → Prop
  | nil (x : α) : Ch bs 0 x 0
  | cons {b : Bd α} {k : Nat} {v : Int} : b ∈ bs → Ch bs k b.2.1 v → Ch bs (k + 1) b.1 (v + b.2.2)
def Low (bs : List (Bd α)) (k : Nat) (w : α → Int) : Prop := ∀ j, j ≤ k → ∀ x v, Ch bs j x v → w x ≤ v
theorem low_pass {bs : List (Bd α)} {k : Nat} {s : S α} (h : Low bs k s.w) : Low bs (k + 1) (pass bs s).w := fun j hj x v c => by
  cases c with
  | nil => exact Int.le_trans (go_le bs 0 _ x) (h 0 (Nat.zero_le _) x 0 (.nil x))
  | @cons b k' v' hb c =>
    have h1 := go_at bs 0 { s with last := none } b hb
    have h2 := h k' (by omega) _ _ c
    show (go 0 bs { s with last := none }).w b.1 ≤ _
    have h3 : ({ s with last := none } : S α).w b.2.1 = s.w b.2.1 := rfl
    rw [h3] at h1
    omega
/-! what lowered what -/
structure Inv (bs : List (Bd α)) (N : List α) (τ : α → Nat) (T : Nat) (s : S α) : Prop where
  a1 : ∀ x ∈ s.L, ∃ b, bs[s.p x]? = some b ∧ b.1 = x ∧ s.w b.2.1 + b.2.2 ≤ s.w x ∧ (τ x ≤ τ b.2.1 → s.w b.2.1 + b.2.2 < s.w x)
  a2 : ∀ x, x ∉ s.L → s.w x = 0
  a3 : ∀ x, τ x < T
  a4 : ∀ x ∈ s.L, x ∈ N
  a5 : s.L.Nodup
theorem Inv.step {bs : List (Bd α)} {N : List α} {τ : α → Nat} {T i : Nat} {s : S α} {b : Bd α} (h : Inv bs N τ T s) (hi : bs[i]? = some b) (hN : b.1 ∈ N) : ∃ τ T, Inv bs N τ T (step s i b) := by
  unfold Bf.step
  split
  · rename_i c
    refine ⟨up τ b.1 T, T + 1, fun x hx => ?_, fun x hx => ?_, fun x => ?_, fun x hx => ?_, nodup_ins h.a5⟩
    · by_cases e : x = b.1
      · subst e
        refine ⟨b, by show bs[up s.p b.1 i b.1]? = _; rw [up_same]; exact hi, rfl, ?_, ?_⟩
        · show up s.w b.1 _ b.2.1 + b.2.2 ≤ up s.w b.1 _ b.1
          rw [up_same]
          by_cases e : b.2.1 = b.1
          · rw [e, up_same]; rw [e] at c; omega
          · rw [up_ne e]; exact Int.le_refl _
        · show up τ b.1 T b.1 ≤ up τ b.1 T b.2.1 → up s.w b.1 _ b.2.1 + b.2.2 < up s.w b.1 _ b.1
          rw [up_same, up_same]
          by_cases e : b.2.1 = b.1
          · rw [e, up_same, up_same]; rw [e] at c; omega
          · rw [up_ne e, up_ne e]
            have := h.a3 b.2.1
            omega
      · have hx' : x ∈ s.L := (mem_ins.mp hx).resolve_right e
        obtain ⟨d, hd, ed, h1, h2⟩ := h.a1 x hx'
        refine ⟨d, by show bs[up s.p b.1 i x]? = _; rw [up_ne e]; exact hd, ed, ?_, ?_⟩
        · show up s.w b.1 _ d.2.1 + d.2.2 ≤ up s.w b.1 _ x
          rw [up_ne e]
          by_cases e2 : d.2.1 = b.1
          · rw [e2, up_same]; rw [e2] at h1; omega
          · rw [up_ne e2]; exact h1
        · show up τ b.1 T x ≤ up τ b.1 T d.2.1 → up s.w b.1 _ d.2.1 + d.2.2 < up s.w b.1 _ x
          rw [up_ne e, up_ne e]
          by_cases e2 : d.2.1 = b.1
          · rw [e2, up_same, up_same]; rw [e2] at h1; omega
          · rw [up_ne e2, up_ne e2]; exact h2
    · have n : x ≠ b.1 := fun e => hx (mem_ins.mpr (.inr e))
      show up s.w b.1 _ x = 0
      rw [up_ne n]
      exact h.a2 x fun z => hx (mem_ins.mpr (.inl z))
    · by_cases e : x = b.1
      · rw [e, up_same]; exact Nat.lt_succ_self _
      · rw [up_ne e]; exact Nat.lt_succ_of_lt (h.a3 x)
    · rcases mem_ins.mp hx with z | z
      · exact h.a4 x z
      · rw [z]; exact hN
  · exact ⟨τ, T, h⟩
theorem Inv.go {bs : List (Bd α)} {N : List α} (hN : ∀ b ∈ bs, b.1 ∈ N) : ∀ (t : List (Bd α)) (i : Nat) (s : S α), (∀ j, t[j]? = bs[i + j]?) → (∃ τ T, Inv bs N τ T s) → ∃ τ T, Inv bs N τ T (go i t s)
  | [], _, _, _, h => h
  | b :: t, i, s, ht, ⟨τ, T, h⟩ => by
    have hb : bs[i]? = some b := by have := ht 0; simpa using this.symm
    refine Inv.go hN t (i + 1) (Bf.step s i b) (fun j => ?_) (h.step hb (hN b (List.mem_of_getElem? hb)))
    have := ht (j + 1)
    rw [List.getElem?_cons_succ] at this
    rw [this]
    congr 1
    omega
theorem inv_pass {bs : List (Bd α)} {N : List α} (hN : ∀ b ∈ bs, b.1 ∈ N) {s : S α} (h : ∃ τ T, Inv bs N τ T s) : ∃ τ T, Inv bs N τ T (pass bs s) := by
  obtain ⟨τ, T, h⟩ := h
  exact Inv.go hN bs 0 _ (fun j => by rw [Nat.zero_add]) ⟨τ, T, ⟨h.a1, h.a2, h.a3, h.a4, h.a5⟩⟩
/-! going to the second name -/
def it (f : α → α) : Nat → α → α
  | 0, x => x
  | k + 1, x => it f k (f x)
theorem it_add (f : α → α) : ∀ (j k : Nat) (x : α), it f (j + k) x = it f k (it f j x)
  | 0, k, x => by rw [Nat.zero_add]; rfl
  | j + 1, k, x => by
    rw [show j + 1 + k = (j + k) + 1 by omega]
    show it f (j + k) (f x) = it f k (it f j (f x))
    exact it_add f j k (f x)
theorem it_succ (f : α → α) (k : Nat) (x : α) : it f (k + 1) x = f (it f k x) := it_add f k 1 x
def bd (bs : List (Bd α)) (s : S α) (x : α) : Bd α := (bs[s.p x]?).getD (x, x, 0)
def nx (bs : List (Bd α)) (s : S α) (x : α) : α := (bd bs s x).2.1
def cost (bs : List (Bd α)) (s : S α) (x : α) : Int := (bd bs s x).2.2
theorem Inv.at {bs : List (Bd α)} {N : List α} {τ : α → Nat} {T : Nat} {s : S α} (h : Inv bs N τ T s) {x : α} (hx : x ∈ s.L) : bs[s.p x]? = some (bd bs s x) ∧ (bd bs s x).1 = x ∧ s.w (nx bs s x) + cost bs s x ≤ s.w x ∧ (τ x ≤ τ (nx bs s x) → s.w (nx bs s x) + cost bs s x < s.w x) := by
  obtain ⟨b, hb, e, h1, h2⟩ := h.a1 x hx
  have eb : bd bs s x = b := by unfold bd; rw [hb]; rfl
  unfold nx cost
  rw [eb]
  exact ⟨hb, e, h1, h2⟩
theorem nodup_len {xs ys : List α} (h : xs.Nodup) (s : ∀ x ∈ xs, x ∈ ys) : xs.length ≤ ys.length := by
  induction xs generalizing ys with
  | nil => exact Nat.zero_le _
  | cons x xs ih =>
    obtain ⟨h1, h2⟩ := List.nodup_cons.mp h
    have m := s x (List.mem_cons_self ..)
    have e := List.length_erase_of_mem m
    have p := List.length_pos_of_mem m
    have r := ih (ys := ys.erase x) h2 fun y hy => (List.mem_erase_of_ne (fun z => h1 (by rw [← z]; exact hy))).mpr (s y (List.mem_cons_of_mem _ hy))
    rw [List.length_cons]
    omega
theorem twice (f : Nat → α) (N : List α) : ∀ m : Nat, (∀ k, k ≤ m → f k ∈ N) → N.length ≤ m → ∃ i j, i < j ∧ j ≤ m ∧ f i = f j := by
  intro m hm hl
  apply Classical.byContradiction
  intro n
  have inj : ∀ i j, i ≤ m → j ≤ m → f i = f j → i = j := fun i j hi hj e => by
    rcases Nat.lt_trichotomy i j with l | l | l
    · exact absurd ⟨i, j, l, hj, e⟩ n
    · exact l
    · exact absurd ⟨j, i, l, hi, e.symm⟩ n
  have nd : ∀ k, k ≤ m + 1 → ((List.range k).map f).Nodup := by
    intro k
    induction k with
    | zero => intro _; exact List.nodup_nil
    | succ k ih =>
      intro hk
      rw [List.range_succ, List.map_append, List.nodup_append]
      refine ⟨ih (by omega), by simp, fun a ha b hb => ?_⟩
      obtain ⟨i, hi, ea⟩ := List.mem_map.mp ha
      rw [List.map_singleton, List.mem_singleton] at hb
      rw [← ea, hb]
      intro e
      have := inj i k (by have := List.mem_range.mp hi; omega) (by omega) e
      have := List.mem_range.mp hi
      omega
  have := nodup_len (nd (m + 1) (Nat.le_refl _)) (ys := N) fun x hx => by
    obtain ⟨i, hi, e⟩ := List.mem_map.mp hx
    rw [← e]
    exact hm i (by have := List.mem_range.mp hi; omega)
  rw [List.length_map, List.length_range] at this
  omega
/-- along a chain of what lowered -/
theorem along {bs : List (Bd α)} {N : List α} {τ : α → Nat} {T : Nat} {s : S α} (h : Inv bs N τ T s) : ∀ (k : Nat) (x : α), (∀ j, j < k → it (nx bs s) j x ∈ s.L) → ∃ v, Ch bs k x v ∧ s.w (it (nx bs s) k x) + v ≤ s.w x
  | 0, x, _ => ⟨0, .nil x, by show s.w x + 0 ≤ _; omega⟩
  | k + 1, x, hj => by
    have hx : x ∈ s.L := hj 0 (Nat.succ_pos _)
    obtain ⟨h1, h2, h3, _⟩ := h.at hx
    obtain ⟨v, c, hv⟩ := along h k (nx bs s x) fun j hj' => hj (j + 1) (by omega)
    refine ⟨v + cost bs s x, ?_, ?_⟩
    · have := Ch.cons (List.mem_of_getElem? h1) c
      rw [h2] at this
      exact this
    · show s.w (it (nx bs s) k (nx bs s x)) + (v + cost bs s x) ≤ _
      omega
/-- what is lowered in the last round leads on for ever -/
theorem onward {bs : List (Bd α)} {N : List α} {s0 : S α} {z : α} (hN1 : ∀ b ∈ bs, b.1 ∈ N) (hN2 : ∀ b ∈ bs, b.2.1 ∈ N) (hlow : Low bs (N.length - 1) s0.w) (h : ∃ τ T, Inv bs N τ T (pass bs s0)) (hz : (pass bs s0).last = some z) : ∀ k, it (nx bs (pass bs s0)) k z ∈ (pass bs s0).L := by
  obtain ⟨τ, T, h⟩ := h
  obtain ⟨hs, hzL⟩ := pass_last hz
  generalize hs1 : pass bs s0 = s at *
  intro k
  induction k using Nat.strongRecOn with
  | ind k ih =>
    cases k with
    | zero => exact hzL
    | succ k =>
      apply Classical.byContradiction
      intro n
      have inN : ∀ j, j ≤ k + 1 → it (nx bs s) j z ∈ N := fun j hj => by
        cases j with
        | zero => exact h.a4 _ hzL
        | succ j =>
          have hx := ih j (by omega)
          obtain ⟨h1, _⟩ := h.at hx
          rw [it_succ]
          exact hN2 _ (List.mem_of_getElem? h1)
      by_cases hl : N.length ≤ k + 1
      · obtain ⟨i, j, hij, hj, e⟩ := twice (fun j => it (nx bs s) j z) N (k + 1) inN hl
        have e' : it (nx bs s) i z = it (nx bs s) j z := e
        have e2 : it (nx bs s) (k + 1) z = it (nx bs s) (i + (k + 1 - j)) z := by
          have q : k + 1 = j + (k + 1 - j) := by omega
          rw [it_add _ i, e', ← it_add, ← q]
        exact n (by rw [e2]; exact ih _ (by omega))
      · obtain ⟨v, c, hv⟩ := along h (k + 1) z fun j hj => ih j hj
        have h0 := h.a2 _ n
        have h1 := hlow (k + 1) (by omega) _ _ c
        omega
/-- the round way -/
theorem round {f : α → α} {L : List α} {z : α} (h : ∀ k, it f k z ∈ L) : ∃ t, 1 ≤ t ∧ t ≤ L.length ∧ it f t (it f L.length z) = it f L.length z := by
  obtain ⟨i, j, hij, hj, e⟩ := twice (fun j => it f j z) L L.length (fun k _ => h k) (Nat.le_refl _)
  refine ⟨j - i, by omega, by omega, ?_⟩
  have e' : it f i z = it f j z := e
  rw [← it_add]
  have q : L.length + (j - i) = j + (L.length - i) := by omega
  rw [q, it_add, ← e', ← it_add]
  congr 1
  omega
def sumTo (g : Nat → Int) : Nat → Int
  | 0 => 0
  | t + 1 => sumTo g t + g t
theorem round_sum {bs : List (Bd α)} {N : List α} {τ : α → Nat} {T : Nat} {s : S α} (h : Inv bs N τ T s) {c : α} (hc : ∀ k, it (nx bs s) k c ∈ s.L) : ∀ t : Nat, (s.w (it (nx bs s) t c) + sumTo (fun i => cost bs s (it (nx bs s) i c)) t < s.w c) ∨ (τ (it (nx bs s) t c) + t ≤ τ c ∧ s.w (it (nx bs s) t c) + sumTo (fun i => cost bs s (it (nx bs s) i c)) t ≤ s.w c)
  | 0 => .inr ⟨Nat.le_refl _, by show s.w c + 0 ≤ _; omega⟩
  | t + 1 => by
    obtain ⟨_, _, h3, h4⟩ := h.at (hc t)
    have ih := round_sum h hc t
    rw [it_succ]
    show (s.w _ + (sumTo _ t + cost bs s _) < _) ∨ (_ ∧ s.w _ + (sumTo _ t + cost bs s _) ≤ _)
    by_cases q : τ (it (nx bs s) t c) ≤ τ (nx bs s (it (nx bs s) t c))
    · have := h4 q
      refine .inl ?_
      rcases ih with ih | ⟨_, ih⟩ <;> omega
    · rcases ih with ih | ⟨ih1, ih2⟩
      · exact .inl (by omega)
      · exact .inr ⟨by omega, by omega⟩
theorem round_neg {bs : List (Bd α)} {N : List α} {s : S α} (h : ∃ τ T, Inv bs N τ T s) {c : α} (hc : ∀ k, it (nx bs s) k c ∈ s.L) {t : Nat} (h1 : 1 ≤ t) (ht : it (nx bs s) t c = c) : sumTo (fun i => cost bs s (it (nx bs s) i c)) t < 0 := by
  obtain ⟨τ, T, h⟩ := h
  have := round_sum h hc t
  rw [ht] at this
  rcases this with q | ⟨q, _⟩ <;> omega
theorem round_holds {bs : List (Bd α)} {N : List α} {s : S α} (h : ∃ τ T, Inv bs N τ T s) {c : α} (hc : ∀ k, it (nx bs s) k c ∈ s.L) {g : α → Int} (hg : Holds bs g) : ∀ t : Nat, g c ≤ g (it (nx bs s) t c) + sumTo (fun i => cost bs s (it (nx bs s) i c)) t
  | 0 => by show g c ≤ g c + 0; omega
  | t + 1 => by
    have ih := round_holds h hc hg t
    obtain ⟨τ, T, h'⟩ := h
    obtain ⟨h1, h2, _⟩ := h'.at (hc t)
    have h5 := hg _ (List.mem_of_getElem? h1)
    rw [it_succ]
    rw [h2] at h5
    show g c ≤ g (nx bs s _) + (sumTo _ t + cost bs s _)
    unfold nx cost at *
    omega
/-! the tightest -/
structure G (α : Type) where
  ks : List α
  f : α → Int
  ch : Bool
def gstep (s : G α) (b : Bd α) : G α := if b.2.1 ∈ s.ks ∧ (b.1 ∉ s.ks ∨ s.f b.2.1 + b.2.2 < s.f b.1) then ⟨ins s.ks b.1, up s.f b.1 (s.f b.2.1 + b.2.2), true⟩ else s
def gpass (bs : List (Bd α)) (s : G α) : G α := bs.foldl gstep { s with ch := false }
structure GI (bs : List (Bd α)) (N : List α) (a : α) (s : G α) : Prop where
  b1 : s.ks.Nodup
  b2 : ∀ x ∈ s.ks, x ∈ N
  b3 : ∀ h, Holds bs h → ∀ x ∈ s.ks, h x - h a ≤ s.f x
  b4 : a ∈ s.ks
  b5 : s.f a ≤ 0
theorem GI.step {bs : List (Bd α)} {N : List α} {a : α} {s : G α} {b : Bd α} (h : GI bs N a s) (hb : b ∈ bs) (hN : b.1 ∈ N) : GI bs N a (gstep s b) := by
  unfold gstep
  split
  · rename_i c
    refine ⟨nodup_ins h.b1, fun x hx => ?_, fun g hg x hx => ?_, mem_ins.mpr (.inl h.b4), ?_⟩
    · rcases mem_ins.mp hx with z | z
      · exact h.b2 x z
      · rw [z]; exact hN
    · show _ ≤ up s.f b.1 _ x
      by_cases e : x = b.1
      · rw [e, up_same]
        have h1 := hg b hb
        have h2 := h.b3 g hg _ c.1
        omega
      · rw [up_ne e]
        exact h.b3 g hg x ((mem_ins.mp hx).resolve_right e)
    · show up s.f b.1 _ a ≤ 0
      by_cases e : a = b.1
      · rw [e, up_same]
        have := h.b5
        rcases c.2 with z | z
        · exact absurd (e ▸ h.b4) z
        · rw [← e] at z; omega
      · rw [up_ne e]; exact h.b5
  · exact h
theorem GI.fold {bs : List (Bd α)} {N : List α} {a : α} (hN : ∀ b ∈ bs, b.1 ∈ N) : ∀ (t : List (Bd α)) (s : G α), (∀ b ∈ t, b ∈ bs) → GI bs N a s → GI bs N a (t.foldl gstep s)
  | [], _, _, h => h
  | b :: t, s, ht, h => GI.fold hN t (gstep s b) (fun c hc => ht c (List.mem_cons_of_mem _ hc)) (h.step (ht b (List.mem_cons_self ..)) (hN b (ht b (List.mem_cons_self ..))))
theorem GI.pass {bs : List (Bd α)} {N : List α} {a : α} {s : G α} (hN : ∀ b ∈ bs, b.1 ∈ N) (h : GI bs N a s) : GI bs N a (gpass bs s) := GI.fold hN bs _ (fun _ hb => hb) ⟨h.b1, h.b2, h.b3, h.b4, h.b5⟩
/-- how far it is to the end: names to come, what the values can still fall -/
def room (N : List α) (s : G α) : Nat := N.length - s.ks.length
def fall (g : α → Int) (a : α) (f : α → Int) : List α → Nat
  | [] => 0
  | x :: t => (f x - (g x - g a)).toNat + fall g a f t
theorem fall_up {g : α → Int} {a x : α} {f : α → Int} {v : Int} : ∀ {l : List α}, x ∉ l → fall g a (up f x v) l = fall g a f l
  | [], _ => rfl
  | y :: t, h => by
    have n : y ≠ x := fun e => h (by rw [e]; exact List.mem_cons_self ..)
    show (up f x v y - _).toNat + fall g a (up f x v) t = (f y - _).toNat + fall g a f t
    rw [up_ne n, fall_up fun z => h (List.mem_cons_of_mem _ z)]
theorem fall_lt {g : α → Int} {a x : α} {f : α → Int} {v : Int} (h1 : v < f x) (h2 : g x - g a ≤ v) : ∀ {l : List α}, l.Nodup → x ∈ l → fall g a (up f x v) l < fall g a f l
  | y :: t, nd, hx => by
    obtain ⟨n1, n2⟩ := List.nodup_cons.mp nd
    show (up f x v y - _).toNat + fall g a (up f x v) t < (f y - _).toNat + fall g a f t
    by_cases e : y = x
    · subst e
      rw [up_same, fall_up n1]
      omega
    · rw [up_ne e]
      have := fall_lt (f := f) h1 h2 n2 ((List.mem_cons.mp hx).resolve_left (fun z => e z.symm))
      omega
/-- one step: nothing, or less room, or the same room and less to fall -/
theorem step_less {bs : List (Bd α)} {N : List α} {a : α} {s : G α} {b : Bd α} {g : α → Int} (hg : Holds bs g) (h : GI bs N a s) (hb : b ∈ bs) (hN : b.1 ∈ N) : gstep s b = s ∨ (room N (gstep s b) < room N s) ∨ (room N (gstep s b) = room N s ∧ fall g a (gstep s b).f (gstep s b).ks < fall g a s.f s.ks) := by
  have h' := h.step hb hN
  unfold gstep at h' ⊢
  split
  · rename_i c
    rw [if_pos c] at h'
    by_cases m : b.1 ∈ s.ks
    · right; right
      have e : ins s.ks b.1 = s.ks := if_pos m
      show room N ⟨ins s.ks b.1, _, _⟩ = _ ∧ fall g a (up s.f b.1 _) (ins s.ks b.1) < _
      rw [e]
      refine ⟨rfl, fall_lt (c.2.resolve_left (fun z => z m)) ?_ h.b1 m⟩
      have h1 := hg b hb
      have h2 := h.b3 g hg _ c.1
      omega
    · right; left
      have e : ins s.ks b.1 = s.ks ++ [b.1] := if_neg m
      have l := nodup_len h'.b1 h'.b2
      show N.length - (ins s.ks b.1).length < N.length - s.ks.length
      have l2 : (ins s.ks b.1).length = s.ks.length + 1 := by rw [e]; simp
      have l3 : (ins s.ks b.1).length ≤ N.length := l
      omega
  · exact .inl rfl
theorem fold_less {bs : List (Bd α)} {N : List α} {a : α} {g : α → Int} (hg : Holds bs g) (hN : ∀ b ∈ bs, b.1 ∈ N) : ∀ (t : List (Bd α)) (s : G α), (∀ b ∈ t, b ∈ bs) → GI bs N a s → t.foldl gstep s = s ∨ (room N (t.foldl gstep s) < room N s) ∨ (room N (t.foldl gstep s) = room N s ∧ fall g a (t.foldl gstep s).f (t.foldl gstep s).ks < fall g a s.f s.ks)
  | [], _, _, _ => .inl rfl
  | b :: t, s, ht, h => by
    have hb := ht b (List.mem_cons_self ..)
    have h1 := step_less hg h hb (hN b hb)
    have h2 := fold_less hg hN t (gstep s b) (fun c hc => ht c (List.mem_cons_of_mem _ hc)) (h.step hb (hN b hb))
    show t.foldl gstep (gstep s b) = s ∨ _ < _ ∨ _ = _ ∧ _ < _
    rw [List.foldl_cons]
    rcases h1 with e | h1
    · rw [e] at h2 ⊢; exact h2
    · right
      rcases h2 with e | h2
      · rw [e]; exact h1
      · rcases h1 with h1 | ⟨h1, h1'⟩ <;> rcases h2 with h2 | ⟨h2, h2'⟩
        · exact .inl (by omega)
        · exact .inl (by omega)
        · exact .inl (by omega)
        · exact .inr ⟨by omega, by omega⟩
theorem gstep_ch (s : G α) (b : Bd α) : (gstep s b).ch = false → gstep s b = s ∧ s.ch = false ∧ ¬ (b.2.1 ∈ s.ks ∧ (b.1 ∉ s.ks ∨ s.f b.2.1 + b.2.2 < s.f b.1)) := by
  unfold gstep
  split
  · intro z; cases z
  · rename_i c; intro z; exact ⟨rfl, z, c⟩
theorem fold_ch : ∀ (t : List (Bd α)) (s : G α), (t.foldl gstep s).ch = false → t.foldl gstep s = s ∧ ∀ b ∈ t, ¬ (b.2.1 ∈ s.ks ∧ (b.1 ∉ s.ks ∨ s.f b.2.1 + b.2.2 < s.f b.1))
  | [], _, _ => ⟨rfl, fun _ hb => by cases hb⟩
  | b :: t, s, h => by
    obtain ⟨e1, h1⟩ := fold_ch t (gstep s b) h
    have h2 : (gstep s b).ch = false := by rw [← e1]; exact h
    obtain ⟨e2, _, h3⟩ := gstep_ch s b h2
    refine ⟨by rw [List.foldl_cons, e1, e2], fun c hc => ?_⟩
    rcases List.mem_cons.mp hc with e | hc
    · rw [e]; exact h3
    · have := h1 c hc
      rw [e2] at this
      exact this
def gpasses (bs : List (Bd α)) : Nat → G α → G α
  | 0, s => s
  | k + 1, s => gpasses bs k (gpass bs s)
theorem gpasses_succ (bs : List (Bd α)) : ∀ (k : Nat) (s : G α), gpasses bs (k + 1) s = gpass bs (gpasses bs k s)
  | 0, _ => rfl
  | k + 1, s => gpasses_succ bs k (gpass bs s)
/-- the rounds come to an end -/
theorem ends {bs : List (Bd α)} {N : List α} {a : α} {g : α → Int} (hg : Holds bs g) (hN : ∀ b ∈ bs, b.1 ∈ N) : ∀ (m n : Nat) (s : G α), room N s ≤ m → fall g a s.f s.ks ≤ n → GI bs N a s → ∃ k, (gpasses bs (k + 1) s).ch = false := by
  intro m
  induction m using Nat.strongRecOn with
  | ind m ihm =>
    intro n
    induction n using Nat.strongRecOn with
    | ind n ihn =>
      intro s hm hn h
      cases e : (gpass bs s).ch with
      | false => exact ⟨0, e⟩
      | true =>
        have h1 := fold_less hg hN bs { s with ch := false } (fun _ hb => hb) ⟨h.b1, h.b2, h.b3, h.b4, h.b5⟩
        have h2 := h.pass hN
        have key : ∃ k, (gpasses bs (k + 1) (gpass bs s)).ch = false := by
          rcases h1 with h1 | h1 | ⟨h1, h1'⟩
          · unfold gpass at e
            rw [h1] at e
            cases e
          · exact ihm (room N (gpass bs s)) (Nat.lt_of_lt_of_le h1 hm) _ (gpass bs s) (Nat.le_refl _) (Nat.le_refl _) h2
          · by_cases c : room N (gpass bs s) < m
            · exact ihm _ c _ (gpass bs s) (Nat.le_refl _) (Nat.le_refl _) h2
            · have h3 : room N (gpass bs s) = room N s := h1
              exact ihn (fall g a (gpass bs s).f (gpass bs s).ks) (Nat.lt_of_lt_of_le h1' hn) (gpass bs s) (by omega) (Nat.le_refl _) h2
        obtain ⟨k, hk⟩ := key
        exact ⟨k + 1, hk⟩
def Closed (bs : List (Bd α)) (s : G α) : Prop := ∀ b ∈ bs, b.2.1 ∈ s.ks → b.1 ∈ s.ks ∧ s.f b.1 ≤ s.f b.2.1 + b.2.2
theorem closed {bs : List (Bd α)} {s : G α} (h : (gpass bs s).ch = false) : Closed bs (gpass bs s) := fun b hb hy => by
  obtain ⟨e, h1⟩ := fold_ch bs { s with ch := false } h
  unfold gpass at hy ⊢
  rw [e] at hy ⊢
  have h2 := h1 b hb
  by_cases m : b.1 ∈ s.ks
  · refine ⟨m, ?_⟩
    have : ¬ s.f b.2.1 + b.2.2 < s.f b.1 := fun z => h2 ⟨hy, .inr z⟩
    show s.f b.1 ≤ s.f b.2.1 + b.2.2
    omega
  · exact absurd ⟨hy, .inl m⟩ h2
theorem f_name {bs : List (Bd α)} {N : List α} {a : α} {s : G α} {g : α → Int} (hg : Holds bs g) (h : GI bs N a s) : s.f a = 0 := by
  have := h.b3 g hg a h.b4
  have := h.b5
  omega
/-- an upper bound of finitely many numbers -/
theorem above : ∀ l : List Int, ∃ C, ∀ x ∈ l, x ≤ C
  | [] => ⟨0, fun _ h => by cases h⟩
  | x :: t => by
    obtain ⟨C, h⟩ := above t
    refine ⟨if x ≤ C then C else x, fun y hy => ?_⟩
    rcases List.mem_cons.mp hy with e | hy
    · subst e; split <;> omega
    · have := h y hy
      split <;> omega
/-- values by the tightest bounds, whatever is not bound as great as one likes -/
theorem extend {bs : List (Bd α)} {N : List α} {a : α} {s : G α} {g : α → Int} (hg : Holds bs g) (h : GI bs N a s) (hc : Closed bs s) (D : Int) (x : α) : ∃ v, Holds bs v ∧ v a = 0 ∧ (∀ z ∈ s.ks, v z = s.f z) ∧ (x ∉ s.ks → D ≤ v x) := by
  obtain ⟨C, hC⟩ := above ((D - g x) :: bs.map fun b => s.f b.1 - g b.2.1 - b.2.2)
  refine ⟨fun z => if z ∈ s.ks then s.f z else g z + C, fun b hb => ?_, ?_, fun z hz => if_pos hz, fun hx => ?_⟩
  · show (if b.1 ∈ s.ks then s.f b.1 else g b.1 + C) - (if b.2.1 ∈ s.ks then s.f b.2.1 else g b.2.1 + C) ≤ b.2.2
    by_cases m2 : b.2.1 ∈ s.ks
    · obtain ⟨m1, q⟩ := hc b hb m2
      rw [if_pos m1, if_pos m2]
      omega
    · rw [if_neg m2]
      have hb' := hg b hb
      by_cases m1 : b.1 ∈ s.ks
      · rw [if_pos m1]
        have := hC _ (List.mem_cons_of_mem _ (List.mem_map.mpr ⟨b, hb, rfl⟩))
        omega
      · rw [if_neg m1]; omega
  · show (if a ∈ s.ks then s.f a else _) = 0
    rw [if_pos h.b4, f_name hg h]
  · show D ≤ (if x ∈ s.ks then s.f x else g x + C)
    rw [if_neg hx]
    have := hC _ (List.mem_cons_self ..)
    omega
theorem holds_snoc {bs : List (Bd α)} {b : Bd α} {v : α → Int} : Holds (bs ++ [b]) v ↔ Holds bs v ∧ v b.1 - v b.2.1 ≤ b.2.2 := by
  unfold Holds
  constructor
  · intro h
    exact ⟨fun c hc => h c (List.mem_append_left _ hc), h b (List.mem_append_right _ (List.mem_singleton.mpr rfl))⟩
  · rintro ⟨h1, h2⟩ c hc
    rcases List.mem_append.mp hc with hc | hc
    · exact h1 c hc
    · rw [List.mem_singleton.mp hc]; exact h2
theorem tight_some {bs : List (Bd α)} {N : List α} {a x : α} {s : G α} {g : α → Int} (hg : Holds bs g) (h : GI bs N a s) (hc : Closed bs s) (hx : x ∈ s.ks) : (∃ v, Holds (bs ++ [(a, x, 0 - s.f x)]) v) ∧ ¬ ∃ v, Holds (bs ++ [(a, x, 0 - s.f x - 1)]) v := by
  constructor
  · obtain ⟨v, h1, h2, h3, _⟩ := extend hg h hc 0 x
    refine ⟨v, holds_snoc.mpr ⟨h1, ?_⟩⟩
    show v a - v x ≤ 0 - s.f x
    rw [h2, h3 x hx]
    omega
  · rintro ⟨v, hv⟩
    obtain ⟨h1, h2⟩ := holds_snoc.mp hv
    have h3 := h.b3 v h1 x hx
    have h4 : v a - v x ≤ 0 - s.f x - 1 := h2
    omega
theorem tight_none {bs : List (Bd α)} {N : List α} {a x : α} {s : G α} {g : α → Int} (hg : Holds bs g) (h : GI bs N a s) (hc : Closed bs s) (hx : x ∉ s.ks) (D : Int) : ∃ v, Holds (bs ++ [(a, x, 0 - D)]) v := by
  obtain ⟨v, h1, h2, _, h4⟩ := extend hg h hc D x
  refine ⟨v, holds_snoc.mpr ⟨h1, ?_⟩⟩
  show v a - v x ≤ 0 - D
  have := h4 hx
  rw [h2]
  omega
end Bf

set_option Elab.async false
set_option linter.all false
set_option maxRecDepth 100000
set_option maxHeartbeats 4000000
/-! data layer: a sequence that is a list or a tuple; dicts with names as their keys -/
namespace Dl
open PySem PySem.Spec PyProof.Rows L2
/-- a tuple or a list -/
def sqD (k : Bool) (ds : List PyData) : PyData := if k then .tuple ds else .list ds
section
variable {X : Cx} {M : List Addr} {σ : L2.St} {H H' : Hp} {e a b c o i elt tg iter value : Expr} {es ifs tgs : List Expr} {scope : Scope} {own : List (Str × Nat)} {d d1 d2 : PyData} {ds ds2 : List PyData} {v : V} {pos p1 p2 p3 pos' tpos : Pos} {D : Ends} {rest : List Stmt} {k : Bool} {Q : VK} {x : Str}
theorem dq_seq {K : PySem.W.Frag} (h : Dq K H v (sqD k ds)) : ∃ p xs, v = .ref p ∧ DqAll K H xs ds ∧ (if k then SqT K H p xs else H p = some (.lst xs)) := by
  cases k with
  | true => obtain ⟨p, xs, h1, h2, h3⟩ := dp_tup h; exact ⟨p, xs, h1, h3, h2⟩
  | false => obtain ⟨p, xs, h1, h2, h3⟩ := dp_lst h; exact ⟨p, xs, h1, h3, h2⟩
theorem xd_lenQ (hm : X.mg "len" = none) (ha : XD X M σ H e (sqD k ds)) (hg : Gl X "len" := by rfl) (he : starEach [e] X.env = (false, eval e X.env) :: starEach [] X.env := by rfl) (hpl : (backTo pos (starEach [] X.env)).any (·.1) = false := by rfl) :
    XD X M σ H (.Call (.Name "len" p1) [e] [] pos) (.int ds.length) := by
  cases k with
  | true => exact xd_lenT hm ha hg he hpl
  | false => exact xd_len hm ha hg he hpl
theorem xd_ixQ {n : Int} (hs : PlainIx b) (ha : XD X M σ H a (sqD k ds)) (hb : XD X M σ H b (.int n)) (h : atI ds n = some d) : XD X M σ H (.Subscript a b pos) d := by
  cases k with
  | true => exact xd_ixT hs ha hb h
  | false => exact xd_ixL hs ha hb h
theorem rb_forQ {body : List Stmt} (hit : XD X M σ H e (sqD k ds))
    (h : ∀ H1, Same H H1 → ∃ Pv : Nat → L2.St → Hp → Prop, Pv 0 σ H1 ∧ (∀ k σ' H', Pv k σ' H' → Same (hid M H1) (hid M H')) ∧
      (∀ k d, ds[k]? = some d → ∀ σ' H' v, Pv k σ' H' → Dq X.K (hid M H') v d → RG X tg v σ' H' fun σ2 H2 => RB X body { D with nx := Pv (k + 1), ct := Pv (k + 1), bk := RB X rest D } σ2 H2) ∧ ∀ σ' H', Pv ds.length σ' H' → RB X rest D σ' H')
    (hp : PassesOwn (model X.prog X.w) X.A X.env X.xe := by exact PassesOwn.never) (hc : X.calm = true := by rfl) (hs : ∀ x, foldedSetIterable e X.env x = pure x := by intro _; rfl) : RB X (.For tg e body [] pos :: rest) D σ H := by
  cases k with
  | true => exact rb_forT hit h hp hc hs
  | false => exact rb_for hit h hp hc hs
/-- (a, b, ..) = such a sequence -/
theorem rg_Q {kk : Nat} {R : L2.St → Hp → Prop} (hv : Dq X.K (hid M H) v (sqD k ds)) (h : ∀ vs, DqAll X.K (hid M H) vs ds → RGs X tgs vs σ H R) (hc : X.calm = true := by rfl)
    (hn : (assignEach tgs X.env).length = ds.length := by rfl) (hst : (assignEach tgs X.env).findIdx? (·.1) = none := by rfl) : RG X (.Tuple tgs kk pos) v σ H R := by
  obtain ⟨p, xs, rfl, hx, hp⟩ := dq_seq hv
  have hl : (assignEach tgs X.env).length = xs.length := by rw [hn, dpa_len hx]
  cases k with
  | true => exact rg_tup (same_seqT hid_le hp) (h xs hx) hc hl hst
  | false => exact ⟨_, pg_unl (n := xs.length) hc rgs_ hl hst, p, xs, rfl, SqL.of (hid_le _ _ hp), rfl, h xs hx⟩
theorem xl_compQ (f : PyData → Option PyData) (L : Live M H) (hN : X.N.Nodup) (hit : XD X M σ H iter (sqD k ds)) (ok : BlkOk X.N X.env.scope scope own) (hz : ds.length ≤ 100000)
    (hst : ∀ p d v H1, d ∈ ds → H p = none → Same H H1 → Live (p :: M) H1 → Dq X.K (hid (p :: M) H1) v d → BG X scope tg v (wipe σ (own.map (·.2))) H1 fun σ2 H2 => wipe σ2 (own.map (·.2)) = wipe σ (own.map (·.2)) ∧ BT X scope ifs σ2 H2 fun k H3 =>
      Same H1 H3 ∧ ((k = true ∧ ∃ d', f d = some d' ∧ BE X scope elt σ2 H3 fun y H4 => Same H3 H4 ∧ Dq X.K (hid (p :: M) H4) y d') ∨ (k = false ∧ f d = none)))
    (hc : X.calm = true := by rfl) (hs : ∀ x, foldedSetIterable iter X.env x = pure x := by intro _; rfl) : XL X M σ H (.ListComp elt [⟨tg, iter, ifs, 0⟩] scope pos) (ds.filterMap f) := by
  cases k with
  | true => exact xl_compT f L hN hit ok hz hst hc hs
  | false => exact xl_comp f L hN hit ok hz hst hc hs
theorem rb_enumQ {elts : List Expr} {kk : Nat} {body : List Stmt} (hm : X.mg "enumerate" = none) (hit : XD X M σ H e (sqD k ds))
    (h : ∀ H1, Same H H1 → ∃ Pv : Nat → L2.St → Hp → Prop, Pv 0 σ H1 ∧ (∀ k σ' H', Pv k σ' H' → Same (hid M H1) (hid M H')) ∧
      (∀ k d, ds[k]? = some d → ∀ σ' H' T x, Pv k σ' H' → H' T = none → Dq X.K (hid M H') x d → RG X (.Tuple elts kk tpos) (.ref T) σ' (upd H' T (.tup [.int (k : Nat), x])) fun σ2 H2 => RB X body { D with nx := Pv (k + 1), ct := Pv (k + 1), bk := RB X rest D } σ2 H2) ∧ ∀ σ' H', Pv ds.length σ' H' → RB X rest D σ' H')
    (hg : Gl X "enumerate" := by rfl) (he : starEach [e] X.env = [(false, eval e X.env)] := by rfl) (hp : PassesOwn (model X.prog X.w) X.A X.env X.xe := by exact PassesOwn.never) (hc : X.calm = true := by rfl) (hs : ∀ x, foldedSetIterable (.Call (.Name "enumerate" p1) [e] [] p2) X.env x = pure x := by intro _; rfl) :
    RB X (.For (.Tuple elts kk tpos) (.Call (.Name "enumerate" p1) [e] [] p2) body [] pos :: rest) D σ H := by
  cases k with
  | false => exact rb_enum hm hit h hg he hp hc hs
  | true =>
    exact ⟨_, pss_cons (ps_for hp hc (pi_enumT hg hm ra_ he) rg_ rb_ hs) rb_, ra_1 (hit H (Same.refl H) _ fun v H1 s1 hv => by
      obtain ⟨a, xs, rfl, ha, hx⟩ := dp_tup hv
      obtain ⟨Pv, h0, hk, hst, hd⟩ := h H1 s1
      have hlen := dpa_len hx
      refine ⟨a, xs, rfl, same_seqT hid_le ha, fun i m σ' H' => m + i = xs.length ∧ Pv i σ' H', ⟨xs.length, rfl, h0⟩, fun i m σ' H' w => ?_⟩
      obtain ⟨hmi, hp⟩ := w
      have here : SqT X.K H' a xs := same_seqT hid_le (same_seqT (hk i σ' H' hp) ha)
      cases ex : xs[i]? with
      | none =>
        have hge : xs.length ≤ i := List.getElem?_eq_none_iff.mp ex
        have ei : i = ds.length := by omega
        subst ei
        exact .inl ⟨⟨xs, here, hge⟩, hd σ' H' hp⟩
      | some x0 =>
        have hlt := (List.getElem?_eq_some_iff.mp ex).1
        refine .inr ⟨⟨xs, x0, here, ex⟩, Pv (i + 1), fun σ2 H2 h2 => ⟨m - 1, by omega, by omega, h2⟩, fun v H2 hy => ?_⟩
        obtain ⟨T, x, rfl, hT, rfl, hx0⟩ := hy
        obtain ⟨d, hd1, hd2⟩ := dpa_get' hx (hx0 xs here)
        exact hst i d hd1 σ' H' T x hp hT (hd2.up (hk i σ' H' hp))) he⟩
/-! ### dicts with names as keys -/
def dmap (ks : List Str) (f : Str → V) : List (Key × V) := ks.map fun s => (.inr s, f s)
theorem val_dmap {ks : List Str} {f : Str → V} {x : Str} : valV (dmap ks f) (.inr x) = if x ∈ ks then some (f x) else none := by
  induction ks with
  | nil => rfl
  | cons y t ih =>
    by_cases e : y = x
    · subst e
      rw [if_pos (List.mem_cons_self ..)]
      exact valV_pos rfl
    · have h1 : valV (dmap (y :: t) f) (.inr x) = valV (dmap t f) (.inr x) := valV_neg fun z => e (Sum.inr.inj z)
      rw [h1, ih]
      by_cases m : x ∈ t
      · rw [if_pos m, if_pos (List.mem_cons_of_mem _ m)]
      · rw [if_neg m, if_neg fun z => (List.mem_cons.mp z).elim (fun q => e q.symm) m]
theorem dmap_len {ks : List Str} {f : Str → V} : (dmap ks f).length = ks.length := List.length_map ..
theorem dmap_up {ks : List Str} {f : Str → V} {x : Str} {v : V} (h : x ∉ ks) : dmap ks (Bf.up f x v) = dmap ks f := by
  refine List.map_congr_left fun s hs => ?_
  have n : s ≠ x := fun e => h (by rw [← e]; exact hs)
  show ((Sum.inr s : Key), Bf.up f x v s) = _
  rw [Bf.up_ne n]
theorem put_dmap {ks : List Str} {f : Str → V} {x : Str} {v : V} : putK (dmap ks f) (.inr x) v = dmap (Bf.ins ks x) (Bf.up f x v) := by
  have e1 : ((dmap ks f).any fun kv => decide (kv.1 = (Sum.inr x : Key))) = decide (x ∈ ks) := by
    rw [valV_any, val_dmap]
    by_cases m : x ∈ ks
    · rw [if_pos m, decide_eq_true m]; rfl
    · rw [if_neg m, decide_eq_false m]; rfl
  unfold putK Bf.ins
  rw [e1]
  by_cases m : x ∈ ks
  · rw [if_pos (decide_eq_true m), if_pos m]
    unfold dmap
    rw [List.map_map]
    refine List.map_congr_left fun s hs => ?_
    show (if (Sum.inr s : Key) = Sum.inr x then ((Sum.inr s : Key), v) else (Sum.inr s, f s)) = (Sum.inr s, Bf.up f x v s)
    by_cases e : s = x
    · rw [if_pos (by rw [e]), e, Bf.up_same]
    · rw [if_neg fun z => e (Sum.inr.inj z), Bf.up_ne e]
  · rw [if_neg (by simpa using m), if_neg m]
    have e2 : dmap (ks ++ [x]) (Bf.up f x v) = dmap ks (Bf.up f x v) ++ [(.inr x, Bf.up f x v x)] := by unfold dmap; rw [List.map_append]; rfl
    rw [e2, dmap_up m, Bf.up_same]
/-- the dict at a -/
def DM (H : Hp) (a : Addr) (ks : List Str) (f : Str → V) : Prop := H a = some (.dK (dmap ks f))
section
variable {W : Addr} {ks : List Str} {f : Str → V}
theorem DM.up (h : DM H W ks f) (s : Same H H') : DM H' W ks f := s _ _ h
theorem DM.get (h : DM H W ks f) (hx : x ∈ ks) : DGet H W (.str x) (some (f x)) := by
  have := DGet.k (k := .inr x) h
  rw [val_dmap, if_pos hx] at this
  exact this
theorem DM.gets (h : DM H W ks f) : DGet H W (.str x) (if x ∈ ks then some (f x) else none) := by
  have := DGet.k (k := .inr x) h
  rw [val_dmap] at this
  exact this
theorem xv_dget (hu : X.A.units + 1 < cLine) (ho : XV X σ H o (.ref W)) (hk : XD X M σ H i (.str x)) (hW : DM H W ks f) (hx : x ∈ ks) (hs : NoSl i := by exact fun _ _ => rfl) : XV X σ H (.Subscript o i pos) (f x) := fun H1 s Q q =>
  ⟨_, pe_dget hu re_ re_ hs, ho H1 s _ fun H2 s2 => hk H2 (s.trans s2) _ fun y H3 s3 hy => by
    rw [dp_str hy]
    exact ⟨W, _, rfl, ((hW.up s).up (s2.trans s3)).get hx, q H3 (s2.trans s3)⟩⟩
theorem xd_din (hu : X.A.units + 1 < cLine) (hk : XD X M σ H i (.str x)) (ho : XV X σ H o (.ref W)) (hW : DM H W ks f) (hm : behindInMarks .In o = false := by rfl) : XD X M σ H (.Compare i [.In] [o] pos) (.bool (decide (x ∈ ks))) := fun H1 s Q q =>
  ⟨_, pe_cmp (pc_din hu re_ re_) hm, hk H1 s _ fun y H2 s2 hy => ho H2 (s.trans s2) _ fun H3 s3 => by
    rw [dp_str hy]
    refine ⟨W, _, rfl, ((hW.up s).up (s2.trans s3)).gets, ?_⟩
    by_cases m : x ∈ ks
    · rw [decide_eq_true m] at q
      rw [if_pos m]
      exact q _ H3 (s2.trans s3) (.bl _)
    · rw [decide_eq_false m] at q
      rw [if_neg m]
      exact q _ H3 (s2.trans s3) (.bl _)⟩
theorem xd_dnin (hu : X.A.units + 1 < cLine) (hk : XD X M σ H i (.str x)) (ho : XV X σ H o (.ref W)) (hW : DM H W ks f) (hm : behindInMarks .NotIn o = false := by rfl) : XD X M σ H (.Compare i [.NotIn] [o] pos) (.bool (!decide (x ∈ ks))) := fun H1 s Q q =>
  ⟨_, pe_cmp (pc_dnotin hu re_ re_) hm, hk H1 s _ fun y H2 s2 hy => ho H2 (s.trans s2) _ fun H3 s3 => by
    rw [dp_str hy]
    refine ⟨W, _, rfl, ((hW.up s).up (s2.trans s3)).gets, ?_⟩
    by_cases m : x ∈ ks
    · rw [decide_eq_true m] at q
      rw [if_pos m]
      exact q _ H3 (s2.trans s3) (.bl _)
    · rw [decide_eq_false m] at q
      rw [if_neg m]
      exact q _ H3 (s2.trans s3) (.bl _)⟩
/-- d[k] = e -/
theorem rb_dput (hu : X.A.units + 1 < cLine) (he : XD X M σ H value d) (ho : XV X σ H o (.ref W)) (hk : XD X M σ H i (.str x)) (hW : DM H W ks f) (hz : ks.length < 100000)
    (q : ∀ v H1, Same H H1 → Dq X.K (hid M H1) v d → RB X rest D σ (upd H1 W (.dK (dmap (Bf.ins ks x) (Bf.up f x v))))) (hs : swapsWith value (some (.Subscript o i pos')) pos.line X.env = pure false := by rfl) :
    RB X (.Assign [.Subscript o i pos'] value pos :: rest) D σ H :=
  ⟨_, pss_cons (ps_dput hu re_ re_ re_ hs) rb_, he H (Same.refl H) _ fun v H1 s1 hv => ho H1 s1 _ fun H2 s2 => hk H2 (s1.trans s2) _ fun y H3 s3 hy => by
    have s23 := s2.trans s3
    have hW3 : H3 W = some (.dK (dmap ks f)) := hW.up (s1.trans s23)
    rw [dp_str hy]
    refine ⟨W, _, rfl, DPut.k (k := .inr x) hW3 (by rw [dmap_len]; exact Nat.lt_of_lt_of_le hz (by decide)), ?_⟩
    rw [put_dmap]
    exact q v H3 (s1.trans s23) (hv.up (hid_mono s23))⟩
theorem xd_dlen (hm : X.mg "len" = none) (ha : XV X σ H e (.ref W)) (hW : DM H W ks f) (hg : Gl X "len" := by rfl) (he : starEach [e] X.env = (false, eval e X.env) :: starEach [] X.env := by rfl) (hpl : (backTo pos (starEach [] X.env)).any (·.1) = false := by rfl) :
    XD X M σ H (.Call (.Name "len" p1) [e] [] pos) (.int ks.length) := fun H1 s Q q =>
  re_B call_lenD (ra_1 (ha H1 s _ fun H2 s2 => ⟨W, dmap ks f, rfl, (hW.up s).up s2, by rw [dmap_len]; exact q _ H2 s2 (.int _)⟩) he) hm PySem.boot_len hg (by decide) (by decide) he hpl
theorem strs_dq {K : PySem.W.Frag} : ∀ ks : List Str, DqAll K H ((ks.map fun s => (Sum.inr s : Key)).map kV) (ks.map PyData.str)
  | [] => .nil
  | s :: t => .cons (.str s) (strs_dq t)
/-- list(d) -/
theorem xl_dlist (hm : X.mg "list" = none) (L : Live M H) (ha : XV X σ H e (.ref W)) (hW : DM H W ks f) (hc : X.calm = true := by rfl) (hg : Gl X "list" := by rfl) (he : starEach [e] X.env = (false, eval e X.env) :: starEach [] X.env := by rfl) (hpl : (backTo pos (starEach [] X.env)).any (·.1) = false := by rfl) :
    XL X M σ H (.Call (.Name "list" p1) [e] [] pos) (ks.map PyData.str) := fun H1 s Q q =>
  re_Ty (call_list_dK hc) (ra_1 (ha H1 s _ fun H2 s2 => ⟨W, dmap ks f, rfl, (hW.up s).up s2, fun l hl => by
    have e2 : ((dmap ks f).map fun kv => kV kv.1) = (ks.map fun s => (Sum.inr s : Key)).map kV := by unfold dmap; rw [List.map_map, List.map_map]; rfl
    rw [e2]
    exact q l _ _ (s2.trans (same_new hl)) (s2.free hl) upd_same (strs_dq ks)⟩) he) hm (by decide +kernel) hg (by decide) (by decide) he hpl
/-- d.get(k) -/
theorem xv_dgets (hu : X.A.units + 1 < cLine) (ho : XV X σ H o (.ref W)) (hk : XD X M σ H i (.str x)) (hW : DM H W ks f) (mm : M1 X o "get" p1 i p2) : XV X σ H (.Call (.Attribute o "get" p1) [i] [] p2) (if x ∈ ks then f x else .non) := fun H1 s Q q =>
  ⟨_, pe_dget1 hu re_ re_ mm, ho H1 s _ fun H2 s2 => ⟨W, rfl, .inl ⟨_, .inl ((hW.up s).up s2)⟩, hk H2 (s.trans s2) _ fun y H3 s3 hy => by
    rw [dp_str hy]
    refine ⟨_, ((hW.up s).up (s2.trans s3)).gets, ?_⟩
    by_cases m : x ∈ ks
    · rw [if_pos m] at q ⊢
      exact q H3 (s2.trans s3)
    · rw [if_neg m] at q ⊢
      exact q H3 (s2.trans s3)⟩⟩
end
/-- {} -/
theorem re_dnew {f : Str → V} (q : ∀ p, H p = none → DM (upd H p (.dK [])) p [] f → Q (.ref p) (upd H p (.dK []))) : RE X (.Dict [] [] pos) σ H Q := ⟨_, pe_dnewK, fun p hp => q p hp upd_same⟩
/-! {k: v for ..} over a list, named on one line -/
theorem dc_list {K : PySem.W.Frag} {a : Addr} {xs : List V} {g : TG} {tt : TT} {tk tv : TE} {vs : List Nat} {σ : L2.St} {H1 : Hp} {D : Addr} {Qd : Hp → Prop} (Pv : Nat → Hp → Prop) (h0 : Pv 0 (upd H1 D (.dK []))) (hl : ∀ i H, i ≤ xs.length → Pv i H → SqL K H a xs)
    (hs : ∀ i x H, xs[i]? = some x → Pv i H → g x (wipe σ vs) H fun σ2 H2 => wipe σ2 vs = wipe σ vs ∧ tt σ2 H2 fun b H3 =>
      if b = true then tk σ2 H3 fun y H4 => tv σ2 H4 fun z H5 => ∃ kvs k, y = kV k ∧ H5 D = some (.dK kvs) ∧ kvs.length < sizeLine ∧ Pv (i + 1) (upd H5 D (.dK (putK kvs k z))) else Pv (i + 1) H3) (hd : ∀ H, Pv xs.length H → Qd H) :
    ∃ W : Nat → Nat → Hp → Prop, (∃ m, W 0 m (upd H1 D (.dK []))) ∧ ∀ i m H, W i m H →
      ((Itl K a).stop i H ∧ Qd H) ∨ ((Itl K a).go i H ∧ ∃ Nx : Hp → Prop, (∀ H', Nx H' → ∃ m', m' < m ∧ W (i + 1) m' H') ∧ ∀ x H', (Itl K a).yld i H x H' → g x (wipe σ vs) H' fun σ2 H2 => wipe σ2 vs = wipe σ vs ∧ tt σ2 H2 fun b H3 =>
        if b = true then tk σ2 H3 fun y H4 => tv σ2 H4 fun z H5 => ∃ kvs k, y = kV k ∧ H5 D = some (.dK kvs) ∧ kvs.length < sizeLine ∧ Nx (upd H5 D (.dK (putK kvs k z))) else Nx H3) := by
  refine ⟨fun i m H => m = xs.length - i ∧ i ≤ xs.length ∧ Pv i H, ⟨xs.length, by simp, Nat.zero_le _, h0⟩, ?_⟩
  rintro i m H ⟨rfl, hi, p⟩
  have q := hl i H hi p
  by_cases hlt : i < xs.length
  · refine .inr ⟨⟨xs, xs[i], q, by simp [hlt]⟩, Pv (i + 1), fun H' p' => ⟨xs.length - (i + 1), by omega, rfl, hlt, p'⟩, fun x H' y => ?_⟩
    obtain ⟨e, y⟩ := y
    subst e
    exact hs i x _ (y xs q) p
  · have e : i = xs.length := by omega
    subst e
    exact .inl ⟨⟨xs, q, Nat.le_refl _⟩, hd H p⟩
theorem ps_setDc {i : Nat} {y : Str} {py : Pos} {kx vx tg iter : Expr} {ifs : List Expr} {scope : Scope} {own : List (Str × Nat)} {pos spos : Pos} {wi : TI} {g : TG} {tt : TT} {tk tv : TE} (hc : X.calm = true) (hN : X.N.Nodup) (hy : X.N[i]? = some y) (hyl : X.env.scope.names.lookup y = some .local)
    (hsw : swapsWith (.DictComp kx vx [⟨tg, iter, ifs, 0⟩] scope pos) (some (.Name y py)) spos.line X.env = pure true) (hi : PI X tg iter wi) (ok : BlkOk X.N X.env.scope scope own)
    (hg : ∀ (s : Shared) (H : Hp) (C : Addr) (cl : List (Str × Addr)) (fp : List Addr), PG (X.blk s H scope (compEnvC scope cl C X.env) fp) tg g) (ht : ∀ (s : Shared) (H : Hp) (C : Addr) (cl : List (Str × Addr)) (fp : List Addr), PTs (X.blk s H scope (compEnvC scope cl C X.env) fp) ifs tt)
    (hk : ∀ (s : Shared) (H : Hp) (C : Addr) (cl : List (Str × Addr)) (fp : List Addr), PE (X.blk s H scope (compEnvC scope cl C X.env) fp) kx tk)
    (he : ∀ (s : Shared) (H : Hp) (C : Addr) (cl : List (Str × Addr)) (fp : List Addr), PE (X.blk s H scope (compEnvC scope cl C X.env) fp) vx tv) (hs : ∀ x, foldedSetIterable iter X.env x = pure x := by intro _; rfl) :
    PS X (.Assign [.Name y py] (.DictComp kx vx [⟨tg, iter, ifs, 0⟩] scope pos) spos) (tAsg (tDc wi g tt tk tv (own.map (·.2))) (gName i)) := by
  refine ⟨fun pins s σ H D I h => ?_⟩
  rw [exec_Assign_Name_used _ _ _ _ hsw]
  refine wpAny_bind (wpAny_standAt (wpAny_bind ?_))
  show wpAny _ X.A (do let _ ← comprehension (.DictComp kx vx [⟨tg, iter, ifs, 0⟩] scope pos) scope X.env (firstIterPos [⟨tg, iter, ifs, 0⟩] pos) newDict false (eval iter X.env) (some (assign (.Name y py) X.env))) _ _ s
  have h : tDc wi g tt tk tv (own.map (·.2)) σ H (fun x H1 => gName i x σ H1 D.nx) := h
  refine wpAny_bind (thn (dc_core (Qf := fun _ s' => SP X pins D .next s') hc hN I hi ok hg ht hk he hs h fun L C s' m H' I' q hn f => ?_) fun _ s' hq => wpAny_pure (wpAny_pure hq))
  show wpAny _ _ (assign (.Name y py) X.env (.ref L)) _ _ _
  refine wpAny_assign_Name (store_ok2 (v := V.ref L) I' hN hy (.inl hyl) rfl (fun s2 I2 ⟨a, sb, ha⟩ => ?_) (.inr hyl))
  obtain ⟨f0, f1, f2, f3, f4, f5⟩ := f
  have haC : C ≠ a := by
    rcases ha with z | z
    · rw [z]; exact f1
    · exact fun e => f4 y a z e.symm
  refine ⟨m, hn.sameBut sb haC, fun h3 sb3 => ?_⟩
  exact ⟨_, H', I2.turned (t' := s2.toks) (fun b o hb e => (sb3.2 b hb).trans e) f0 f1 f3 f4 f5, q⟩
theorem sw_trueD {kx vx : Expr} {gs : List Comprehension} {scope : Scope} {pos py : Pos} {y : Str} {l : Nat} {env : Env} (hk : env.scope.kind = .function) (hy : env.scope.names.lookup y = some .local) (hl : (py.line == pos.line) = true)
    (ha : (scope.names.any fun (n, k) => n == y && (k == .local || k == .cell)) = false) : swapsWith (.DictComp kx vx gs scope pos) (some (.Name y py)) l env = pure true := by
  have ky : env.kindOf y = some .local := hy
  have hb : env.blockKind = .function := by unfold Env.blockKind; rw [hk]; rfl
  unfold swapsWith
  simp only [hb, ky, ha, Expr.pos, hl]
  rfl
end
end Dl

set_option Elab.async false
set_option linter.all false
set_option maxRecDepth 100000
set_option maxHeartbeats 4000000
namespace Dl
open PySem PySem.Spec PyProof.Rows L2
/-- all but these stands -/
def SameX (M : List Addr) (H H' : Hp) : Prop := ∀ a o, a ∉ M → H a = some o → H' a = some o
section
variable {M N : List Addr} {H H1 H2 : Hp} {p : Addr} {o : HO}
theorem SameX.of (s : Same H H1) : SameX M H H1 := fun a o _ e => s a o e
theorem SameX.trans (s : SameX M H H1) (t : SameX M H1 H2) : SameX M H H2 := fun a o n e => t a o n (s a o n e)
theorem SameX.upd (s : SameX M H H1) (h : p ∈ M) : SameX M H (upd H1 p o) := fun a u n e => by
  rw [upd_ne fun z => n (by rw [z]; exact h)]; exact s a u n e
theorem SameX.mono (s : SameX M H H1) (h : ∀ a ∈ M, a ∈ N) : SameX N H H1 := fun a o n e => s a o (fun z => n (h a z)) e
theorem SameX.hid (s : SameX M H H1) (h : ∀ a ∈ M, a ∈ N) : Same (hid N H) (hid N H1) := fun a o e => by
  have n : a ∉ N := fun z => by unfold Dl.hid at e; rw [if_pos z] at e; cases e
  rw [hid_of n]
  exact s a o (fun z => n (h a z)) (hid_le _ _ e)
theorem SameX.live (s : SameX M H H1) (L : Live N H) (h : ∀ a ∈ M, a ∈ N → H1 a ≠ none) : Live N H1 := fun a ha z => by
  by_cases e : a ∈ M
  · exact h a e ha z
  · cases q : H a with
    | none => exact L a ha q
    | some o => rw [s a o e q] at z; cases z
theorem SameX.same (s : SameX M H H1) (h : ∀ a ∈ M, H a = none) : Same H H1 := fun a o e => s a o (fun z => by rw [h a z] at e; cases e) e
theorem DM.some {ks : List Str} {f : Str → V} {W : Addr} (h : DM H W ks f) : H W ≠ none := by
  unfold DM at h; rw [h]; simp
theorem up_int {w : Str → Int} {x : Str} {n : Int} : Bf.up (fun z => V.int (w z)) x (.int n) = fun z => V.int (Bf.up w x n z) := by
  funext z
  by_cases e : z = x
  · rw [e, Bf.up_same, Bf.up_same]
  · rw [Bf.up_ne e, Bf.up_ne e]
theorem up_nat {p : Str → Nat} {x : Str} {n : Nat} : Bf.up (fun z => V.int ((p z : Nat) : Int)) x (.int (n : Int)) = fun z => V.int ((Bf.up p x n z : Nat) : Int) := by
  funext z
  by_cases e : z = x
  · rw [e, Bf.up_same, Bf.up_same]
  · rw [Bf.up_ne e, Bf.up_ne e]
end
end Dl
namespace Zn
open PySem PySem.Spec PyProof.Rows L2 Dl
/-! bounds: is_bound, need_bounds, names_in, lower_all -/
abbrev Bd := Bf.Bd Str
def encB (k : Bool) (b : Bd) : PyData := sqD k [.str b.1, .str b.2.1, .int b.2.2]
def encBs (k k2 : Bool) (bs : List Bd) : PyData := sqD k (bs.map (encB k2))
def OkB (bs : List Bd) : Prop := bs.length ≤ 1000 ∧ ∀ b ∈ bs, nameB b.1 = true ∧ nameB b.2.1 = true
theorem name_len {x : Str} (h : nameB x = true) : x.length ≤ 8 := by
  unfold nameB at h
  rw [Bool.and_eq_true, Bool.and_eq_true] at h
  have := of_decide_eq_true h.1.2
  omega
section
variable {X : Cx} {M : List Addr} {σ : L2.St} {H : Hp} {a e : Expr} {pos p1 p2 : Pos} {f : Addr} {fd : FuncData} {x : Str}
theorem xd_isNm (G : FnOk X.prog X.w X.K X.mg X.base CX0 1 f fd ["value"] (spName X.K)) (hr : Room 1 X.A) (FF : Df X.K X.mg "is_name" sIsName ["value"] f fd) (ho : XD X M σ H e (.str x)) (hz : x.length ≤ 1000) (hg : Gl X "is_name" := by rfl)
    (he : starEach [e] X.env = (false, eval e X.env) :: starEach [] X.env := by rfl) (hpl : (backTo pos (starEach [] X.env)).any (·.1) = false := by rfl) : XD X M σ H (.Call (.Name "is_name" p1) [e] [] pos) (.bool (nameB x)) := fun H1 s Q q =>
  re_call G hr FF.g FF.F.kp FF.b (ra_1 (ho H1 s _ fun v H2 s2 hv => ⟨v, "str", by rfl, by rw [dp_str hv]; exact th_str, fun y e => by
    rw [dp_str hv] at e
    cases e
    exact ⟨hz, fun H3 s3 => q _ H3 (s2.trans s3) (.bl _)⟩, fun n => absurd rfl n⟩) he) hg (by decide) he hpl
theorem xd_isSeq {k : Bool} {ds : List PyData} {k3} {q1 q2 q3 : Pos} {mg : Str → Option Value} (T : Nm X.mg) (ha : XD X M σ H a (sqD k ds)) (hg : Gl X "isinstance" := by rfl) (hg1 : Gl X "list" := by rfl) (hg2 : Gl X "tuple" := by rfl)
    (he : starEach [a, .Tuple [.Name "list" q1, .Name "tuple" q2] k3 q3] X.env = (false, eval a X.env) :: starEach [.Tuple [.Name "list" q1, .Name "tuple" q2] k3 q3] X.env := by rfl) (he2 : starEach [.Tuple [.Name "list" q1, .Name "tuple" q2] k3 q3] X.env = (false, eval (.Tuple [.Name "list" q1, .Name "tuple" q2] k3 q3) X.env) :: starEach [] X.env := by rfl)
    (hs1 : starEach [.Name "list" q1, .Name "tuple" q2] X.env = (false, eval (.Name "list" q1) X.env) :: starEach [.Name "tuple" q2] X.env := by rfl) (hs2 : starEach [.Name "tuple" q2] X.env = (false, eval (.Name "tuple" q2) X.env) :: starEach [] X.env := by rfl)
    (hpl : (backTo pos (starEach [.Tuple [.Name "list" q1, .Name "tuple" q2] k3 q3] X.env)).any (·.1) = false := by rfl) :
    XD X M σ H (.Call (.Name "isinstance" p1) [a, .Tuple [.Name "list" q1, .Name "tuple" q2] k3 q3] [] pos) (.bool true) := by
  cases k with
  | true => exact (xd_is2 (d := .tuple ds) (r1 := false) (r2 := true) (T1 := "list") (T2 := "tuple") (show kitB "tuple" "list" = some false by decide +kernel) (show kitB "tuple" "tuple" = some true by decide +kernel) T.isi T.lst (by decide +kernel) T.tup (by decide +kernel) ha hg hg1 hg2 (by decide) (by decide) (by decide) (by decide) he he2 hs1 hs2 hpl).to rfl
  | false => exact (xd_is2 (d := .list ds) (r1 := true) (r2 := false) (T1 := "list") (T2 := "tuple") (show kitB "list" "list" = some true by decide +kernel) (show kitB "list" "tuple" = some false by decide +kernel) T.isi T.lst (by decide +kernel) T.tup (by decide +kernel) ha hg hg1 hg2 (by decide) (by decide) (by decide) (by decide) he he2 hs1 hs2 hpl).to rfl
end
abbrev sIsB : Stmt := top 25
abbrev sNeedB : Stmt := top 24
abbrev sNames : Stmt := top 23
abbrev sLower : Stmt := top 17
theorem xd_and3T {X : Cx} {M : List Addr} {σ : L2.St} {H : Hp} {a b c : Expr} {pos : Pos} {k : Bool} (ha : XD X M σ H a (.bool true)) (hb : XD X M σ H b (.bool true)) (hc : XD X M σ H c (.bool k)) : XD X M σ H (.BoolOp .And [a, b, c] pos) (.bool k) := xd_andT ha (xd_andT hb (xd_one hc))
section
variable {P : Program} {w : World} {K : PySem.W.Frag} {mg : Str → Option Value} {base : Heap}
def RIsB : List PyData → PyData → Prop := fun ds d => ∃ (k : Bool) (b : Bd), ds = [encB k b] ∧ nameB b.1 = true ∧ nameB b.2.1 = true ∧ d = .bool true
theorem scIsB : FnScope ["value"] ["value"] (defScope sIsB) := ⟨rfl, rfl, rfl, by decide +kernel, rfl, by decide +kernel, by decide +kernel⟩
theorem ok_isB {fW fN f : Addr} {gW gN fd : FuncData} (T : Nm mg) (GW : FnOk P w K mg base CX0 1 fW gW ["value"] (spWh K)) (FW : Df K mg "is_whole" sWhole ["value"] fW gW) (GN : FnOk P w K mg base CX0 1 fN gN ["value"] (spName K)) (FN : Df K mg "is_name" sIsName ["value"] fN gN)
    (F : Df K mg "is_bound" sIsB ["value"] f fd) : FnOk P w K mg base CX0 2 f fd ["value"] (spR K RIsB) := by
  refine F.F.ok scIsB (fun vs H Q E h => ?_) (fun cdv A outer s H vs Q E hr h => ?_)
  · obtain ⟨M, ds, d, _, hv, ⟨k, b, rfl, _⟩, _⟩ := h; rw [dpa_len hv]; rfl
  · obtain ⟨M, ds, d, hL, hv, ⟨k, b, rfl, n1, n2, rfl⟩, q⟩ := h
    cases hv with
    | @cons v vs d ds hv hvs =>
      cases hvs
      refine rb_ifF ((xt_or2 (k1 := false) (k2 := false) ((xt_not (xt_val (M := M) (k := true) (xd_isSeq (mg := mg) T (xd_name 0 rfl hv)))).to rfl) fun _ => (xt_neI (M := M) (xd_lenQ T.len (xd_name 0 rfl hv)) xd_int).to rfl).to rfl) fun H1 s1 => ?_
      have hv1 := hv.up (hid_mono (M := M) s1)
      have l1 := name_len n1
      have l2 := name_len n2
      refine rb_ret (M := M) (d := .bool true) (xd_and3T ((xd_isNm (x := b.1) GN (hr.mono (by decide)) FN (xd_ixQ (fun _ _ => rfl) (xd_name 0 rfl hv1) xd_int (atI_nat (j := 0) rfl)) (by omega)).to (by rw [n1])) ((xd_isNm (x := b.2.1) GN (hr.mono (by decide)) FN (xd_ixQ (fun _ _ => rfl) (xd_name 0 rfl hv1) xd_int (atI_nat (j := 1) rfl)) (by omega)).to (by rw [n2]))
        ((xd_whole (M := M) (T := "int") GW (hr.mono (by decide)) FW (XD.vint (n := b.2.2) (xd_ixQ (M := M) (fun _ _ => rfl) (xd_name 0 rfl hv1) xd_int (atI_nat (j := 2) rfl))) th_int).to (by rw [decide_eq_true rfl]))) fun v2 H2 s2 hv2 => q v2 H2 (s1.trans s2) hv2
def RNeedB : List PyData → PyData → Prop := fun ds d => ∃ (k k2 : Bool) (bs : List Bd), ds = [encBs k k2 bs] ∧ OkB bs ∧ d = .none
theorem scNeedB : FnScope ["bounds", "item"] ["bounds"] (defScope sNeedB) := ⟨rfl, rfl, rfl, by decide +kernel, rfl, by decide +kernel, by decide +kernel⟩
theorem ok_needB {fB f : Addr} {gB fd : FuncData} (T : Nm mg) (GB : FnOk P w K mg base CX0 2 fB gB ["value"] (spR K RIsB)) (FB : Df K mg "is_bound" sIsB ["value"] fB gB) (F : Df K mg "need_bounds" sNeedB ["bounds"] f fd) : FnOk P w K mg base CX0 3 f fd ["bounds"] (spR K RNeedB) := by
  refine F.F.ok scNeedB (fun vs H Q E h => ?_) (fun cdv A outer s H vs Q E hr h => ?_)
  · obtain ⟨M, ds, d, _, hv, ⟨k, k2, bs, rfl, _⟩, _⟩ := h; rw [dpa_len hv]; rfl
  · obtain ⟨M, ds, d, hL, hv, ⟨k, k2, bs, rfl, ok, rfl⟩, q⟩ := h
    cases hv with
    | @cons v vs d ds hv hvs =>
      cases hvs
      refine rb_ifF ((xt_not (xt_val (M := M) (k := true) (xd_isSeq (mg := mg) T (xd_name 0 rfl hv)))).to rfl) fun H1 s1 => ?_
      have hv1 := hv.up (hid_mono (M := M) s1)
      refine rb_forQ (M := M) (xd_name 0 rfl hv1) fun H2 s2 => ⟨fun i σ' H' => Same H2 H' ∧ ∃ u, σ' = [some v, u], ⟨Same.refl _, none, rfl⟩, fun i σ' H' h => hid_mono h.1, fun i d hd σ' H' v' hp hv' => ?_, fun σ' H' hp => ?_⟩
      · obtain ⟨sH, u, rfl⟩ := hp
        rw [List.getElem?_map] at hd
        obtain ⟨b, hb, rfl⟩ := Option.map_eq_some_iff.mp hd
        obtain ⟨n1, n2⟩ := ok.2 b (List.mem_of_getElem? hb)
        refine rg_name 1 ?_ scNeedB.nd
        refine rb_ifF ((xt_not (xt_val (M := M) (k := true) (xd_call (hL.mono ((s1.trans s2).trans sH)) GB hr FB.g FB.F.kp FB.b (xa_cons (xd_name 1 rfl hv') xa_nil) ⟨k2, b, rfl, n1, n2, rfl⟩))).to rfl) fun H3 s3 => rb_nil ⟨sH.trans s3, _, rfl⟩
      · obtain ⟨sH, u, rfl⟩ := hp
        exact rb_nil (q .non H' ((s1.trans s2).trans sH) .non)
/-! names_in -/
def namesOf (bs : List Bd) : List Str := bs.foldl (fun L b => Bf.ins (Bf.ins L b.1) b.2.1) []
theorem names_snoc {bs : List Bd} {b : Bd} : namesOf (bs ++ [b]) = Bf.ins (Bf.ins (namesOf bs) b.1) b.2.1 := by unfold namesOf; rw [List.foldl_append]; rfl
theorem ins_len {L : List Str} {x : Str} : (Bf.ins L x).length ≤ L.length + 1 := by
  unfold Bf.ins
  split
  · omega
  · rw [List.length_append]; exact Nat.le_refl _
theorem take_snoc {α : Type} {l : List α} {i : Nat} {x : α} (h : l[i]? = some x) : l.take (i + 1) = l.take i ++ [x] := by rw [List.take_add_one, h]; rfl
theorem names_len (bs : List Bd) : ∀ k, (namesOf (bs.take k)).length ≤ 2 * k
  | 0 => by rw [List.take_zero]; exact Nat.le_refl _
  | k + 1 => by
    have ih := names_len bs k
    cases h : bs[k]? with
    | none =>
      rw [List.take_add_one, h]
      simp only [Option.toList_none, List.append_nil]
      omega
    | some b =>
      rw [take_snoc h, names_snoc]
      have h1 := ins_len (L := Bf.ins (namesOf (bs.take k)) b.1) (x := b.2.1)
      have h2 := ins_len (L := namesOf (bs.take k)) (x := b.1)
      omega
def RNames : List PyData → List PyData → Prop := fun ds es => ∃ (k k2 : Bool) (bs : List Bd), ds = [encBs k k2 bs] ∧ OkB bs ∧ es = (namesOf bs).map PyData.str
abbrev nNames : List Str := ["bounds", "found", "x", "y", "n"]
theorem scNames : FnScope nNames ["bounds"] (defScope sNames) := ⟨rfl, rfl, rfl, by decide +kernel, rfl, by decide +kernel, by decide +kernel⟩
/-- the three parts of a bound -/
theorem three {K : PySem.W.Frag} {H : Hp} {vs : List V} {b : Bd} (h : DqAll K H vs [.str b.1, .str b.2.1, .int b.2.2]) : vs = [.str b.1, .str b.2.1, .int b.2.2] := by
  cases h with
  | cons h1 h => cases h with
    | cons h2 h => cases h with
      | cons h3 h => cases h; rw [dp_str h1, dp_str h2, dp_int h3]
theorem ok_names {f : Addr} {fd : FuncData} (T : Nm mg) (F : Df K mg "names_in" sNames ["bounds"] f fd) : FnOk P w K mg base CX0 1 f fd ["bounds"] (spL K RNames) := by
  refine F.F.ok scNames (fun vs H Q E h => ?_) (fun cdv A outer s H vs Q E hr h => ?_)
  · obtain ⟨M, ds, d, _, hv, ⟨k, k2, bs, rfl, _⟩, _⟩ := h; rw [dpa_len hv]; rfl
  · obtain ⟨M, ds, es, hL, hv, ⟨k, k2, bs, rfl, ok, rfl⟩, q⟩ := h
    cases hv with
    | @cons v vs d ds hv hvs =>
      cases hvs
      have hu := hu_of hr
      refine rb_setR 1 (re_dnew (f := fun _ => .bl true) fun p hp hD => ?_) scNames.nd
      have hv1 := hv.up (hid_mono (M := M) (same_new (o := .dK []) hp))
      have hv2 : Dq K (hid (p :: M) (upd H p (.dK []))) v (encBs k k2 bs) := by rw [hid_cons hp]; exact hv
      have L2 : Live (p :: M) (upd H p (.dK [])) := hL.cons hp
      refine rb_forQ (M := p :: M) (xd_name 0 rfl hv2) fun H2 s2 => ⟨fun i σ' H' => SameX [p] H2 H' ∧ DM H' p (namesOf (bs.take i)) (fun _ => .bl true) ∧ ∃ a b c, σ' = [some v, some (.ref p), a, b, c], ⟨SameX.of (Same.refl _), hD.up s2, none, none, none, rfl⟩, fun i σ' H' h => h.1.hid (by simp), fun i d hd σ' H' v' hp' hv' => ?_, fun σ' H' hp' => ?_⟩
      · obtain ⟨sH, hDM, a, b', c, rfl⟩ := hp'
        rw [List.getElem?_map] at hd
        obtain ⟨b, hb, rfl⟩ := Option.map_eq_some_iff.mp hd
        have hi : i < bs.length := (List.getElem?_eq_some_iff.mp hb).1
        have hok := ok.1
        refine rg_Q (M := p :: M) hv' fun ws hws => ?_
        rw [three hws]
        refine rgs_cons (rg_name 2 (rgs_cons (rg_name 3 (rgs_cons (rg_name 4 (rgs_nil ?_) scNames.nd)) scNames.nd)) scNames.nd)
        have hl := names_len bs i
        have hl2 := ins_len (L := namesOf (bs.take i)) (x := b.1)
        refine rb_dput (M := p :: M) hu xd_bl (xv_name 1 rfl) (xd_name 2 rfl (.str b.1)) hDM (by omega) fun u H3 s3 hu3 => ?_
        have hD3 : DM (upd H3 p (.dK (dmap (Bf.ins (namesOf (bs.take i)) b.1) (Bf.up (fun _ => V.bl true) b.1 u)))) p (Bf.ins (namesOf (bs.take i)) b.1) (Bf.up (fun _ => V.bl true) b.1 u) := upd_same
        refine rb_dput (M := p :: M) hu xd_bl (xv_name 1 rfl) (xd_name 3 rfl (.str b.2.1)) hD3 (by omega) fun u4 H4 s4 hu4 => rb_nil ⟨((((sH.trans (.of s3)).upd (by simp)).trans (.of s4)).upd (by simp)), ?_, _, _, _, rfl⟩
        rw [dp_bl hu3, dp_bl hu4, take_snoc hb, names_snoc]
        have e1 : ∀ x : Str, Bf.up (fun _ : Str => V.bl true) x (.bl true) = fun _ => .bl true := fun x => by
          funext z
          by_cases e : z = x
          · rw [e, Bf.up_same]
          · rw [Bf.up_ne e]
        rw [e1, e1]
        exact upd_same
      · obtain ⟨sH, hDM, a, b', c, rfl⟩ := hp'
        have e0 : bs.take (bs.map (encB k2)).length = bs := by rw [List.length_map, List.take_length]
        rw [e0] at hDM
        have sA : Same H H' := ((SameX.of (M := [p]) (same_new hp)).trans (((SameX.of s2).trans sH))).same (by simp [hp])
        exact rb_retR (XL.go (M := M) (xl_dlist T.lst (hL.mono sA) (xv_name 1 rfl) hDM) fun l xs H3 s3 hl h3 hx => q l xs H3 (sA.trans s3) (sA.free hl) h3 hx)
/-! lower_all -/
abbrev S := Bf.S Str
def optV : Option Str → V
  | none => .non
  | some x => .str x
def spLower (K : PySem.W.Frag) : Sp := fun vs H Q _ => ∃ (v : V) (W L : Addr) (M : List Addr) (k k2 : Bool) (bs : List Bd) (ks : List Str) (s : S), vs = [v, .ref W, .ref L] ∧ W ∈ M ∧ L ∈ M ∧ W ≠ L ∧ Live M H ∧ Dq K (hid M H) v (encBs k k2 bs) ∧ OkB bs ∧
  (∀ b ∈ bs, b.1 ∈ ks ∧ b.2.1 ∈ ks) ∧ ks.length ≤ 2000 ∧ s.L.length ≤ 2000 ∧ DM H W ks (fun x => .int (s.w x)) ∧ DM H L s.L (fun x => .int ((s.p x : Nat) : Int)) ∧
  ∀ H1, SameX [W, L] H H1 → DM H1 W ks (fun x => .int ((Bf.pass bs s).w x)) → DM H1 L (Bf.pass bs s).L (fun x => .int (((Bf.pass bs s).p x : Nat) : Int)) → Q (optV (Bf.pass bs s).last) H1
abbrev nLower : List Str := ["bounds", "worth", "lowered_by", "last", "index", "x", "y", "n"]
theorem scLower : FnScope nLower ["bounds", "worth", "lowered_by"] (defScope sLower) := ⟨rfl, rfl, rfl, by decide +kernel, rfl, by decide +kernel, by decide +kernel⟩
theorem step_L (s : S) (i : Nat) (b : Bd) : (Bf.step s i b).L.length ≤ s.L.length + 1 := by
  unfold Bf.step
  split
  · exact ins_len
  · omega
theorem go_L (bs : List Bd) (s : S) : ∀ k, (Bf.go 0 (bs.take k) s).L.length ≤ s.L.length + k
  | 0 => by rw [List.take_zero]; exact Nat.le_refl _
  | k + 1 => by
    have ih := go_L bs s k
    cases h : bs[k]? with
    | none =>
      rw [List.take_add_one, h]
      simp only [Option.toList_none, List.append_nil]
      omega
    | some b =>
      rw [take_snoc h, Bf.go_snoc]
      have := step_L (Bf.go 0 (bs.take k) s) (0 + (bs.take k).length) b
      omega
theorem ins_mem {L : List Str} {x : Str} (h : x ∈ L) : Bf.ins L x = L := if_pos h
theorem ok_lower {f : Addr} {fd : FuncData} (T : Nm mg) (F : Df K mg "lower_all" sLower ["bounds", "worth", "lowered_by"] f fd) : FnOk P w K mg base CX0 1 f fd ["bounds", "worth", "lowered_by"] (spLower K) := by
  refine F.F.ok scLower (fun vs H Q E h => ?_) (fun cdv A outer s H vs Q E hr h => ?_)
  · obtain ⟨v, W, L, M, k, k2, bs, ks, s, rfl, _⟩ := h; rfl
  · obtain ⟨v, W, L, M, k, k2, bs, ks, s0, rfl, hW, hL, hWL, hM, hv, ok, hks, hkl, hll, dW, dL, q⟩ := h
    have hu := hu_of hr
    refine rb_set (M := M) 3 xd_non (fun v1 H1 s1 hv1 => ?_) scLower.nd
    rw [dp_non hv1]
    refine rb_enumQ (M := M) T.enu (xd_name 0 rfl (hv.up (hid_mono s1))) fun H2 s2 => ⟨fun i σ' H' => SameX [W, L] H2 H' ∧ (let s := Bf.go 0 (bs.take i) { s0 with last := none }; DM H' W ks (fun x => .int (s.w x)) ∧ DM H' L s.L (fun x => .int ((s.p x : Nat) : Int)) ∧ ∃ a b c d, σ' = [some v, some (.ref W), some (.ref L), some (optV s.last), a, b, c, d]),
      ⟨SameX.of (Same.refl _), dW.up (s1.trans s2), dL.up (s1.trans s2), none, none, none, none, rfl⟩, fun i σ' H' h => h.1.hid (by simp [hW, hL]), fun i d hd σ' H' T' x hp hT hx => ?_, fun σ' H' hp => ?_⟩
    · obtain ⟨sH, dW', dL', a1, a2, a3, a4, rfl⟩ := hp
      rw [List.getElem?_map] at hd
      obtain ⟨b, hb, rfl⟩ := Option.map_eq_some_iff.mp hd
      have hi : i < bs.length := (List.getElem?_eq_some_iff.mp hb).1
      have hok := ok.1
      obtain ⟨k1, k3⟩ := hks b (List.mem_of_getElem? hb)
      have hlL := go_L bs { s0 with last := none } i
      have hlL : (Bf.go 0 (bs.take i) { s0 with last := none }).L.length ≤ 3000 := by
        have e : ({ s0 with last := none } : S).L.length = s0.L.length := rfl
        omega
      have enext : Bf.go 0 (bs.take (i + 1)) { s0 with last := none } = Bf.step (Bf.go 0 (bs.take i) { s0 with last := none }) i b := by
        rw [take_snoc hb, Bf.go_snoc, List.length_take, Nat.min_eq_left (by omega), Nat.zero_add]
      generalize hs : Bf.go 0 (bs.take i) { s0 with last := none } = s1' at *
      have hM' : Live M H' := sH.live (hM.mono (s1.trans s2)) fun a ha _ => by
        simp only [List.mem_cons, List.not_mem_nil, or_false] at ha
        rcases ha with rfl | rfl
        · exact dW'.some
        · exact dL'.some
      have sT := same_new (o := .tup [.int (i : Nat), x]) hT
      refine rg_tup (SqT.of upd_same) (rgs_cons (rg_name 4 (rgs_cons (rg_Q (M := M) (hx.up (hid_mono sT)) fun ws hws => ?_)) scLower.nd))
      rw [three hws]
      refine rgs_cons (rg_name 5 (rgs_cons (rg_name 6 (rgs_cons (rg_name 7 (rgs_nil (rgs_nil ?_)) scLower.nd)) scLower.nd)) scLower.nd)
      have dWT := dW'.up sT
      have dLT := dL'.up sT
      refine rb_if (xt_cmpI (M := M) op_gt (xd_sub (xv_dget (M := M) hu (xv_name 1 rfl) (xd_name 5 rfl (.str b.1)) dWT k1).int (xv_dget (M := M) hu (xv_name 1 rfl) (xd_name 6 rfl (.str b.2.1)) dWT k3).int) (xv_name 7 rfl).int) (fun c H3 s3 => ?_) (fun c H3 s3 => rb_nil (rb_nil ?_))
      · have c' : s1'.w b.1 - s1'.w b.2.1 > b.2.2 := by simpa using c
        have estep : Bf.step s1' i b = ⟨Bf.up s1'.w b.1 (s1'.w b.2.1 + b.2.2), Bf.ins s1'.L b.1, Bf.up s1'.p b.1 i, some b.1⟩ := if_pos c'
        refine rb_dput (M := M) hu (xd_add (xv_dget (M := M) hu (xv_name 1 rfl) (xd_name 6 rfl (.str b.2.1)) (dWT.up s3) k3).int (xv_name 7 rfl).int) (xv_name 1 rfl) (xd_name 5 rfl (.str b.1)) (dWT.up s3) (by omega) fun u4 H4 s4 hu4 => ?_
        have e4 := dp_int hu4
        subst e4
        rw [ins_mem k1, up_int]
        have dL4 : DM (upd H4 W (.dK (dmap ks fun z => V.int (Bf.up s1'.w b.1 (s1'.w b.2.1 + b.2.2) z)))) L s1'.L (fun x => .int ((s1'.p x : Nat) : Int)) := by
          show upd H4 W _ L = _
          rw [upd_ne (Ne.symm hWL)]
          exact dLT.up (s3.trans s4)
        refine rb_dput (M := M) hu (xv_name 4 rfl).int (xv_name 2 rfl) (xd_name 5 rfl (.str b.1)) dL4 (by omega) fun u5 H5 s5 hu5 => ?_
        have e5 := dp_int hu5
        subst e5
        rw [up_nat]
        refine rb_set (M := M) 3 (xd_name 5 rfl (.str b.1)) (fun u6 H6 s6 hu6 => ?_) scLower.nd
        rw [dp_str hu6]
        refine rb_nil (rb_nil ⟨((((((sH.trans (.of sT)).trans (.of s3)).trans (.of s4)).upd (by simp)).trans (.of s5)).upd (by simp)).trans (.of s6), ?_⟩)
        rw [enext, estep]
        refine ⟨?_, s6 _ _ upd_same, _, _, _, _, rfl⟩
        refine s6 _ _ ?_
        rw [upd_ne hWL]
        exact s5 _ _ upd_same
      · have c' : ¬ s1'.w b.1 - s1'.w b.2.1 > b.2.2 := by simpa using c
        have estep : Bf.step s1' i b = s1' := if_neg c'
        refine ⟨(sH.trans (.of sT)).trans (.of s3), ?_⟩
        rw [enext, estep]
        exact ⟨dWT.up s3, dLT.up s3, _, _, _, _, rfl⟩
    · obtain ⟨sH, dW', dL', a1, a2, a3, a4, rfl⟩ := hp
      have e0 : bs.take (bs.map (encB k2)).length = bs := by rw [List.length_map, List.take_length]
      rw [e0] at dW' dL' ⊢
      exact rb_retR (XV.go (xv_name 3 rfl) fun H3 s3 => q H3 (((SameX.of (s1.trans s2)).trans sH).trans (.of s3)) (dW'.up s3) (dL'.up s3))
end
end Zn

set_option Elab.async false
set_option linter.all false
set_option maxRecDepth 100000
set_option maxHeartbeats 4000000
namespace Dl
open PySem PySem.Spec PyProof.Rows L2
section
variable {X : Cx} {M : List Addr} {σ : L2.St} {H : Hp} {c kx vx tg iter : Expr} {body rest : List Stmt} {scope : Scope} {own : List (Str × Nat)} {pos p1 p2 py spos : Pos} {D : Ends} {y : Str}
theorem rb_while (Pv : Nat → L2.St → Hp → Prop) (m0 : Nat) (h0 : Pv m0 σ H) (hs : ∀ m σ' H', Pv m σ' H' → RT X c σ' H' fun b H1 => if b = true then RB X body { D with nx := fun σ2 H2 => ∃ m', m' < m ∧ Pv m' σ2 H2, ct := fun σ2 H2 => ∃ m', m' < m ∧ Pv m' σ2 H2, bk := RB X rest D } σ' H1 else RB X rest D σ' H1)
    (hp : PassesOwn (model X.prog X.w) X.A X.env X.xe := by exact PassesOwn.never) : RB X (.While c body [] pos :: rest) D σ H :=
  ⟨_, pss_cons (ps_while hp rt_ rb_) rb_, Pv, ⟨m0, h0⟩, fun m σ' H' w => by
    obtain ⟨t, ht, q⟩ := hs m σ' H' w
    refine ⟨fun σ H Q => ∃ Q0, t σ H Q0 ∧ ∀ b H1, Q0 b H1 → Q b H1, ⟨fun pins s σ H Q I ⟨Q0, q0, k⟩ => thn (ht.run pins s σ H Q0 I q0) fun u s' ⟨H1, I1, q1⟩ => ⟨H1, I1, k u H1 q1⟩⟩, _, q, fun b H1 z => ?_⟩
    cases b with
    | true => exact iteT ⟨_, fun σ2 H2 h => h, (by rw [if_pos rfl] at z; exact z)⟩
    | false => exact iteF (by rw [if_neg Bool.false_ne_true] at z; exact z)⟩
theorem XT.go {k : Bool} {Q : Bool → Hp → Prop} {e : Expr} (h : XT X σ H e k) (q : ∀ H2, Same H H2 → Q k H2) : RT X e σ H Q := h H (Same.refl H) Q q
theorem rb_break (h : D.bk σ H) : RB X (.Break pos :: rest) D σ H := ⟨_, pss_cons ps_break rb_, h⟩
/-- y = {name: value for .. in names} -/
theorem rb_setD (i : Nat) {ks : List Str} (f : Str → V) (L : Live M H) (hN : X.N.Nodup) (hit : XL X M σ H iter (ks.map PyData.str)) (nd : ks.Nodup) (hz : ks.length ≤ 10000) (ok : BlkOk X.N X.env.scope scope own)
    (hst : ∀ x H1, Same H H1 → BG X scope tg (.str x) (wipe σ (own.map (·.2))) H1 fun σ2 H2 => wipe σ2 (own.map (·.2)) = wipe σ (own.map (·.2)) ∧ Same H1 H2 ∧ ∀ H3, Same H2 H3 → BE X scope kx σ2 H3 fun y H4 => Same H3 H4 ∧ y = .str x ∧ BE X scope vx σ2 H4 fun z H5 => Same H4 H5 ∧ z = f x)
    (q : ∀ p H1, Same H H1 → H p = none → DM H1 p ks f → RB X rest D (σ.set i (some (.ref p))) H1)
    (hi : X.N[i]? = some y := by rfl) (hx : X.env.scope.names.lookup y = some .local := by rfl) (hsw : swapsWith (.DictComp kx vx [⟨tg, iter, [], 0⟩] scope pos) (some (.Name y py)) spos.line X.env = pure true := by exact sw_trueD rfl rfl rfl rfl)
    (hc : X.calm = true := by rfl) (hs : ∀ x, foldedSetIterable iter X.env x = pure x := by intro _; rfl) : RB X (.Assign [.Name y py] (.DictComp kx vx [⟨tg, iter, [], 0⟩] scope pos) spos :: rest) D σ H :=
  ⟨_, pss_cons (ps_setDc (own := own) hc hN hi hx hsw (pi_list re_) ok (fun _ _ _ _ _ => bg_) (fun _ _ _ _ _ => bt_) (fun _ _ _ _ _ => be_) (fun _ _ _ _ _ => be_) hs) rb_, hit.go fun a xs H2 s2 ha0 ha hx => by
    refine ⟨a, rfl, ⟨xs, SqL.of ha⟩, fun p hp => ?_⟩
    have exs : xs = ks.map V.str := by
      clear hit nd hz hst q ha
      induction ks generalizing xs with
      | nil => cases hx; rfl
      | cons k t ih =>
        cases hx with
        | cons h1 h2 => rw [dp_str h1, ih _ h2]; rfl
    subst exs
    refine dc_list (xs := ks.map V.str) (a := a) (fun i H' => Same H2 H' ∧ DM H' p (ks.take i) f) ⟨same_new hp, upd_same⟩ (fun i H' _ w => SqL.of (w.1 _ _ ha)) (fun i x H' hi w => ?_) (fun H' w => ?_)
    · obtain ⟨sH, hD⟩ := w
      rw [List.getElem?_map] at hi
      obtain ⟨k, hk, rfl⟩ := Option.map_eq_some_iff.mp hi
      refine bg_mono (hst k H' (s2.trans sH)) fun σ2 H3 ⟨hw, s3, hb⟩ => ⟨hw, bt_nil (iteT (be_mono (hb H3 (Same.refl _)) fun y H4 ⟨s4, ey, hv⟩ => be_mono hv fun z H5 ⟨s5, ez⟩ => ?_))⟩
      subst ey ez
      have s35 := (s3.trans s4).trans s5
      have hD5 : H5 p = some (.dK (dmap (ks.take i) f)) := s35 _ _ hD
      have hil : i < ks.length := (List.getElem?_eq_some_iff.mp hk).1
      refine ⟨_, .inr k, rfl, hD5, ?_, fun b o e => ?_, ?_⟩
      · rw [dmap_len, List.length_take]
        exact Nat.lt_of_le_of_lt (show min i ks.length ≤ 10000 by omega) (by decide)
      · rw [upd_ne (fun z => by rw [z, hp] at e; cases e)]
        exact s35 _ _ (sH _ _ e)
      · rw [put_dmap]
        have hnk : k ∉ ks.take i := by
          intro hm
          obtain ⟨j, hj, e⟩ := List.getElem_of_mem hm
          rw [List.length_take] at hj
          rw [List.getElem_take] at e
          have e2 : ks[i] = k := by rw [List.getElem?_eq_getElem hil] at hk; exact Option.some.inj hk
          have := (List.getElem_inj (h₀ := by omega) (h₁ := hil) nd).mp (e.trans e2.symm)
          omega
        have e1 : Bf.ins (ks.take i) k = ks.take (i + 1) := by rw [show Bf.ins (ks.take i) k = ks.take i ++ [k] from if_neg hnk, List.take_add_one, hk]; rfl
        have e2 : Bf.up f k (f k) = f := by
          funext z
          by_cases e : z = k
          · rw [e, Bf.up_same]
          · rw [Bf.up_ne e]
        rw [e1, e2]
        exact upd_same
    · obtain ⟨sH, hD⟩ := w
      have e0 : ks.take (ks.map V.str).length = ks := by rw [List.length_map, List.take_length]
      rw [e0] at hD
      exact q p H' (s2.trans sH) (s2.free hp) hD⟩
end
end Dl
namespace Zn
open PySem PySem.Spec PyProof.Rows L2 Dl
/-! bounds: ring_behind, settle -/
abbrev sRing : Stmt := top 18
abbrev sSettle : Stmt := top 16
def ringOf (bs : List Bd) (s : S) (c : Str) (t : Nat) : List Int := (List.range t).map fun i => ((s.p (Bf.it (Bf.nx bs s) i c) : Nat) : Int)
theorem ring_snoc {bs : List Bd} {s : S} {c : Str} {t : Nat} : ringOf bs s c (t + 1) = ringOf bs s c t ++ [((s.p (Bf.it (Bf.nx bs s) t c) : Nat) : Int)] := by
  unfold ringOf
  rw [List.range_succ, List.map_append]
  rfl
section
variable {P : Program} {w : World} {K : PySem.W.Frag} {mg : Str → Option Value} {base : Heap}
def spRing (K : PySem.W.Frag) : Sp := fun vs H Q _ => ∃ (v : V) (L : Addr) (z : Str) (M : List Addr) (k k2 : Bool) (bs : List Bd) (s : S), vs = [v, .ref L, .str z] ∧ Live M H ∧ Dq K (hid M H) v (encBs k k2 bs) ∧ DM H L s.L (fun x => .int ((s.p x : Nat) : Int)) ∧ s.L.length ≤ 5000 ∧
  (∀ x ∈ s.L, bs[s.p x]? = some (Bf.bd bs s x)) ∧ (∀ j, Bf.it (Bf.nx bs s) j z ∈ s.L) ∧
  ∀ t c, (∀ k, Bf.it (Bf.nx bs s) k c ∈ s.L) → 1 ≤ t → t ≤ s.L.length → Bf.it (Bf.nx bs s) t c = c → ∀ H1 p, Same H H1 → H p = none → H1 p = some (.lst ((ringOf bs s c t).map V.int)) → Q (.ref p) H1
abbrev nRing : List Str := ["bounds", "lowered_by", "name", "turn", "ring"]
theorem scRing : FnScope nRing ["bounds", "lowered_by", "name"] (defScope sRing) := ⟨rfl, rfl, rfl, by decide +kernel, rfl, by decide +kernel, by decide +kernel⟩
theorem bs_at {bs : List Bd} {k2 : Bool} {i : Nat} {b : Bd} (h : bs[i]? = some b) : atI (bs.map (encB k2)) ((i : Nat) : Int) = some (encB k2 b) := atI_nat (by rw [List.getElem?_map, h]; rfl)
/-- bounds[e][1] -/
theorem xd_second {X : Cx} {M : List Addr} {σ : L2.St} {H : Hp} {a e : Expr} {p1 p2 : Pos} {k k2 : Bool} {bs : List Bd} {p3 : Pos} {j : _} {i : Nat} {b : Bd} (hs : PlainIx e) (ha : XD X M σ H a (encBs k k2 bs)) (he : XD X M σ H e (.int ((i : Nat) : Int))) (hb : bs[i]? = some b) :
    XD X M σ H (.Subscript (.Subscript a e p1) (.Constant (.int 1) j p3) p2) (.str b.2.1) := xd_ixQ (fun _ _ => rfl) (xd_ixQ hs ha he (bs_at hb)) xd_int (atI_nat (j := 1) rfl)
theorem ok_ring {f : Addr} {fd : FuncData} (T : Nm mg) (F : Df K mg "ring_behind" sRing ["bounds", "lowered_by", "name"] f fd) : FnOk P w K mg base CX0 1 f fd ["bounds", "lowered_by", "name"] (spRing K) := by
  refine F.F.ok scRing (fun vs H Q E h => ?_) (fun cdv A outer sh H vs Q E hr h => ?_)
  · obtain ⟨v, L, z, M, k, k2, bs, s, rfl, _⟩ := h; rfl
  · obtain ⟨v, L, z, M, k, k2, bs, s, rfl, hM, hv, dL, hl, hat, hin, q⟩ := h
    have hu := hu_of hr
    refine rb_range T.rng (XD.go (M := M) (xd_dlen T.len (xv_name 1 rfl) dL) fun v1 H1 s1 hv1 => ⟨s.L.length, dp_int hv1, by omega, fun j σ' H' => Same H H' ∧ ∃ a b, σ' = [some v, some (.ref L), some (.str (Bf.it (Bf.nx bs s) j z)), a, b], ⟨s1, none, none, rfl⟩, fun j σ' H' hj hp => ?_, fun σ' H' hp => ?_⟩)
    · obtain ⟨sH, a, b, rfl⟩ := hp
      refine rg_name 3 ?_ scRing.nd
      refine rb_set (M := M) 2 (xd_second (fun _ _ => rfl) (xd_name 0 rfl (hv.up (hid_mono sH))) (xv_dget (M := M) hu (xv_name 1 rfl) (xd_name 2 rfl (.str _)) (dL.up sH) (hin j)).int (hat _ (hin j))) (fun u H2 s2 hu2 => ?_) scRing.nd
      rw [dp_str hu2]
      exact rb_nil ⟨sH.trans s2, some (.int j), b, by rw [Bf.it_succ]; rfl⟩
    · obtain ⟨sH, a, b, rfl⟩ := hp
      obtain ⟨t, ht1, htl, htc⟩ := Bf.round hin
      generalize hc : Bf.it (Bf.nx bs s) s.L.length z = c at *
      have hinc : ∀ k, Bf.it (Bf.nx bs s) k c ∈ s.L := fun k => by rw [← hc, ← Bf.it_add]; exact hin _
      obtain ⟨t, ht, hmin⟩ : ∃ t, (1 ≤ t ∧ t ≤ s.L.length ∧ Bf.it (Bf.nx bs s) t c = c) ∧ ∀ t', 1 ≤ t' → t' < t → Bf.it (Bf.nx bs s) t' c ≠ c := by
        have key : ∀ m t, t ≤ m → (1 ≤ t ∧ t ≤ s.L.length ∧ Bf.it (Bf.nx bs s) t c = c) → ∃ t, (1 ≤ t ∧ t ≤ s.L.length ∧ Bf.it (Bf.nx bs s) t c = c) ∧ ∀ t', 1 ≤ t' → t' < t → Bf.it (Bf.nx bs s) t' c ≠ c := by
          intro m
          induction m with
          | zero => intro t h1 h2; omega
          | succ m ih =>
            intro t h1 h2
            by_cases e : ∃ t', 1 ≤ t' ∧ t' < t ∧ Bf.it (Bf.nx bs s) t' c = c
            · obtain ⟨t', e1, e2, e3⟩ := e
              exact ih t' (by omega) ⟨e1, by omega, e3⟩
            · exact ⟨t, h2, fun t' e1 e2 e3 => e ⟨t', e1, e2, e3⟩⟩
        exact key t t (Nat.le_refl _) ⟨ht1, htl, htc⟩
      refine rb_setL (M := M) 4 (xl_lst (hM.mono sH) (xa_cons (xv_dget (M := M) hu (xv_name 1 rfl) (xd_name 2 rfl (.str _)) (dL.up sH) (hinc 0)).int xa_nil)) (fun r xs H2 s2 hr0 hr2 hx => ?_) scRing.nd
      have exs : xs = (ringOf bs s c 1).map V.int := by
        cases hx with
        | cons h1 h2 => cases h2; rw [dp_int h1]; rfl
      subst exs
      have sH2 := sH.trans s2
      have hr00 : H r = none := sH.free hr0
      have hM2 : Live (r :: M) H2 := fun b hb => by
        rcases List.mem_cons.mp hb with e | hb
        · rw [e, hr2]; simp
        · exact (hM.mono sH2) b hb
      have hrL : L ≠ r := fun e => by
        have h1 : H L = none := by rw [e]; exact hr00
        unfold DM at dL
        rw [h1] at dL
        cases dL
      refine rb_while (fun m σ' H' => ∃ i, i + 1 ≤ t ∧ m = t - (i + 1) ∧ SameX [r] H2 H' ∧ H' r = some (.lst ((ringOf bs s c (i + 1)).map V.int)) ∧ σ' = [some v, some (.ref L), some (.str c), a, some (.ref r)]) (t - 1) ⟨0, ht.1, rfl, SameX.of (Same.refl _), hr2, rfl⟩ fun m σ' H' hp => ?_
      obtain ⟨i, hit, rfl, sX, hrr, rfl⟩ := hp
      have hM' : Live (r :: M) H' := sX.live hM2 fun a ha _ => by
        rw [List.mem_singleton] at ha
        rw [ha, hrr]; simp
      have hvv : Dq K (hid (r :: M) H') v (encBs k k2 bs) := by
        have h1 : Dq K (hid (r :: M) H2) v (encBs k k2 bs) := hv.up (hid_step (M := M) hr00 sH2)
        exact h1.up (sX.hid (by simp))
      have dL' : DM H' L s.L (fun x => .int ((s.p x : Nat) : Int)) := sX _ _ (by simp [hrL]) (dL.up sH2)
      have hlast : atI ((ringOf bs s c (i + 1)).map V.int) (-1) = some (V.int ((s.p (Bf.it (Bf.nx bs s) i c) : Nat) : Int)) := by
        rw [ring_snoc, List.map_append]
        exact atI_last _ _
      have hmi := hinc i
      have sA : Same H H' := ((SameX.of (M := [r]) sH2).trans sX).same (by simp [hr00])
      have hti : Bf.it (Bf.nx bs s) (i + 1) c = Bf.nx bs s (Bf.it (Bf.nx bs s) i c) := Bf.it_succ _ _ _
      have hrl : (ringOf bs s c (i + 1)).length = i + 1 := by unfold ringOf; rw [List.length_map, List.length_range]
      refine XT.go (xt_neS (M := r :: M) (xd_second (M := r :: M) (fun _ _ => rfl) (xd_name 0 rfl hvv) (xv_ixS (fun _ _ => rfl) (xv_name 4 rfl) (SqL.of hrr) (XD.vint (M := []) (xd_neg xd_int)) hlast).int (hat _ hmi)) (xd_name 2 rfl (.str c))) fun H3 s3 => ?_
      by_cases hcc : (Bf.bd bs s (Bf.it (Bf.nx bs s) i c)).2.1 = c
      · rw [decide_eq_true hcc]
        refine iteF ?_
        have hti2 : Bf.it (Bf.nx bs s) (i + 1) c = c := hti.trans hcc
        have het : i + 1 = t := by
          apply Classical.byContradiction
          intro n
          exact hmin (i + 1) (by omega) (by omega) hti2
        refine rb_retR (XV.go (xv_name 4 rfl) fun H4 s4 => q t c hinc ht.1 ht.2.1 ht.2.2 H4 r ((sA.trans s3).trans s4) hr00 ?_)
        rw [← het]
        exact s4 _ _ (s3 _ _ hrr)
      · rw [decide_eq_false hcc]
        refine iteT ?_
        have het : i + 1 ≠ t := fun e => hcc (by rw [← e] at ht; exact hti.symm.trans ht.2.2)
        refine rb_append (M := r :: M) (List.mem_cons_self ..) (xv_name 4 rfl) (s3 _ _ hrr) (xv_dget (M := r :: M) hu (xv_name 1 rfl) (xd_second (M := r :: M) (fun _ _ => rfl) (xd_name 0 rfl (hvv.up (hid_mono s3))) (xv_ixS (fun _ _ => rfl) (xv_name 4 rfl) (SqL.of (s3 _ _ hrr)) (XD.vint (M := []) (xd_neg xd_int)) hlast).int (hat _ hmi)) (dL'.up s3) (by have := hinc (i + 1); rw [hti] at this; exact this)).int (by rw [List.length_map, hrl]; omega) fun v4 H4 s4 hv4 => rb_nil ⟨t - (i + 1 + 1), by omega, i + 1, by omega, rfl, ((sX.trans (.of (s3.trans s4))).upd (by simp)), ?_, rfl⟩
        rw [dp_int hv4, upd_same, ring_snoc (t := i + 1), List.map_append, hti]
        rfl
end
end Zn

set_option Elab.async false
set_option linter.all false
set_option maxRecDepth 100000
set_option maxHeartbeats 4000000
namespace Zn
open PySem PySem.Spec PyProof.Rows L2 Dl
/-! bounds: settle -/
theorem hid_fresh {M N : List Addr} {H H' : Hp} (s : Same H H') (h : ∀ a ∈ N, a ∈ M ∨ H a = none) : Same (hid M H) (hid N H') := fun b o e => by
  have n : b ∉ M := fun z => by unfold hid at e; rw [if_pos z] at e; cases e
  have eb := hid_le _ _ e
  have nN : b ∉ N := fun z => by
    rcases h b z with z | z
    · exact n z
    · rw [z] at eb; cases eb
  rw [hid_of nN]
  exact s _ _ eb
theorem mem_names {bs : List Bd} : ∀ {L : List Str} {b : Bd}, (b ∈ bs → b.1 ∈ bs.foldl (fun L b => Bf.ins (Bf.ins L b.1) b.2.1) L ∧ b.2.1 ∈ bs.foldl (fun L b => Bf.ins (Bf.ins L b.1) b.2.1) L) ∧ ∀ x ∈ L, x ∈ bs.foldl (fun L b => Bf.ins (Bf.ins L b.1) b.2.1) L := by
  induction bs with
  | nil => intro L b; exact ⟨fun h => (by cases h), fun x h => h⟩
  | cons c t ih =>
    intro L b
    have keep : ∀ x ∈ Bf.ins (Bf.ins L c.1) c.2.1, x ∈ t.foldl (fun L b => Bf.ins (Bf.ins L b.1) b.2.1) (Bf.ins (Bf.ins L c.1) c.2.1) := (ih (L := Bf.ins (Bf.ins L c.1) c.2.1) (b := b)).2
    refine ⟨fun hb => ?_, fun x hx => keep x (Bf.mem_ins.mpr (.inl (Bf.mem_ins.mpr (.inl hx))))⟩
    rcases List.mem_cons.mp hb with e | hb
    · subst e
      exact ⟨keep _ (Bf.mem_ins.mpr (.inl (Bf.mem_ins.mpr (.inr rfl)))), keep _ (Bf.mem_ins.mpr (.inr rfl))⟩
    · exact (ih (L := Bf.ins (Bf.ins L c.1) c.2.1) (b := b)).1 hb
theorem names_of {bs : List Bd} {b : Bd} (h : b ∈ bs) : b.1 ∈ namesOf bs ∧ b.2.1 ∈ namesOf bs := (mem_names (L := [])).1 h
theorem names_nodup (bs : List Bd) : (namesOf bs).Nodup := by
  have key : ∀ (bs : List Bd) (L : List Str), L.Nodup → (bs.foldl (fun L b => Bf.ins (Bf.ins L b.1) b.2.1) L).Nodup := by
    intro bs
    induction bs with
    | nil => intro L h; exact h
    | cons c t ih => intro L h; exact ih _ (Bf.nodup_ins (Bf.nodup_ins h))
  exact key bs [] List.nodup_nil
def s00 : S := ⟨fun _ => 0, [], fun _ => 0, none⟩
def passes (bs : List Bd) : Nat → S
  | 0 => s00
  | k + 1 => Bf.pass bs (passes bs k)
theorem passes_low (bs : List Bd) : ∀ k, Bf.Low bs k (passes bs k).w
  | 0 => fun j hj x v c => by
    have : j = 0 := by omega
    subst this
    cases c
    exact Int.le_refl _
  | k + 1 => Bf.low_pass (passes_low bs k)
theorem passes_inv (bs : List Bd) : ∀ k, ∃ τ T, Bf.Inv bs (namesOf bs) τ T (passes bs k)
  | 0 => ⟨fun _ => 0, 1, ⟨fun x hx => (by cases hx), fun _ _ => rfl, fun _ => Nat.zero_lt_one, fun x hx => (by cases hx), List.nodup_nil⟩⟩
  | k + 1 => Bf.inv_pass (fun b hb => (names_of hb).1) (passes_inv bs k)
theorem passes_L (bs : List Bd) (k : Nat) : (passes bs k).L.length ≤ (namesOf bs).length := by
  obtain ⟨τ, T, h⟩ := passes_inv bs k
  exact Bf.nodup_len h.a5 h.a4
/-- a ring, as indices -/
structure IsRing (bs : List Bd) (c : Nat → Bd) (ring : List Int) : Prop where
  pos : 1 ≤ ring.length
  at_ : ∀ i, i < ring.length → ∃ j : Nat, ring[i]? = some ((j : Nat) : Int) ∧ bs[j]? = some (c i)
  next : ∀ i, i < ring.length → (c i).2.1 = (c ((i + 1) % ring.length)).1
  neg : Bf.sumTo (fun i => (c i).2.2) ring.length < 0
theorem ring_is {bs : List Bd} {s : S} {c : Str} {t : Nat} (h : ∃ τ T, Bf.Inv bs (namesOf bs) τ T s) (hc : ∀ k, Bf.it (Bf.nx bs s) k c ∈ s.L) (h1 : 1 ≤ t) (ht : Bf.it (Bf.nx bs s) t c = c) : IsRing bs (fun i => Bf.bd bs s (Bf.it (Bf.nx bs s) i c)) (ringOf bs s c t) ∧ ¬ ∃ g, Bf.Holds bs g := by
  have hneg := Bf.round_neg h hc h1 ht
  have hl : (ringOf bs s c t).length = t := by unfold ringOf; rw [List.length_map, List.length_range]
  constructor
  · obtain ⟨τ, T, hI⟩ := h
    refine ⟨by rw [hl]; exact h1, fun i hi => ?_, fun i hi => ?_, by rw [hl]; exact hneg⟩
    · rw [hl] at hi
      refine ⟨s.p (Bf.it (Bf.nx bs s) i c), ?_, (hI.at (hc i)).1⟩
      unfold ringOf
      rw [List.getElem?_map, List.getElem?_range hi]
      rfl
    · rw [hl] at hi ⊢
      have e1 : (Bf.bd bs s (Bf.it (Bf.nx bs s) i c)).2.1 = Bf.it (Bf.nx bs s) (i + 1) c := (Bf.it_succ (Bf.nx bs s) i c).symm
      show (Bf.bd bs s (Bf.it (Bf.nx bs s) i c)).2.1 = (Bf.bd bs s (Bf.it (Bf.nx bs s) ((i + 1) % t) c)).1
      rw [e1, (hI.at (hc _)).2.1]
      by_cases e : i + 1 = t
      · rw [e, Nat.mod_self, ht]; rfl
      · rw [Nat.mod_eq_of_lt (by omega)]
  · rintro ⟨g, hg⟩
    have := Bf.round_holds h hc hg t
    rw [ht] at this
    have h0 : Bf.sumTo (fun i => Bf.cost bs s (Bf.it (Bf.nx bs s) i c)) t < 0 := hneg
    omega
section
variable {P : Program} {w : World} {K : PySem.W.Frag} {mg : Str → Option Value} {base : Heap}
def spSettle (K : PySem.W.Frag) : Sp := fun vs H Q _ => ∃ (v : V) (M : List Addr) (k k2 : Bool) (bs : List Bd), vs = [v] ∧ Live M H ∧ Dq K (hid M H) v (encBs k k2 bs) ∧ OkB bs ∧
  (∀ (g : Str → Int) H1 t W, Same H H1 → H t = none → H W = none → H1 t = some (.tup [.str "values", .ref W]) → DM H1 W (namesOf bs) (fun x => .int (g x)) → Bf.Holds bs g → Q (.ref t) H1) ∧
  (∀ (c : Nat → Bd) (ring : List Int) H1 t r, Same H H1 → H t = none → H r = none → H1 t = some (.tup [.str "ring", .ref r]) → H1 r = some (.lst (ring.map V.int)) → ring.length ≤ (namesOf bs).length → IsRing bs c ring → (¬ ∃ g, Bf.Holds bs g) → Q (.ref t) H1)
abbrev nSettle : List Str := ["bounds", "worth", "lowered_by", "last", "turn", "name"]
theorem scSettle : FnScope nSettle ["bounds"] (defScope sSettle) := ⟨rfl, rfl, rfl, by decide +kernel, rfl, by decide +kernel, by decide +kernel⟩
theorem isN_opt {M : List Addr} {H : Hp} {o : Option Str} : Dq K (hid M H) (optV o) (match o with | none => .none | some x => .str x) := by
  cases o with
  | none => exact .non
  | some x => exact .str x
theorem ok_settle {fB fN fL fR f : Addr} {gB gN gL gR fd : FuncData} (T : Nm mg) (GB : FnOk P w K mg base CX0 3 fB gB ["bounds"] (spR K RNeedB)) (FB : Df K mg "need_bounds" sNeedB ["bounds"] fB gB) (GN : FnOk P w K mg base CX0 1 fN gN ["bounds"] (spL K RNames)) (FN : Df K mg "names_in" sNames ["bounds"] fN gN)
    (GL : FnOk P w K mg base CX0 1 fL gL ["bounds", "worth", "lowered_by"] (spLower K)) (FL : Df K mg "lower_all" sLower ["bounds", "worth", "lowered_by"] fL gL) (GR : FnOk P w K mg base CX0 1 fR gR ["bounds", "lowered_by", "name"] (spRing K)) (FR : Df K mg "ring_behind" sRing ["bounds", "lowered_by", "name"] fR gR)
    (F : Df K mg "settle" sSettle ["bounds"] f fd) : FnOk P w K mg base CX0 4 f fd ["bounds"] (spSettle K) := by
  refine F.F.ok scSettle (fun vs H Q E h => ?_) (fun cdv A outer sh H vs Q E hr h => ?_)
  · obtain ⟨v, M, k, k2, bs, rfl, _⟩ := h; rfl
  · obtain ⟨v, M, k, k2, bs, rfl, hM, hv, ok, qv, qr⟩ := h
    have hu := hu_of hr
    have hr1 := hr.mono (show 1 ≤ 3 by decide)
    have nl : (namesOf bs).length ≤ 2000 := by
      have := names_len bs bs.length
      rw [List.take_length] at this
      have := ok.1
      omega
    refine rb_expr (M := M) (xd_call hM GB hr FB.g FB.F.kp FB.b (xa_cons (xd_name 0 rfl hv) xa_nil) ⟨k, k2, bs, rfl, ok, rfl⟩) fun H1 s1 => ?_
    have hv1 := hv.up (hid_mono (M := M) s1)
    refine rb_setD 1 (own := [("name", 5)]) (fun x => V.int (s00.w x)) (hM.mono s1) scSettle.nd (xl_call (hM.mono s1) GN hr1 FN.g FN.F.kp FN.b (xa_cons (xd_name 0 rfl hv1) xa_nil) ⟨k, k2, bs, rfl, ok, rfl⟩) (names_nodup bs) (by omega) (blkOk_by (own := [("name", 5)]) (N := nSettle) (sc := defScope sSettle) (by decide +kernel)) (fun x H2 s2 => ?comp) fun W H2 s2 hW0 dW => ?_
    case comp =>
      intro s0 H0 C0 cl fp
      refine rg_name 5 ⟨rfl, Same.refl _, fun H3 s3 s0 H0 C0 cl fp => ?_⟩ scSettle.nd
      exact XD.go (M := []) (xd_name 5 rfl (.str x)) fun v H4 s4 hv4 => ⟨s4, dp_str hv4, fun s0 H0 C0 cl fp => XV.go xv_int fun H5 s5 => ⟨s5, rfl⟩⟩
    refine rb_setR 2 (re_dnew (f := fun x => V.int ((s00.p x : Nat) : Int)) fun L hL0 dL => ?_) scSettle.nd
    have sL := same_new (o := .dK []) hL0
    generalize hHL : upd H2 L (.dK []) = H3 at *
    have dW3 := dW.up sL
    have hWL : W ≠ L := fun e => by rw [e] at dW; unfold DM at dW; rw [hL0] at dW; cases dW
    refine rb_set (M := M) 3 xd_non (fun v4 H4 s4 hv4 => ?_) scSettle.nd
    rw [dp_non hv4]
    have s04 : Same H H4 := ((s1.trans s2).trans sL).trans s4
    have hW00 : H W = none := s1.free hW0
    have hL00 : H L = none := (s1.trans s2).free hL0
    have hM' : Live (W :: L :: M) H4 := fun b hb => by
      rcases List.mem_cons.mp hb with e | hb
      · rw [e]; exact (dW3.up s4).some
      · rcases List.mem_cons.mp hb with e | hb
        · rw [e]; exact (dL.up s4).some
        · exact (hM.mono s04) b hb
    have hv4' : Dq K (hid (W :: L :: M) H4) v (encBs k k2 bs) := by
      exact hv.up (hid_fresh s04 (by simp only [List.mem_cons]; rintro a (rfl | rfl | h) <;> simp_all))
    have inv : ∀ j, ∃ τ T, Bf.Inv bs (namesOf bs) τ T (passes bs j) := passes_inv bs
    -- behind the loop
    have fin : ∀ (j : Nat) (H' : Hp) (σ' : L2.St) (u : Option V), SameX [W, L] H4 H' → DM H' W (namesOf bs) (fun x => .int ((passes bs j).w x)) → DM H' L (passes bs j).L (fun x => .int (((passes bs j).p x : Nat) : Int)) → σ' = [some v, some (.ref W), some (.ref L), some (optV (passes bs j).last), u, none] →
        ((passes bs j).last = none → Bf.Holds bs (passes bs j).w) → (∀ z, (passes bs j).last = some z → ∀ i, Bf.it (Bf.nx bs (passes bs j)) i z ∈ (passes bs j).L) →
        RB (cxOf CX0 P w K mg base nSettle "settle" (defScope sSettle) f cdv A outer sh H E).nox ((defBody sSettle).drop 5) { nx := fun _ H1 => Q .non H1, rt := Q } σ' H' := by
      intro j H' σ' u sX dW' dL' hσ hv' hr'
      subst hσ
      have sA : Same H H' := ((SameX.of (M := [W, L]) s04).trans sX).same (by simp [hW00, hL00])
      refine rb_if (xt_isNone (M := []) (xd_name 3 rfl isN_opt)) (fun e H5 s5 => ?_) (fun e H5 s5 => rb_nil ?_)
      · have el : (passes bs j).last = none := by
          cases q : (passes bs j).last with
          | none => rfl
          | some z => rw [q] at e; cases e
        refine rb_retR ⟨_, pe_tup ra_, ra_cons (XV.go xv_str fun H6 s6 => ra_1 (XV.go (xv_name 1 rfl) fun H7 s7 => ⟨by show 2 ≤ sizeLine; decide, fun t ht => ?_⟩))⟩
        have s57 := (s5.trans s6).trans s7
        exact qv _ _ t W ((sA.trans s57).trans (same_new ht)) (((sA.trans s57)).free ht) hW00 upd_same ((dW'.up s57).up (same_new ht)) (hv' el)
      · obtain ⟨z, ez⟩ : ∃ z, (passes bs j).last = some z := by
          cases q : (passes bs j).last with
          | none => rw [q] at e; cases e
          | some z => exact ⟨z, rfl⟩
        rw [ez]
        obtain ⟨τ, TT, hI⟩ := inv j
        have dL5 := dL'.up s5
        refine rb_retR ⟨_, pe_tup ra_, ra_cons (XV.go xv_str fun H6 s6 => ra_1 (re_call GR hr1 FR.g FR.F.kp FR.b (ra_cons (XV.go (xv_name 0 rfl) fun H7 s7 => ra_cons (XV.go (xv_name 2 rfl) fun H8 s8 => ra_1 (XV.go (xv_name 3 rfl) fun H9 s9 => ?_))))))⟩
        have s59 := (((s5.trans s6).trans s7).trans s8).trans s9
        have pl := passes_L bs j
        refine ⟨v, L, z, M, k, k2, bs, passes bs j, rfl, hM.mono (sA.trans s59), hv.up (hid_mono (sA.trans s59)), dL'.up s59, by omega, fun x hx => (hI.at hx).1, hr' z ez, fun t c hc h1 htl ht H10 r s10 hr0 hr10 => ⟨by show 2 ≤ sizeLine; decide, fun tt htt => ?_⟩⟩
        obtain ⟨hring, hno⟩ := ring_is (inv j) hc h1 ht
        have s510 := (sA.trans s59).trans s10
        refine qr _ _ _ tt r (s510.trans (same_new htt)) (s510.free htt) ((sA.trans s59).free hr0) upd_same (same_new htt _ _ hr10) ?_ hring hno
        unfold ringOf
        rw [List.length_map, List.length_range]
        omega
    refine rb_range T.rng (XD.go (M := M) (xd_dlen T.len (xv_name 1 rfl) (dW3.up s4)) fun v5 H5 s5 hv5 => ⟨(namesOf bs).length, dp_int hv5, by omega, fun j σ' H' => SameX [W, L] H4 H' ∧ DM H' W (namesOf bs) (fun x => .int ((passes bs j).w x)) ∧ DM H' L (passes bs j).L (fun x => .int (((passes bs j).p x : Nat) : Int)) ∧ (j = 0 ∨ (passes bs j).last ≠ none) ∧ ∃ u, σ' = [some v, some (.ref W), some (.ref L), some (optV (passes bs j).last), u, none],
      ⟨SameX.of s5, (dW3.up s4).up s5, (dL.up s4).up s5, .inl rfl, none, rfl⟩, fun j σ' H' hj hp => ?_, fun σ' H' hp => ?_⟩)
    · obtain ⟨sX, dW', dL', hl, u, rfl⟩ := hp
      refine rg_name 4 ?_ scSettle.nd
      have hMj : Live (W :: L :: M) H' := sX.live hM' fun a ha _ => by
        simp only [List.mem_cons, List.not_mem_nil, or_false] at ha
        rcases ha with rfl | rfl
        · exact dW'.some
        · exact dL'.some
      have hvj : Dq K (hid (W :: L :: M) H') v (encBs k k2 bs) := hv4'.up (sX.hid (by simp))
      have pl := passes_L bs j
      refine rb_setR 3 (re_call GL hr1 FL.g FL.F.kp FL.b (ra_cons (XV.go (xv_name 0 rfl) fun H6 s6 => ra_cons (XV.go (xv_name 1 rfl) fun H7 s7 => ra_1 (XV.go (xv_name 2 rfl) fun H8 s8 => ?_))))) scSettle.nd
      have s68 := (s6.trans s7).trans s8
      refine ⟨v, W, L, W :: L :: M, k, k2, bs, namesOf bs, passes bs j, rfl, by simp, by simp, hWL, hMj.mono s68, hvj.up (hid_mono s68), ok, fun b hb => names_of hb, nl, by omega, dW'.up s68, dL'.up s68, fun H9 s9 dW9 dL9 => ?_⟩
      have sX9 : SameX [W, L] H4 H9 := (sX.trans (.of s68)).trans s9
      refine rb_if (xt_isNone (M := []) (xd_name 3 rfl isN_opt)) (fun e H10 s10 => rb_break ?_) (fun e H10 s10 => rb_nil (rb_nil ⟨sX9.trans (.of s10), dW9.up s10, dL9.up s10, .inr fun q => ?_, some (.int j), rfl⟩))
      · have el : (passes bs (j + 1)).last = none := by
          cases q : (passes bs (j + 1)).last with
          | none => rfl
          | some z =>
            have q' : (Bf.pass bs (passes bs j)).last = some z := q
            rw [q'] at e; cases e
        exact fin (j + 1) H10 _ _ (sX9.trans (.of s10)) (dW9.up s10) (dL9.up s10) rfl (fun _ => Bf.pass_none el) (fun z ez => by rw [el] at ez; cases ez)
      · have q' : (Bf.pass bs (passes bs j)).last = none := q
        rw [q'] at e; cases e
    · obtain ⟨sX, dW', dL', hl, u, rfl⟩ := hp
      refine fin (namesOf bs).length H' _ u sX dW' dL' rfl (fun el => ?_) (fun z ez => ?_)
      · rcases hl with hl | hl
        · intro b hb
          have := (names_of hb).1
          rw [List.length_eq_zero_iff.mp hl] at this
          cases this
        · exact absurd el hl
      · cases hn : (namesOf bs).length with
        | zero =>
          rw [hn] at ez
          cases ez
        | succ m =>
          rw [hn] at ez
          exact Bf.onward (N := namesOf bs) (fun b hb => (names_of hb).1) (fun b hb => (names_of hb).2) (by rw [hn]; exact passes_low bs m) (inv (m + 1)) ez
end
end Zn

set_option Elab.async false
set_option linter.all false
set_option maxRecDepth 100000
set_option maxHeartbeats 4000000
namespace Dl
open PySem PySem.Spec PyProof.Rows L2
theorem xv_dgetE {X : Cx} {M : List Addr} {σ : L2.St} {H : Hp} {o i : Expr} {pos : Pos} {W : Addr} {ks : List Str} {f : Str → V} {x : Str} {u : V} (hu : X.A.units + 1 < cLine) (ho : XV X σ H o (.ref W)) (hk : XD X M σ H i (.str x)) (hW : DM H W ks f) (hx : x ∈ ks) (e : f x = u) (hs : NoSl i := by exact fun _ _ => rfl) : XV X σ H (.Subscript o i pos) u := e ▸ xv_dget hu ho hk hW hx hs
end Dl
namespace Zn
open PySem PySem.Spec PyProof.Rows L2 Dl
/-! bounds: holds, shows_ring -/
def decB : PyData → Option Bd
  | .tuple [.str x, .str y, .int n] => some (x, y, n)
  | .list [.str x, .str y, .int n] => some (x, y, n)
  | _ => none
theorem dec_enc (k : Bool) (b : Bd) : decB (encB k b) = some b := by cases k <;> rfl
theorem comp_enc {k : Bool} {bs : List Bd} {h : Bd → PyData} : (bs.map (encB k)).filterMap (fun d => (decB d).map h) = bs.map h := by
  induction bs with
  | nil => rfl
  | cons b t ih =>
    rw [List.map_cons, List.map_cons, ← ih]
    have e : (decB (encB k b)).map h = some (h b) := by rw [dec_enc]; rfl
    rw [List.filterMap_cons, e]
theorem map_bools {α : Type} {l : List α} {h : α → Bool} : l.map (fun b => PyData.bool (h b)) = (l.map h).map PyData.bool := by rw [List.map_map]; rfl
theorem map_ints {α : Type} {l : List α} {h : α → Int} : l.map (fun b => PyData.int (h b)) = (l.map h).map PyData.int := by rw [List.map_map]; rfl
theorem map_all {α : Type} {l : List α} {h : α → Bool} : (l.map h).all id = l.all h := by rw [List.all_map]; rfl
def holdsB (bs : List Bd) (g : Str → Int) : Bool := bs.all fun b => decide (g b.1 - g b.2.1 ≤ b.2.2)
theorem holdsB_iff {bs : List Bd} {g : Str → Int} : holdsB bs g = true ↔ Bf.Holds bs g := by
  unfold holdsB Bf.Holds
  rw [List.all_eq_true]
  constructor
  · intro h b hb; exact of_decide_eq_true (h b hb)
  · intro h b hb; exact decide_eq_true (h b hb)
theorem names_back {bs : List Bd} {x : Str} (h : x ∈ namesOf bs) : ∃ b ∈ bs, x = b.1 ∨ x = b.2.1 := by
  have key : ∀ (bs : List Bd) (L : List Str), x ∈ bs.foldl (fun L b => Bf.ins (Bf.ins L b.1) b.2.1) L → x ∈ L ∨ ∃ b ∈ bs, x = b.1 ∨ x = b.2.1 := by
    intro bs
    induction bs with
    | nil => intro L h; exact .inl h
    | cons c t ih =>
      intro L h
      rcases ih _ h with h | ⟨b, hb, e⟩
      · rcases Bf.mem_ins.mp h with h | h
        · rcases Bf.mem_ins.mp h with h | h
          · exact .inl h
          · exact .inr ⟨c, List.mem_cons_self .., .inl h⟩
        · exact .inr ⟨c, List.mem_cons_self .., .inr h⟩
      · exact .inr ⟨b, List.mem_cons_of_mem _ hb, e⟩
  rcases key bs [] h with h | h
  · cases h
  · exact h
abbrev sHolds : Stmt := top 19
abbrev sShows : Stmt := top 20
section
variable {P : Program} {w : World} {K : PySem.W.Frag} {mg : Str → Option Value} {base : Heap}
def spHolds (K : PySem.W.Frag) : Sp := fun vs H Q _ => ∃ (v : V) (W : Addr) (M : List Addr) (k k2 : Bool) (bs : List Bd) (ks : List Str) (f : Str → V) (g : Str → Int), vs = [v, .ref W] ∧ Live M H ∧ Dq K (hid M H) v (encBs k k2 bs) ∧ OkB bs ∧ DM H W ks f ∧
  (∀ x ∈ namesOf bs, x ∈ ks ∧ f x = .int (g x)) ∧ ∀ H1, Same H H1 → Q (.bl (holdsB bs g)) H1
abbrev nHolds : List Str := ["bounds", "values", "name", "x", "y", "n"]
theorem scHolds : FnScope nHolds ["bounds", "values"] (defScope sHolds) := ⟨rfl, rfl, rfl, by decide +kernel, rfl, by decide +kernel, by decide +kernel⟩
def fNm : PyData → Option PyData
  | .str _ => some (.bool true)
  | _ => none
theorem fNm_map (ks : List Str) : (ks.map PyData.str).filterMap fNm = (ks.map fun _ => true).map PyData.bool := by
  induction ks with
  | nil => rfl
  | cons k t ih => rw [List.map_cons, List.map_cons, List.map_cons, ← ih]; rfl
theorem kit_dict : kitB "dict" "dict" = some true := by decide +kernel
theorem ok_holds {fB fN fW f : Addr} {gB gN gW fd : FuncData} (T : Nm mg) (GB : FnOk P w K mg base CX0 3 fB gB ["bounds"] (spR K RNeedB)) (FB : Df K mg "need_bounds" sNeedB ["bounds"] fB gB) (GN : FnOk P w K mg base CX0 1 fN gN ["bounds"] (spL K RNames)) (FN : Df K mg "names_in" sNames ["bounds"] fN gN)
    (GW : FnOk P w K mg base CX0 1 fW gW ["value"] (spWh K)) (FW : Df K mg "is_whole" sWhole ["value"] fW gW) (F : Df K mg "holds" sHolds ["bounds", "values"] f fd) : FnOk P w K mg base CX0 4 f fd ["bounds", "values"] (spHolds K) := by
  refine F.F.ok scHolds (fun vs H Q E h => ?_) (fun cdv A outer sh H vs Q E hr h => ?_)
  · obtain ⟨v, W, M, k, k2, bs, ks, f', g, rfl, _⟩ := h; rfl
  · obtain ⟨v, W, M, k, k2, bs, ks, f', g, rfl, hM, hv, ok, dW, hks, q⟩ := h
    have hu := hu_of hr
    have hr1 := hr.mono (show 1 ≤ 3 by decide)
    have hok := ok.1
    refine rb_expr (M := M) (xd_call hM GB hr FB.g FB.F.kp FB.b (xa_cons (xd_name 0 rfl hv) xa_nil) ⟨k, k2, bs, rfl, ok, rfl⟩) fun H1 s1 => ?_
    refine rb_ifF ((xt_not (xt_val (M := M) (k := true) (xd_isTy kit_dict T.isi T.dct (by decide +kernel) (xv_name 1 rfl) fun H2 s2 => .base (.dK (dW.up (s1.trans s2)))))).to rfl) fun H2 s2 => ?_
    have s12 := s1.trans s2
    have hv2 := hv.up (hid_mono (M := M) s12)
    have nl : (namesOf bs).length ≤ 2000 := by
      have := names_len bs bs.length
      rw [List.take_length] at this
      omega
    refine rb_ifF ((xt_not (xt_val (M := M) (k := true) ((xd_all T.all (XL.dd ((xl_comp (own := [("name", 2)]) fNm (hM.mono s12) scHolds.nd (XL.dd (xl_call (hM.mono s12) GN hr1 FN.g FN.F.kp FN.b (xa_cons (xd_name 0 rfl hv2) xa_nil) ⟨k, k2, bs, rfl, ok, rfl⟩) (hM.mono s12)) (blkOk_by (own := [("name", 2)]) (N := nHolds) (sc := defScope sHolds) (by decide +kernel)) (by rw [List.length_map]; omega) (fun p d v' H3 hd hp s3 Lp hv' => ?comp1)).to (fNm_map _)) (hM.mono s12))).to (by rw [map_all]; simp)))).to rfl) fun H3 s3 => ?_
    case comp1 =>
      obtain ⟨x, hx, rfl⟩ := List.mem_map.mp hd
      obtain ⟨h1, h2⟩ := hks x hx
      rw [dp_str hv']
      intro s0 H0 C0 cl fp
      refine rg_name 2 ⟨rfl, bt_nil ⟨Same.refl _, .inl ⟨rfl, _, rfl, fun s0 H0 C0 cl fp => ?_⟩⟩⟩ scHolds.nd
      have dW3 := dW.up (s12.trans s3)
      refine XD.go ((xd_and2 (M := p :: M) (k1 := true) (k2 := true) ((xd_din hu (xd_name 2 rfl (.str x)) (xv_name 1 rfl) dW3).to (by rw [decide_eq_true h1])) fun _ => (xd_whole (T := "int") GW hr1 FW (xv_dgetE (M := p :: M) hu (xv_name 1 rfl) (xd_name 2 rfl (.str x)) dW3 h1 h2) th_int).to (by rw [decide_eq_true rfl])).to rfl) fun v4 H4 s4 hv4 => ⟨s4, hv4⟩
    have s13 := s12.trans s3
    have hv3 := hv.up (hid_mono (M := M) s13)
    refine rb_ret (M := M) (d := .bool (holdsB bs g)) ((xd_all T.all (XL.dd ((xl_compQ (own := [("x", 3), ("y", 4), ("n", 5)]) (fun d => (decB d).map fun b => .bool (decide (g b.1 - g b.2.1 ≤ b.2.2))) (hM.mono s13) scHolds.nd (xd_name 0 rfl hv3) (blkOk_by (own := [("x", 3), ("y", 4), ("n", 5)]) (N := nHolds) (sc := defScope sHolds) (by decide +kernel)) (by rw [List.length_map]; omega) (fun p d v' H4 hd hp s4 Lp hv' => ?comp2)).to (by rw [comp_enc, map_bools])) (hM.mono s13))).to (by rw [map_all]; rfl)) fun v5 H5 s5 hv5 => by rw [dp_bl hv5]; exact q H5 (s13.trans s5)
    case comp2 =>
      obtain ⟨b, hb, rfl⟩ := List.mem_map.mp hd
      intro s0 H0 C0 cl fp
      refine rg_Q (M := p :: M) hv' fun ws hws => ?_
      rw [three hws]
      refine rgs_cons (rg_name 3 (rgs_cons (rg_name 4 (rgs_cons (rg_name 5 (rgs_nil ⟨rfl, bt_nil ⟨Same.refl _, .inl ⟨rfl, _, by rw [dec_enc]; rfl, fun s0 H0 C0 cl fp => ?_⟩⟩⟩) scHolds.nd)) scHolds.nd)) scHolds.nd)
      obtain ⟨n1, n2⟩ := names_of hb
      obtain ⟨h1, e1⟩ := hks _ n1
      obtain ⟨h2, e2⟩ := hks _ n2
      have dW4 := dW.up (s13.trans s4)
      exact XD.go (xd_cmpI (M := p :: M) op_le (xd_sub (xv_dgetE (M := p :: M) hu (xv_name 1 rfl) (xd_name 3 rfl (.str b.1)) dW4 h1 e1).int (xv_dgetE (M := p :: M) hu (xv_name 1 rfl) (xd_name 4 rfl (.str b.2.1)) dW4 h2 e2).int) (xv_name 5 rfl).int) fun v4 H4 s4 hv4 => ⟨s4, hv4⟩
end
end Zn

set_option Elab.async false
set_option linter.all false
set_option maxRecDepth 100000
set_option maxHeartbeats 4000000
namespace Zn
open PySem PySem.Spec PyProof.Rows L2 Dl
/-! bounds: shows_ring -/
theorem kt_list {T : String} (h : T ∈ tys) : kitB T "list" = some (decide (T = "list")) := by
  simp only [tys, List.mem_cons, List.not_mem_nil, or_false] at h
  rcases h with e | e | e | e | e | e | e <;> rw [e] <;> decide +kernel
def flat : PyData → Bool
  | .none => true
  | .bool _ => true
  | .int _ => true
  | .str _ => true
  | _ => false
theorem th_flat {K : PySem.W.Frag} {M : List Addr} {H : Hp} {v : V} {d : PyData} (h : Dq K (hid M H) v d) (hf : flat d = true) : Th K H v (tyN d) := by
  cases h with
  | non => exact ⟨fun _ _ => .base .non, by decide, fun _ z => V.noConfusion z, fun z => absurd z (by decide), fun _ z => V.noConfusion z, fun z => absurd z (by decide)⟩
  | bl b => exact (show Th K H (.bl b) "bool" from ⟨fun _ _ => .base (.bl _), by decide, fun _ z => V.noConfusion z, fun z => absurd z (by decide), fun _ z => V.noConfusion z, fun z => absurd z (by decide)⟩)
  | int i => exact th_int
  | str x => exact th_str
  | lst _ _ => cases hf
  | tup _ _ => cases hf
def idx : PyData → Nat
  | .int i => i.toNat
  | _ => 0
def inB (n : Nat) : PyData → Bool
  | .int i => decide ((0 : Int) ≤ i) && decide (i ≤ (n : Int) - 1)
  | _ => false
def founds (bs : List Bd) (ds : List PyData) : List Bd := ds.filterMap fun d => bs[idx d]?
def linkB (fs : List Bd) (p : Nat) : Bool := match (if p = 0 then fs.getLast? else fs[p - 1]?), fs[p]? with
  | some a, some b => decide (a.2.1 = b.1)
  | _, _ => false
def sumN (fs : List Bd) : Int := (fs.map fun b => b.2.2).sum
def showsB (bs : List Bd) (ds : List PyData) : Bool := ds.all (inB bs.length) && ((List.range (founds bs ds).length).all (linkB (founds bs ds)) && decide (sumN (founds bs ds) < 0))
theorem in_at {bs : List Bd} {d : PyData} (h : inB bs.length d = true) : ∃ (i : Nat) (b : Bd), d = .int (i : Int) ∧ idx d = i ∧ bs[i]? = some b := by
  cases d with
  | int i =>
    unfold inB at h
    rw [Bool.and_eq_true] at h
    have h1 := of_decide_eq_true h.1
    have h2 := of_decide_eq_true h.2
    have hl : i.toNat < bs.length := by omega
    exact ⟨i.toNat, bs[i.toNat], by rw [Int.toNat_of_nonneg h1], rfl, List.getElem?_eq_getElem hl⟩
  | none => cases h
  | bool b => cases h
  | str x => cases h
  | list l => cases h
  | tuple l => cases h
  | dict l => cases h
theorem found_enc {k : Bool} {bs : List Bd} {ds : List PyData} : ds.filterMap (fun d => (bs[idx d]?).map (encB k)) = (founds bs ds).map (encB k) := by
  unfold founds
  rw [List.map_filterMap]
section
variable {X : Cx} {M : List Addr} {σ : L2.St} {H : Hp} {a b : Expr} {pos : Pos} {x y : Str}
theorem xd_eqS (ha : XD X M σ H a (.str x)) (hb : XD X M σ H b (.str y)) : XD X M σ H (.Compare a [.Eq] [b] pos) (.bool (decide (x = y))) :=
  xd_cmp op_eq ha hb fun H1 v w s hv hw Q q => by
    rw [dp_str hv, dp_str hw]
    exact ⟨rfl, by rw [Dl.dec_str]; exact q _ H1 (Same.refl _) (.bl _)⟩
end
abbrev sShowsR : Stmt := top 20
section
variable {P : Program} {w : World} {K : PySem.W.Frag} {mg : Str → Option Value} {base : Heap}
def spShows (K : PySem.W.Frag) : Sp := fun vs H Q _ => ∃ (v u : V) (M : List Addr) (k k2 : Bool) (bs : List Bd) (T : String), vs = [v, u] ∧ Live M H ∧ Dq K (hid M H) v (encBs k k2 bs) ∧ OkB bs ∧ Th K H u T ∧
  (T ≠ "list" → ∀ H1, Same H H1 → Q (.bl false) H1) ∧ (T = "list" → ∃ ds, Dq K (hid M H) u (.list ds) ∧ (∀ d ∈ ds, flat d = true) ∧ ds.length ≤ 1000 ∧ ∀ H1, Same H H1 → Q (.bl (showsB bs ds)) H1)
abbrev nShows : List Str := ["bounds", "ring", "index", "found", "chained", "place", "x", "y", "n"]
theorem scShows : FnScope nShows ["bounds", "ring"] (defScope sShows) := ⟨rfl, rfl, rfl, by decide +kernel, rfl, by decide +kernel, by decide +kernel⟩
theorem ok_shows {fB fI f : Addr} {gB gI fd : FuncData} (T : Nm mg) (GB : FnOk P w K mg base CX0 3 fB gB ["bounds"] (spR K RNeedB)) (FB : Df K mg "need_bounds" sNeedB ["bounds"] fB gB)
    (GI : FnOk P w K mg base CX0 2 fI gI ["value", "low", "high"] (spIsInt K)) (FI : Df K mg "is_integer" sIsInt ["value", "low", "high"] fI gI) (F : Df K mg "shows_ring" sShows ["bounds", "ring"] f fd) : FnOk P w K mg base CX0 4 f fd ["bounds", "ring"] (spShows K) := by
  refine F.F.ok scShows (fun vs H Q E h => ?_) (fun cdv A outer sh H vs Q E hr h => ?_)
  · obtain ⟨v, u, M, k, k2, bs, T', rfl, _⟩ := h; rfl
  · obtain ⟨v, u, M, k, k2, bs, T', rfl, hM, hv, ok, tu, q1, q2⟩ := h
    have hr2 := hr.mono (show 2 ≤ 3 by decide)
    have hok := ok.1
    refine rb_expr (M := M) (xd_call hM GB hr FB.g FB.F.kp FB.b (xa_cons (xd_name 0 rfl hv) xa_nil) ⟨k, k2, bs, rfl, ok, rfl⟩) fun H1 s1 => ?_
    by_cases c : T' = "list"
    · obtain ⟨ds, hu, hfl, hdl, q⟩ := q2 c
      refine rb_ifF ((xt_not (xt_val (M := M) (k := true) (xd_isTy (by rw [kt_list tu.t, decide_eq_true c]) T.isi T.lst (by decide +kernel) (xv_name 1 rfl) (tu.up s1).ty))).to rfl) fun H2 s2 => ?_
      have s12 := s1.trans s2
      have hv2 := hv.up (hid_mono (M := M) s12)
      have hu2 := hu.up (hid_mono (M := M) s12)
      have hM2 := hM.mono s12
      refine rb_if (k := !(ds.all (inB bs.length))) (xt_not (xt_val (M := M) ((xd_all T.all (XL.dd ((xl_comp (own := [("index", 2)]) (fun d => some (PyData.bool (inB bs.length d))) hM2 scShows.nd (xd_name 1 rfl hu2) (blkOk_by (own := [("index", 2)]) (N := nShows) (sc := defScope sShows) (by decide +kernel)) (by omega) (fun p d v' H3 hd hp s3 Lp hv' => ?comp1)).to (by rw [List.filterMap_eq_map', map_bools])) hM2)).to (by rw [map_all])))) (fun e H3 s3 => ?_) (fun e H3 s3 => rb_nil ?_)
      case comp1 =>
        intro s0 H0 C0 cl fp
        refine rg_name 2 ⟨rfl, bt_nil ⟨Same.refl _, .inl ⟨rfl, _, rfl, fun s0 H0 C0 cl fp => ?_⟩⟩⟩ scShows.nd
        have tv := th_flat hv' (hfl d hd)
        refine re_call GI hr2 FI.g FI.F.kp FI.b (ra_cons (XV.go (xv_name 2 rfl) fun H4 s4 => ra_cons (XV.go xv_int fun H5 s5 => ra_1 (XD.go (M := p :: M) (xd_sub (xd_lenQ T.len (xd_name 0 rfl ((hv2.up (hid_step hp s3)).up (hid_mono (s4.trans s5))))) xd_int) fun v6 H6 s6 hv6 => ?_))))
        rw [dp_int hv6, List.length_map]
        have s46 := (s4.trans s5).trans s6
        refine ⟨v', _, 0, (bs.length : Int) - 1, rfl, tv.up s46, fun e => ?_, fun e H7 s7 => ?_⟩
        · cases d with
          | int i => exact ⟨i, dp_int hv', fun H7 s7 => ⟨s46.trans s7, .bl _⟩⟩
          | none => exact absurd (show ("NoneType" : String) = "int" from e) (by decide)
          | bool b => exact absurd (show ("bool" : String) = "int" from e) (by decide)
          | str x => exact absurd (show ("str" : String) = "int" from e) (by decide)
          | list l => exact absurd (show ("list" : String) = "int" from e) (by decide)
          | tuple l => exact absurd (show ("tuple" : String) = "int" from e) (by decide)
          | dict l => exact absurd (show ("dict" : String) = "int" from e) (by decide)
        · refine ⟨s46.trans s7, ?_⟩
          cases d with
          | int i => exact absurd rfl e
          | none => exact .bl _
          | bool b => exact .bl _
          | str x => exact .bl _
          | list l => exact .bl _
          | tuple l => exact .bl _
          | dict l => exact .bl _
      · have e1 : ds.all (inB bs.length) = false := by simpa using e
        refine rb_ret (M := M) xd_bl fun v4 H4 s4 hv4 => ?_
        rw [dp_bl hv4]
        have e2 : showsB bs ds = false := by unfold showsB; rw [e1]; rfl
        rw [← e2]
        exact q H4 ((s12.trans s3).trans s4)
      · have e1 : ds.all (inB bs.length) = true := by simpa using e
        have hin : ∀ d ∈ ds, inB bs.length d = true := List.all_eq_true.mp e1
        have s13 := s12.trans s3
        have hv3 := hv.up (hid_mono (M := M) s13)
        have hu3 := hu.up (hid_mono (M := M) s13)
        have hM3 := hM.mono s13
        have fl : (founds bs ds).length ≤ 1000 := by
          unfold founds
          exact Nat.le_trans (List.length_filterMap_le ..) hdl
        refine rb_setL (M := M) 3 ((xl_comp (own := [("index", 2)]) (fun d => (bs[idx d]?).map (encB k2)) hM3 scShows.nd (xd_name 1 rfl hu3) (blkOk_by (own := [("index", 2)]) (N := nShows) (sc := defScope sShows) (by decide +kernel)) (by omega) (fun p d v' H4 hd hp s4 Lp hv' => ?comp2)).to found_enc) (fun l xs H4 s4 hl hl4 hx => ?_) scShows.nd
        case comp2 =>
          obtain ⟨i, b, rfl, hi, hb⟩ := in_at (hin d hd)
          intro s0 H0 C0 cl fp
          refine rg_name 2 ⟨rfl, bt_nil ⟨Same.refl _, .inl ⟨rfl, encB k2 b, by rw [hi, hb]; rfl, fun s0 H0 C0 cl fp => ?_⟩⟩⟩ scShows.nd
          exact XD.go (xd_ixQ (M := p :: M) (fun _ _ => rfl) (xd_name 0 rfl (hv3.up (hid_step hp s4))) (xd_name 2 rfl hv') (bs_at hb)) fun v5 H5 s5 hv5 => ⟨s5, hv5⟩
        have hM4 := hM3.mono s4
        have hf : Dq K (hid M H4) (.ref l) (.list ((founds bs ds).map (encB k2))) := .lst (by rw [hid_of fun z => hM3 l z hl]; exact hl4) hx
        generalize hfs : founds bs ds = fs at *
        refine rb_set (M := M) 4 ((xd_all T.all (XL.dd ((xl_rngD (own := [("place", 5)]) fs.length fl (fun p => PyData.bool (linkB fs p)) T.rng hM4 scShows.nd ((xd_lenQ (k := false) T.len (xd_name 3 rfl hf)).to (by rw [List.length_map])) (blkOk_by (own := [("place", 5)]) (N := nShows) (sc := defScope sShows) (by decide +kernel)) (fun p i H5 hi hp s5 Lp => ?comp3)).to map_bools) hM4)).to (by rw [map_all])) (fun v6 H6 s6 hv6 => ?_) scShows.nd
        case comp3 =>
          intro s0 H0 C0 cl fp
          refine rg_name 5 ⟨rfl, Same.refl _, fun s0 H0 C0 cl fp => ?_⟩ scShows.nd
          obtain ⟨a, b, ha, hb, ha'⟩ : ∃ a b, (if i = 0 then fs.getLast? else fs[i - 1]?) = some a ∧ fs[i]? = some b ∧ atI (fs.map (encB k2)) ((i : Int) - 1) = some (encB k2 a) := by
            by_cases z : i = 0
            · subst z
              obtain ⟨a, ha⟩ : ∃ a, fs.getLast? = some a := by
                cases q : fs.getLast? with
                | none => rw [List.getLast?_eq_none_iff.mp q] at hi; simp at hi
                | some a => exact ⟨a, rfl⟩
              refine ⟨a, fs[0], by rw [if_pos rfl]; exact ha, List.getElem?_eq_getElem hi, ?_⟩
              obtain ⟨ys, rfl⟩ := List.getLast?_eq_some_iff.mp ha
              rw [List.map_append]
              exact atI_last _ _
            · have h1 : i - 1 < fs.length := by omega
              refine ⟨fs[i - 1], fs[i], by rw [if_neg z]; exact List.getElem?_eq_getElem h1, List.getElem?_eq_getElem hi, ?_⟩
              have e : (i : Int) - 1 = ((i - 1 : Nat) : Int) := by omega
              rw [e]
              exact bs_at (List.getElem?_eq_getElem h1)
          have hf5 : Dq K (hid (p :: M) H5) (.ref l) (sqD false (fs.map (encB k2))) := hf.up (hid_step hp s5)
          refine XD.go ((xd_eqS (M := p :: M) (x := a.2.1) (y := b.1) (xd_ixQ (k := k2) (fun _ _ => rfl) (xd_ixQ (fun _ _ => rfl) (xd_name 3 rfl hf5) (xd_sub (xv_name 5 rfl).int xd_int) ha') xd_int (atI_nat (j := 1) rfl)) (xd_ixQ (k := k2) (fun _ _ => rfl) (xd_ixQ (fun _ _ => rfl) (xd_name 3 rfl hf5) (xv_name 5 rfl).int (bs_at hb)) xd_int (atI_nat (j := 0) rfl))).to (by unfold linkB; rw [ha, hb])) fun v6 H6 s6 hv6 => ⟨s6, hv6⟩
        have e6 := dp_bl hv6
        subst e6
        have hM6 := hM4.mono s6
        have hf6 : Dq K (hid M H6) (.ref l) (sqD false (fs.map (encB k2))) := hf.up (hid_mono s6)
        refine rb_ret (M := M) (xd_and2 (k1 := (List.range fs.length).all (linkB fs)) (k2 := decide (sumN fs < 0)) (xd_name 4 rfl (.bl _)) fun _ => xd_cmpI op_lt (xd_sum T.sum (XL.dd ((xl_compQ (own := [("x", 6), ("y", 7), ("n", 8)]) (fun d => (decB d).map fun b => .int b.2.2) hM6 scShows.nd (xd_name 3 rfl hf6) (blkOk_by (own := [("x", 6), ("y", 7), ("n", 8)]) (N := nShows) (sc := defScope sShows) (by decide +kernel)) (by rw [List.length_map]; omega) (fun p d v' H7 hd hp s7 Lp hv' => ?comp4)).to (by rw [comp_enc, map_ints])) hM6)) xd_int) fun v8 H8 s8 hv8 => ?_
        case comp4 =>
          obtain ⟨b, hb, rfl⟩ := List.mem_map.mp hd
          intro s0 H0 C0 cl fp
          refine rg_Q (M := p :: M) hv' fun ws hws => ?_
          rw [three hws]
          refine rgs_cons (rg_name 6 (rgs_cons (rg_name 7 (rgs_cons (rg_name 8 (rgs_nil ⟨rfl, bt_nil ⟨Same.refl _, .inl ⟨rfl, _, by rw [dec_enc]; rfl, fun s0 H0 C0 cl fp => ?_⟩⟩⟩) scShows.nd)) scShows.nd)) scShows.nd)
          exact XD.go (M := p :: M) (xd_name 8 rfl (.int _)) fun v9 H9 s9 hv9 => ⟨s9, hv9⟩
        rw [dp_bl hv8]
        have e2 : showsB bs ds = ((List.range fs.length).all (linkB fs) && decide (sumN fs < 0)) := by unfold showsB; rw [e1, hfs]; rfl
        rw [← e2]
        exact q H8 (((s13.trans s4).trans s6).trans s8)
    · refine rb_ifT ((xt_not (xt_val (M := M) (k := false) (xd_isTy (by rw [kt_list tu.t, decide_eq_false c]) T.isi T.lst (by decide +kernel) (xv_name 1 rfl) (tu.up s1).ty))).to rfl) fun H2 s2 => ?_
      exact rb_ret (M := M) xd_bl fun v4 H4 s4 hv4 => by rw [dp_bl hv4]; exact q1 c H4 ((s1.trans s2).trans s4)
end
end Zn

set_option Elab.async false
set_option linter.all false
set_option maxRecDepth 100000
set_option maxHeartbeats 4000000
namespace Dl
open PySem PySem.Spec PyProof.Rows L2
section
variable {X : Cx} {M : List Addr} {σ : L2.St} {H : Hp} {o i a b : Expr} {pos : Pos} {W : Addr} {ks : List Str} {f : Str → V} {x y : Str}
theorem xt_din (hu : X.A.units + 1 < cLine) (hk : XD X M σ H i (.str x)) (ho : XV X σ H o (.ref W)) (hW : DM H W ks f) (hm : behindInMarks .In o = false := by rfl) : XT X σ H (.Compare i [.In] [o] pos) (decide (x ∈ ks)) := fun H1 s Q q =>
  ⟨_, pt_cmp (pc_din hu re_ re_) hm, hk H1 s _ fun y H2 s2 hy => ho H2 (s.trans s2) _ fun H3 s3 => by
    rw [dp_str hy]
    refine ⟨W, _, rfl, ((hW.up s).up (s2.trans s3)).gets, _, rfl, ?_⟩
    by_cases m : x ∈ ks
    · rw [decide_eq_true m] at q
      rw [if_pos m]
      exact q H3 (s2.trans s3)
    · rw [decide_eq_false m] at q
      rw [if_neg m]
      exact q H3 (s2.trans s3)⟩
theorem xt_dnin (hu : X.A.units + 1 < cLine) (hk : XD X M σ H i (.str x)) (ho : XV X σ H o (.ref W)) (hW : DM H W ks f) (hm : behindInMarks .NotIn o = false := by rfl) : XT X σ H (.Compare i [.NotIn] [o] pos) (!decide (x ∈ ks)) := fun H1 s Q q =>
  ⟨_, pt_cmp (pc_dnotin hu re_ re_) hm, hk H1 s _ fun y H2 s2 hy => ho H2 (s.trans s2) _ fun H3 s3 => by
    rw [dp_str hy]
    refine ⟨W, _, rfl, ((hW.up s).up (s2.trans s3)).gets, _, rfl, ?_⟩
    by_cases m : x ∈ ks
    · rw [decide_eq_true m] at q
      rw [if_pos m]
      exact q H3 (s2.trans s3)
    · rw [decide_eq_false m] at q
      rw [if_neg m]
      exact q H3 (s2.trans s3)⟩
theorem xt_eqS (ha : XD X M σ H a (.str x)) (hb : XD X M σ H b (.str y)) : XT X σ H (.Compare a [.Eq] [b] pos) (decide (x = y)) :=
  xt_cmp op_eq ha hb fun H1 v w s hv hw Q q => by
    rw [dp_str hv, dp_str hw]
    exact ⟨rfl, by rw [Dl.dec_str]; exact q H1 (Same.refl _)⟩
end
end Dl
namespace Zn
open PySem PySem.Spec PyProof.Rows L2 Dl
/-! bounds: greatest_above, tightest -/
abbrev sAbove : Stmt := top 22
abbrev sTight : Stmt := top 21
abbrev GS := Bf.G Str
def g00 (x : Str) : GS := ⟨[x], fun _ => 0, true⟩
theorem g00_ok {bs : List Bd} (x : Str) : Bf.GI bs (x :: namesOf bs) x (g00 x) := ⟨by simp [g00], fun z hz => by
    have : z = x := by simpa [g00] using hz
    rw [this]; exact List.mem_cons_self .., fun h hh z hz => by
    have : z = x := by simpa [g00] using hz
    rw [this]
    show h x - h x ≤ 0
    omega, by simp [g00], Int.le_refl _⟩
theorem gp_ok {bs : List Bd} {x : Str} : ∀ (i : Nat) (s : GS), Bf.GI bs (x :: namesOf bs) x s → Bf.GI bs (x :: namesOf bs) x (Bf.gpasses bs i s)
  | 0, _, h => h
  | i + 1, s, h => gp_ok i _ (h.pass fun b hb => List.mem_cons_of_mem _ (names_of hb).1)
theorem gfold_len {bs : List Bd} (s : GS) : ∀ k, ((bs.take k).foldl Bf.gstep s).ks.length ≤ s.ks.length + k
  | 0 => by rw [List.take_zero]; exact Nat.le_refl _
  | k + 1 => by
    have ih := gfold_len (bs := bs) s k
    cases h : bs[k]? with
    | none =>
      rw [List.take_add_one, h]
      simp only [Option.toList_none, List.append_nil]
      omega
    | some b =>
      rw [take_snoc h, List.foldl_append]
      show (Bf.gstep ((bs.take k).foldl Bf.gstep s) b).ks.length ≤ _
      have : (Bf.gstep ((bs.take k).foldl Bf.gstep s) b).ks.length ≤ ((bs.take k).foldl Bf.gstep s).ks.length + 1 := by
        unfold Bf.gstep
        split
        · exact ins_len
        · omega
      omega
section
variable {P : Program} {w : World} {K : PySem.W.Frag} {mg : Str → Option Value} {base : Heap}
def spAbove (K : PySem.W.Frag) : Sp := fun vs H Q _ => ∃ (v : V) (x : Str) (M : List Addr) (k k2 : Bool) (bs : List Bd), vs = [v, .str x] ∧ Live M H ∧ Dq K (hid M H) v (encBs k k2 bs) ∧ OkB bs ∧ (∃ g, Bf.Holds bs g) ∧
  ∀ (s : GS) H1 p, Bf.GI bs (x :: namesOf bs) x s → Bf.Closed bs s → Same H H1 → H p = none → DM H1 p s.ks (fun z => .int (s.f z)) → Q (.ref p) H1
abbrev nAbove : List Str := ["bounds", "name", "found", "changed", "x", "y", "n"]
theorem scAbove : FnScope nAbove ["bounds", "name"] (defScope sAbove) := ⟨rfl, rfl, rfl, by decide +kernel, rfl, by decide +kernel, by decide +kernel⟩
theorem ok_above {f : Addr} {fd : FuncData} (T : Nm mg) (F : Df K mg "greatest_above" sAbove ["bounds", "name"] f fd) : FnOk P w K mg base CX0 1 f fd ["bounds", "name"] (spAbove K) := by
  refine F.F.ok scAbove (fun vs H Q E h => ?_) (fun cdv A outer sh H vs Q E hr h => ?_)
  · obtain ⟨v, x, M, k, k2, bs, rfl, _⟩ := h; rfl
  · obtain ⟨v, x, M, k, k2, bs, rfl, hM, hv, ok, ⟨g, hg⟩, q⟩ := h
    have hu := hu_of hr
    have hok := ok.1
    have hN : ∀ b ∈ bs, b.1 ∈ x :: namesOf bs := fun b hb => List.mem_cons_of_mem _ (names_of hb).1
    obtain ⟨kk, hkk⟩ := Bf.ends hg hN _ _ (g00 x) (Nat.le_refl _) (Nat.le_refl _) (g00_ok x)
    refine rb_setR 2 ⟨_, pe_disp (pps_cons re_ re_ pps_nil) rfl rfl (by simp) (by simp), fun p hp => XV.go (xv_name 1 rfl) fun H2 s2 => XV.go xv_int fun H3 s3 => ⟨(s2.trans s3) _ _ upd_same, [(.inr x, .int 0)], rfl, by show 1 ≤ 15; decide, ?_⟩⟩ scAbove.nd
    have sA0 : Same H (upd H3 p (.dK (mergeK [] [(Sum.inr x, V.int 0)]))) := fun b o e => by
      have nb : b ≠ p := fun z => by rw [z, hp] at e; cases e
      rw [upd_ne nb]
      exact (s2.trans s3) _ _ (by rw [upd_ne nb]; exact e)
    have dF0 : DM (upd H3 p (.dK (mergeK [] [(Sum.inr x, V.int 0)]))) p (g00 x).ks (fun z => .int ((g00 x).f z)) := upd_same
    generalize upd H3 p (.dK (mergeK [] [(Sum.inr x, V.int 0)])) = H4 at *
    refine rb_set (M := []) 3 xd_bl (fun v5 H5 s5 hv5 => ?_) scAbove.nd
    rw [dp_bl hv5]
    have s05 := sA0.trans s5
    have hM5 : Live (p :: M) H5 := fun b hb => by
      rcases List.mem_cons.mp hb with e | hb
      · rw [e]; exact (dF0.up s5).some
      · exact (hM.mono s05) b hb
    have hv5' : Dq K (hid (p :: M) H5) v (encBs k k2 bs) := hv.up (hid_fresh s05 (by simp only [List.mem_cons]; rintro a (rfl | h) <;> simp_all))
    have nl : (namesOf bs).length ≤ 2000 := by
      have := names_len bs bs.length
      rw [List.take_length] at this
      omega
    refine rb_while (fun m σ' H' => ∃ i, i ≤ kk + 1 ∧ m = kk + 1 - i ∧ SameX [p] H5 H' ∧ DM H' p (Bf.gpasses bs i (g00 x)).ks (fun z => .int ((Bf.gpasses bs i (g00 x)).f z)) ∧ ∃ a b c, σ' = [some v, some (.str x), some (.ref p), some (.bl (Bf.gpasses bs i (g00 x)).ch), a, b, c]) (kk + 1)
      ⟨0, Nat.zero_le _, rfl, SameX.of (Same.refl _), dF0.up s5, none, none, none, rfl⟩ fun m σ' H' hp' => ?_
    obtain ⟨i, hi, rfl, sX, dF, a, b, c, rfl⟩ := hp'
    have hGI := gp_ok (bs := bs) i _ (g00_ok x)
    refine XT.go (xt_val (M := []) (xd_name 3 rfl (.bl _))) fun H6 s6 => ?_
    cases ech : (Bf.gpasses bs i (g00 x)).ch with
    | false =>
      refine iteF ?_
      have sA : Same H H6 := ((SameX.of (M := [p]) s05).trans (sX.trans (.of s6))).same (by simp [hp])
      refine rb_retR (XV.go (xv_name 2 rfl) fun H7 s7 => q (Bf.gpasses bs i (g00 x)) H7 p hGI ?_ (sA.trans s7) hp (dF.up (s6.trans s7)))
      cases i with
      | zero => cases ech
      | succ i =>
        rw [Bf.gpasses_succ] at ech ⊢
        exact Bf.closed ech
    | true =>
      refine iteT ?_
      have hlt : i < kk + 1 := by
        apply Classical.byContradiction
        intro n
        have : i = kk + 1 := by omega
        subst this
        rw [hkk] at ech
        cases ech
      generalize hs : Bf.gpasses bs i (g00 x) = s at *
      have hsl : s.ks.length ≤ 2001 := by
        have := Bf.nodup_len hGI.b1 hGI.b2
        rw [List.length_cons] at this
        omega
      refine rb_set (M := []) 3 xd_bl (fun v7 H7 s7 hv7 => ?_) scAbove.nd
      rw [dp_bl hv7]
      have sX7 : SameX [p] H5 H7 := sX.trans (.of (s6.trans s7))
      have hv7' : Dq K (hid (p :: M) H7) v (encBs k k2 bs) := hv5'.up (sX7.hid (by simp))
      refine rb_forQ (M := p :: M) (xd_name 0 rfl hv7') fun H8 s8 => ⟨fun j σ' H' => SameX [p] H5 H' ∧ (let t := (bs.take j).foldl Bf.gstep { s with ch := false }; DM H' p t.ks (fun z => .int (t.f z)) ∧ ∃ a b c, σ' = [some v, some (.str x), some (.ref p), some (.bl t.ch), a, b, c]) ∧ SameX [p] H8 H', ⟨sX7.trans (.of s8), ⟨(dF.up (s6.trans s7)).up s8, a, b, c, rfl⟩, SameX.of (Same.refl _)⟩, fun j σ' H' h => h.2.2.hid (by simp), fun j d hd σ' H' v' hp' hv' => ?_, fun σ' H' hp' => ?_⟩
      · obtain ⟨sX', ⟨dF', a', b', c', rfl⟩, s8X⟩ := hp'
        rw [List.getElem?_map] at hd
        obtain ⟨bb, hb, rfl⟩ := Option.map_eq_some_iff.mp hd
        have hj : j < bs.length := (List.getElem?_eq_some_iff.mp hb).1
        refine rg_Q (M := p :: M) hv' fun ws hws => ?_
        rw [three hws]
        refine rgs_cons (rg_name 4 (rgs_cons (rg_name 5 (rgs_cons (rg_name 6 (rgs_nil ?_) scAbove.nd)) scAbove.nd)) scAbove.nd)
        have enext : (bs.take (j + 1)).foldl Bf.gstep { s with ch := false } = Bf.gstep ((bs.take j).foldl Bf.gstep { s with ch := false }) bb := by rw [take_snoc hb, List.foldl_append]; rfl
        have htl := gfold_len (bs := bs) { s with ch := false } j
        have htl2 : ((bs.take j).foldl Bf.gstep { s with ch := false }).ks.length ≤ 4000 := by
          have e : ({ s with ch := false } : GS).ks.length = s.ks.length := rfl
          omega
        generalize ht : (bs.take j).foldl Bf.gstep { s with ch := false } = t at *
        refine rb_if (k := decide (bb.2.1 ∈ t.ks) && (!decide (bb.1 ∈ t.ks) || decide (t.f bb.2.1 + bb.2.2 < t.f bb.1))) (xt_and2 (xt_din (M := []) hu (xd_name 5 rfl (.str bb.2.1)) (xv_name 2 rfl) dF') fun hy => xt_or2 (xt_dnin (M := []) hu (xd_name 4 rfl (.str bb.1)) (xv_name 2 rfl) dF') fun hx =>
          xt_cmpI (M := []) op_lt (xd_add (xv_dget (M := []) hu (xv_name 2 rfl) (xd_name 5 rfl (.str bb.2.1)) dF' (of_decide_eq_true hy)).int (xv_name 6 rfl).int) (xv_dget (M := []) hu (xv_name 2 rfl) (xd_name 4 rfl (.str bb.1)) dF' (by simpa using hx)).int) (fun e H9 s9 => ?_) (fun e H9 s9 => rb_nil (rb_nil ?_))
        · have ec : bb.2.1 ∈ t.ks ∧ (bb.1 ∉ t.ks ∨ t.f bb.2.1 + bb.2.2 < t.f bb.1) := by simpa using e
          have est : Bf.gstep t bb = ⟨Bf.ins t.ks bb.1, Bf.up t.f bb.1 (t.f bb.2.1 + bb.2.2), true⟩ := if_pos ec
          refine rb_dput (M := []) hu (xd_add (xv_dget (M := []) hu (xv_name 2 rfl) (xd_name 5 rfl (.str bb.2.1)) (dF'.up s9) ec.1).int (xv_name 6 rfl).int) (xv_name 2 rfl) (xd_name 4 rfl (.str bb.1)) (dF'.up s9) (by omega) fun u H10 s10 hu10 => ?_
          have e10 := dp_int hu10
          subst e10
          rw [up_int]
          refine rb_set (M := []) 3 xd_bl (fun v11 H11 s11 hv11 => ?_) scAbove.nd
          rw [dp_bl hv11]
          refine rb_nil (rb_nil ⟨((((sX'.trans (.of s9)).trans (.of s10)).upd (by simp)).trans (.of s11)), ?_, ((((s8X.trans (.of s9)).trans (.of s10)).upd (by simp)).trans (.of s11))⟩)
          rw [enext, est]
          exact ⟨s11 _ _ upd_same, _, _, _, rfl⟩
        · have ec : ¬ (bb.2.1 ∈ t.ks ∧ (bb.1 ∉ t.ks ∨ t.f bb.2.1 + bb.2.2 < t.f bb.1)) := by
            intro z
            have : (decide (bb.2.1 ∈ t.ks) && (!decide (bb.1 ∈ t.ks) || decide (t.f bb.2.1 + bb.2.2 < t.f bb.1))) = true := by simpa using z
            rw [this] at e
            cases e
          have est : Bf.gstep t bb = t := if_neg ec
          refine ⟨sX'.trans (.of s9), ?_, s8X.trans (.of s9)⟩
          rw [enext, est]
          exact ⟨dF'.up s9, _, _, _, rfl⟩
      · obtain ⟨sX', ⟨dF', a', b', c', rfl⟩, s8X⟩ := hp'
        have e0 : bs.take (bs.map (encB k2)).length = bs := by rw [List.length_map, List.take_length]
        rw [e0] at dF' ⊢
        have e1 : bs.foldl Bf.gstep { s with ch := false } = Bf.gpasses bs (i + 1) (g00 x) := by rw [Bf.gpasses_succ, hs]; rfl
        rw [e1] at dF' ⊢
        exact rb_nil ⟨kk + 1 - (i + 1), by omega, i + 1, by omega, rfl, sX', dF', _, _, _, rfl⟩
/-! tightest, of bounds that can hold -/
def spTight (K : PySem.W.Frag) : Sp := fun vs H Q _ => ∃ (v : V) (x y : Str) (M : List Addr) (k k2 : Bool) (bs : List Bd), vs = [v, .str x, .str y] ∧ Live M H ∧ Dq K (hid M H) v (encBs k k2 bs) ∧ OkB bs ∧ nameB x = true ∧ nameB y = true ∧ (∃ g, Bf.Holds bs g) ∧
  ∀ (s : GS) H1, Bf.GI bs (y :: namesOf bs) y s → Bf.Closed bs s → Same H H1 → Q (if x ∈ s.ks then .int (s.f x) else .non) H1
abbrev nTight : List Str := ["bounds", "x", "y", "word", "found", "name"]
theorem scTight : FnScope nTight ["bounds", "x", "y"] (defScope sTight) := ⟨rfl, rfl, rfl, by decide +kernel, rfl, by decide +kernel, by decide +kernel⟩
theorem ok_tight {fS fN fA f : Addr} {gS gN gA fd : FuncData} (T : Nm mg) (GS : FnOk P w K mg base CX0 4 fS gS ["bounds"] (spSettle K)) (FS : Df K mg "settle" sSettle ["bounds"] fS gS) (GN : FnOk P w K mg base CX0 1 fN gN ["value"] (spName K)) (FN : Df K mg "is_name" sIsName ["value"] fN gN)
    (GA : FnOk P w K mg base CX0 1 fA gA ["bounds", "name"] (spAbove K)) (FA : Df K mg "greatest_above" sAbove ["bounds", "name"] fA gA) (F : Df K mg "tightest" sTight ["bounds", "x", "y"] f fd) : FnOk P w K mg base CX0 5 f fd ["bounds", "x", "y"] (spTight K) := by
  refine F.F.ok scTight (fun vs H Q E h => ?_) (fun cdv A outer sh H vs Q E hr h => ?_)
  · obtain ⟨v, x, y, M, k, k2, bs, rfl, _⟩ := h; rfl
  · obtain ⟨v, x, y, M, k, k2, bs, rfl, hM, hv, ok, nx, ny, hg, q⟩ := h
    have hu := hu_of hr
    have hr1 := hr.mono (show 1 ≤ 4 by decide)
    have lx := name_len nx
    have ly := name_len ny
    refine rb_asgR (re_call GS hr FS.g FS.F.kp FS.b (ra_1 (XV.go (xv_name 0 rfl) fun H1 s1 => ⟨v, M, k, k2, bs, rfl, hM.mono s1, hv.up (hid_mono s1), ok, fun g H2 t W s2 ht hW h2 dW hh => ?_, fun c ring H2 t r s2 ht hr2 h2 h3 hz hR hno => absurd hg hno⟩)))
    refine rg_tup (SqT.of h2) (rgs_cons (rg_name 3 (rgs_cons (rg_name 4 (rgs_nil ?_) scTight.nd)) scTight.nd))
    have s12 := s1.trans s2
    refine rb_forT (M := M) (xd_tup (hM.mono s12) (xa_cons (xd_name 1 rfl (.str x)) (xa_cons (xd_name 2 rfl (.str y)) xa_nil))) fun H3 s3 => ⟨fun i σ' H' => Same H3 H' ∧ ∃ a, σ' = [some v, some (.str x), some (.str y), some (.str "values"), some (.ref W), a], ⟨Same.refl _, none, rfl⟩, fun i σ' H' h => hid_mono h.1, fun i d hd σ' H' v' hp hv' => ?_, fun σ' H' hp => ?_⟩
    · obtain ⟨sH, a, rfl⟩ := hp
      obtain ⟨z, rfl, hz, nz⟩ : ∃ z : Str, d = .str z ∧ z.length ≤ 8 ∧ nameB z = true := by
        match i, hd with
        | 0, hd => exact ⟨x, (Option.some.inj hd).symm, lx, nx⟩
        | 1, hd => exact ⟨y, (Option.some.inj hd).symm, ly, ny⟩
      refine rg_name 5 ?_ scTight.nd
      refine rb_ifF ((xt_not (xt_val (M := M) (k := true) ((xd_isNm (x := z) GN hr1 FN (xd_name 5 rfl hv') (by omega)).to (by rw [nz])))).to rfl) fun H4 s4 => rb_nil ⟨sH.trans s4, _, rfl⟩
    · obtain ⟨sH, a, rfl⟩ := hp
      refine rb_ifF ((xt_eqS (M := []) (x := "values") (y := "ring") (xd_name 3 rfl (.str _)) xd_str).to (by decide +kernel)) fun H4 s4 => ?_
      have s04 := ((s12.trans s3).trans sH).trans s4
      refine rb_retR ⟨_, pe_dget1 hu re_ re_ ⟨rfl, rfl, rfl, rfl⟩, re_call GA hr1 FA.g FA.F.kp FA.b (ra_cons (XV.go (xv_name 0 rfl) fun H5 s5 => ra_1 (XV.go (xv_name 2 rfl) fun H6 s6 => ?_)))⟩
      have s06 := (s04.trans s5).trans s6
      refine ⟨v, y, M, k, k2, bs, rfl, hM.mono s06, hv.up (hid_mono s06), ok, hg, fun s H7 p hGI hC s7 hp7 dF => ⟨p, rfl, .inl ⟨_, .inl dF⟩, XV.go (xv_name 1 rfl) fun H8 s8 => ⟨_, (dF.up s8).gets, ?_⟩⟩⟩
      have := q s H8 hGI hC ((s06.trans s7).trans s8)
      by_cases m : x ∈ s.ks
      · rw [if_pos m] at this ⊢; exact this
      · rw [if_neg m] at this ⊢; exact this
end
end Zn

set_option Elab.async false
set_option linter.all false
set_option maxRecDepth 100000
set_option maxHeartbeats 8000000
namespace Zn
open PySem PySem.Spec PyProof.Rows L2 Dl
abbrev sCell : Stmt := top 27
abbrev sBag : Stmt := top 28
abbrev sTake : Stmt := top 29
/-- the bag: a great rest, a seed, a count up to n -/
def BagAt (H : Hp) (b : Addr) (n : Nat) : Prop := ∃ (g m c : Int), H b = some (.lst [.int g, .int m, .int c]) ∧ 0 ≤ m ∧ m < 2147483648 ∧ 0 ≤ c ∧ c ≤ n
theorem BagAt.up {H H' : Hp} {b : Addr} {n n' : Nat} (h : BagAt H b n) (s : Same H H') (hn : n ≤ n') : BagAt H' b n' := by
  obtain ⟨g, m, c, h1, h2, h3, h4, h5⟩ := h
  exact ⟨g, m, c, s _ _ h1, h2, h3, h4, by omega⟩
/-- all but b stands -/
def SameB (b : Addr) (H H' : Hp) : Prop := ∀ a o, a ≠ b → H a = some o → H' a = some o
theorem SameB.of {b : Addr} {H H' : Hp} (s : Same H H') : SameB b H H' := fun a o _ e => s a o e
theorem SameB.trans {b : Addr} {H H1 H2 : Hp} (s : SameB b H H1) (t : SameB b H1 H2) : SameB b H H2 := fun a o n e => t a o n (s a o n e)
theorem SameB.upd {b : Addr} {H H' : Hp} {o : HO} (s : SameB b H H') : SameB b H (upd H' b o) := fun a u n e => by rw [upd_ne n]; exact s a u n e
theorem SameB.hid {b : Addr} {M : List Addr} {H H' : Hp} (s : SameB b H H') (h : b ∈ M) : Same (hid M H) (hid M H') := fun a o e => by
  have n : a ∉ M := fun z => by unfold Dl.hid at e; rw [if_pos z] at e; cases e
  have nb : a ≠ b := fun z => n (z ▸ h)
  rw [hid_of n]
  exact s a o nb (hid_le _ _ e)
theorem SameB.live {b : Addr} {M : List Addr} {H H' : Hp} (s : SameB b H H') (L : Live M H) (hb : H' b ≠ none) : Live M H' := fun a ha z => by
  by_cases e : a = b
  · subst e; exact hb z
  · cases q : H a with
    | none => exact L a ha q
    | some o => rw [s a o e q] at z; cases z
theorem BagAt.some {H : Hp} {b : Addr} {n : Nat} (h : BagAt H b n) : H b ≠ none := by
  obtain ⟨g, m, c, h1, _⟩ := h
  rw [h1]; simp
def spCell (K : PySem.W.Frag) : Sp := fun vs H Q _ => ∃ (a : Addr) (ns : List Int) (j : Nat), vs = [.ref a, .int j] ∧ SqL K H a (ns.map V.int) ∧ ∀ (n : Int) H1, Same H H1 → Q (.int n) H1
def spBag : Sp := fun vs H Q _ => ∃ (n : Int), vs = [.int n] ∧ ∀ b H1, Same H H1 → H b = none → BagAt H1 b 0 → Q (.ref b) H1
def spTake : Sp := fun vs H Q _ => ∃ (b : Addr) (many : Int) (n : Nat), vs = [.ref b, .int many] ∧ 0 < many ∧ many.natAbs < 2 ^ 200 ∧ n ≤ 1000000 ∧ BagAt H b n ∧
  ∀ (r : Int) H1, 0 ≤ r → r < many → SameB b H H1 → BagAt H1 b (n + 1) → Q (.int r) H1
section
variable {P : Program} {w : World} {K : PySem.W.Frag} {mg : Str → Option Value} {base : Heap}
theorem scCell : FnScope ["_law_script", "_law_k"] ["_law_script", "_law_k"] (defScope sCell) := ⟨rfl, rfl, rfl, by decide +kernel, rfl, by decide +kernel, by decide +kernel⟩
theorem ok_cell {f : Addr} {fd : FuncData} (T : Nm mg) (F : Df K mg "_law_cell" sCell ["_law_script", "_law_k"] f fd) : FnOk P w K mg base CX0 1 f fd ["_law_script", "_law_k"] (spCell K) := by
  refine F.F.ok scCell (fun vs H Q E h => ?_) (fun cdv A outer s H vs Q E hr h => ?_)
  · obtain ⟨a, ns, j, rfl, _⟩ := h; rfl
  · obtain ⟨a, ns, j, rfl, hS, q⟩ := h
    refine rb_if (xt_cmpI (M := []) op_lt (xv_name 1 rfl).int (xv_lenS T.len (xv_name 0 rfl) hS).int) (fun e H1 s1 => ?_) (fun e H1 s1 => rb_nil ?_)
    · have hj : j < ns.length := by
        have z := of_decide_eq_true e
        rw [List.length_map] at z
        omega
      have ha : atI (ns.map V.int) ((j : Nat) : Int) = some (V.int ns[j]) := atI_nat (by rw [List.getElem?_map, List.getElem?_eq_getElem hj]; rfl)
      exact rb_retR (XV.go (xv_ixS (fun _ _ => rfl) (xv_name 0 rfl) (s1.seq hS) (xv_name 1 rfl) ha) fun H2 s2 => q _ H2 (s1.trans s2))
    · exact rb_ret (M := []) (xd_add (xd_mul xd_int (xv_name 1 rfl).int (.inl ⟨by decide, by decide⟩)) xd_int) fun v H2 s2 hv => by
        rw [dp_int hv]
        exact q _ H2 (s1.trans s2)
theorem scBag : FnScope ["_law_cell_here"] ["_law_cell_here"] (defScope sBag) := ⟨rfl, rfl, rfl, by decide +kernel, rfl, by decide +kernel, by decide +kernel⟩
theorem ok_bag {f : Addr} {fd : FuncData} (T : Nm mg) (F : Df K mg "_law_box" sBag ["_law_cell_here"] f fd) : FnOk P w K mg base CX0 1 f fd ["_law_cell_here"] spBag := by
  refine F.F.ok scBag (fun vs H Q E h => ?_) (fun cdv A outer s H vs Q E hr h => ?_)
  · obtain ⟨n, rfl, _⟩ := h; rfl
  · obtain ⟨n, rfl, q⟩ := h
    refine rb_retR (XL.go (M := []) (xl_lst Live.nil (xa_cons (xd_max T.max (xa_cons xd_int (xa_cons (xd_sub (xv_name 0 rfl).int (xd_pow xd_int xd_int ⟨by decide, by decide, by decide⟩)) xa_nil))) (xa_cons (xd_mod (xv_name 0 rfl).int xd_int (by decide)) (xa_cons xd_int xa_nil)))) fun p xs H1 s1 hp h1 hx => ?_)
    cases hx with
    | cons a1 hx => cases hx with
      | cons a2 hx => cases hx with
        | cons a3 hx =>
          cases hx
          rw [dp_int a1, dp_int a2, dp_int a3] at h1
          exact q p H1 s1 hp ⟨_, _, _, h1, by omega, by omega, by decide, by decide⟩
theorem scTake : FnScope ["_law_box_here", "_law_many", "_law_digit", "_law_mixed"] ["_law_box_here", "_law_many"] (defScope sTake) := ⟨rfl, rfl, rfl, by decide +kernel, rfl, by decide +kernel, by decide +kernel⟩
theorem cdiv0 {m n : Int} (h : 0 < n) (h2 : n.natAbs < 2 ^ 200) : CDivW m n := wide_div h h2 (by decide) (by decide)
theorem ok_take {f : Addr} {fd : FuncData} (F : Df K mg "_law_take" sTake ["_law_box_here", "_law_many"] f fd) : FnOk P w K mg base CX0 1 f fd ["_law_box_here", "_law_many"] spTake := by
  refine F.F.ok scTake (fun vs H Q E h => ?_) (fun cdv A outer s H vs Q E hr h => ?_)
  · obtain ⟨b, many, n, rfl, _⟩ := h; rfl
  · obtain ⟨b, many, n, rfl, hm, hm2, hn, ⟨g, m, c, hb, m0, m1, c0, c1⟩, q⟩ := h
    have at0 : ∀ {x y z : V}, atI [x, y, z] 0 = some x := fun {x y z} => rfl
    have at1 : ∀ {x y z : V}, atI [x, y, z] 1 = some y := fun {x y z} => rfl
    have at2 : ∀ {x y z : V}, atI [x, y, z] 2 = some z := fun {x y z} => rfl
    refine rb_if (xt_cmpI (M := []) op_gt (xv_ixS (fun _ _ => rfl) (xv_name 0 rfl) (SqL.of hb) xv_int at0).int xd_int) (fun e H1 s1 => ?_) (fun e H1 s1 => rb_nil ?_)
    · have hb1 := s1 _ _ hb
      refine rb_set 2 (M := []) (xd_mod (xv_ixS (fun _ _ => rfl) (xv_name 0 rfl) (SqL.of hb1) xv_int at0).int (xv_name 1 rfl).int hm) (fun v H2 s2 hv => ?_) scTake.nd
      have ev := dp_int hv
      subst ev
      have hb2 := s2 _ _ hb1
      refine rb_setIx (M := []) (n := 0) (j := 0) hb2 (xd_div (xv_ixS (fun _ _ => rfl) (xv_name 0 rfl) (SqL.of hb2) xv_int at0).int (xv_name 1 rfl).int (cdiv0 hm hm2)) (xv_name 0 rfl) xv_int rfl fun v H3 s3 hv => ?_
      have ev := dp_int hv
      subst ev
      refine rb_retR (XV.go (xv_name 2 rfl) fun H4 s4 => q _ H4 (Int.emod_nonneg _ (by omega)) (Int.emod_lt_of_pos _ hm) ((((SameB.of s1).trans (.of s2)).trans (.of s3)).upd.trans (.of s4)) ⟨g / many, m, c, s4 _ _ upd_same, m0, m1, c0, by omega⟩)
    · have hb1 := s1 _ _ hb
      refine rb_setIx (M := []) (n := 2) (j := 2) hb1 (xd_add (xv_ixS (fun _ _ => rfl) (xv_name 0 rfl) (SqL.of hb1) xv_int at2).int xd_int) (xv_name 0 rfl) xv_int rfl fun v H2 s2 hv => ?_
      have ev := dp_int hv
      subst ev
      have hb3 : upd H2 b (.lst [V.int g, V.int m, V.int (c + 1)]) b = some (.lst [V.int g, V.int m, V.int (c + 1)]) := upd_same
      have sB : SameB b H (upd H2 b (.lst [V.int g, V.int m, V.int (c + 1)])) := ((SameB.of s1).trans (.of s2)).upd
      show RB _ _ _ _ (upd H2 b (.lst [V.int g, V.int m, V.int (c + 1)]))
      generalize upd H2 b (.lst [V.int g, V.int m, V.int (c + 1)]) = H3 at hb3 sB
      refine rb_set 3 (M := []) (xd_mod (xd_pow (xd_add (xd_add (xv_ixS (fun _ _ => rfl) (xv_name 0 rfl) (SqL.of hb3) xv_int at1).int (xd_mul xd_int (xv_ixS (fun _ _ => rfl) (xv_name 0 rfl) (SqL.of hb3) xv_int at2).int (.inl ⟨by decide, by decide⟩))) xd_int) xd_int ⟨by decide, by decide, by omega⟩) xd_int (by decide)) (fun v H4 s4 hv => ?_) scTake.nd
      have ev := dp_int hv
      subst ev
      generalize hx : ((m + 15490181 * (c + 1) + 2069) ^ (5 : Int).toNat % 2147483647 : Int) = x1
      have x0 : 0 ≤ x1 := by rw [← hx]; exact Int.emod_nonneg _ (by decide)
      have x2 : x1 < 2147483647 := by rw [← hx]; exact Int.emod_lt_of_pos _ (by decide)
      have hb4 := s4 _ _ hb3
      refine rb_set 3 (M := []) (xd_mod (xd_pow (xd_add (xv_name 3 rfl).int (xd_mul xd_int (xv_ixS (fun _ _ => rfl) (xv_name 0 rfl) (SqL.of hb4) xv_int at2).int (.inl ⟨by decide, by decide⟩))) xd_int ⟨by decide, by decide, by omega⟩) xd_int (by decide)) (fun v H5 s5 hv => ?_) scTake.nd
      have ev := dp_int hv
      subst ev
      refine rb_ret (M := []) (xd_mod (xd_div (xv_name 3 rfl).int xd_int (cdiv0 (by decide) (by decide))) (xv_name 1 rfl).int hm) fun v H6 s6 hv => ?_
      rw [dp_int hv]
      exact q _ H6 (Int.emod_nonneg _ (by omega)) (Int.emod_lt_of_pos _ hm) (((sB.trans (.of s4)).trans (.of s5)).trans (.of s6)) ⟨g, m, c + 1, s6 _ _ (s5 _ _ hb4), m0, m1, by omega, by omega⟩
end
theorem re_take {X : Cx} {σ : L2.St} {H : Hp} {o e : Expr} {pos p1 : Pos} {Q : VK} {k n : Nat} {f b : Addr} {fd : FuncData} {many : Int} (G : FnOk X.prog X.w X.K X.mg X.base CX0 k f fd ["_law_box_here", "_law_many"] spTake) (F : Df X.K X.mg "_law_take" sTake ["_law_box_here", "_law_many"] f fd) (hr : Room k X.A)
    (ho : XV X σ H o (.ref b)) (he : XV X σ H e (.int many)) (hB : BagAt H b n) (q : ∀ (r : Int) H1, 0 ≤ r → r < many → SameB b H H1 → BagAt H1 b (n + 1) → Q (.int r) H1) (h0 : 0 < many := by decide) (h1 : many.natAbs < 2 ^ 200 := by decide) (hn : n ≤ 1000000 := by omega) (hg : Gl X "_law_take" := by rfl)
    (hs : starEach [o, e] X.env = (false, eval o X.env) :: starEach [e] X.env := by rfl) (hs2 : starEach [e] X.env = (false, eval e X.env) :: starEach [] X.env := by rfl) (hpl : (backTo pos (starEach [e] X.env)).any (·.1) = false := by rfl) : RE X (.Call (.Name "_law_take" p1) [o, e] [] pos) σ H Q :=
  re_call G hr F.g F.F.kp F.b (ra_cons (ho.go fun H1 s1 => ra_1 ((he.up s1).go fun H2 s2 => ⟨b, many, n, rfl, h0, h1, hn, hB.up (s1.trans s2) (Nat.le_refl _), fun r H3 r0 r1 sB hB3 => q r H3 r0 r1 ((SameB.of (s1.trans s2)).trans sB) hB3⟩) hs2) hs) hg (by decide) hs hpl
theorem sameB_new {b l : Addr} {H : Hp} {o : HO} (h : H l = none) : SameB b H (upd H l o) := SameB.of (same_new h)
theorem bag_new {H : Hp} {b l : Addr} {n : Nat} {o : HO} (h : BagAt H b n) (hl : H l = none) : BagAt (upd H l o) b n := h.up (same_new hl) (Nat.le_refl _)
theorem bag_sameB {H H' : Hp} {b : Addr} {n : Nat} (h : BagAt H b n) (s : Same H H') : BagAt H' b n := h.up s (Nat.le_refl _)
theorem strs_va {K : PySem.W.Frag} {H : Hp} : ∀ {ss : List Str} {xs : List V}, DqAll K H xs (ss.map PyData.str) → xs = ss.map V.str
  | [], _, h => by cases h; rfl
  | n :: ns, _, h => by
    cases h with
    | cons a b => rw [dp_str a, strs_va b]; rfl
section
variable {X : Cx} {σ : L2.St} {H : Hp} {o e : Expr} {pos p1 p2 p3 p4 : Pos} {Q : VK} {D : Ends} {rest : List Stmt}
theorem re_menuS {esl : List Expr} {ss : List Str} {many : Int} {j n k : Nat} {f b : Addr} {fd : FuncData} (G : FnOk X.prog X.w X.K X.mg X.base CX0 k f fd ["_law_box_here", "_law_many"] spTake) (F : Df X.K X.mg "_law_take" sTake ["_law_box_here", "_law_many"] f fd) (hr : Room k X.A)
    (ha : XA X [] σ H esl (ss.map PyData.str)) (ho : XV X σ H o (.ref b)) (hB : BagAt H b n) (q : ∀ y, y ∈ ss → ∀ H1, SameB b H H1 → BagAt H1 b (n + 1) → Q (.str y) H1) (hl : (ss.length : Int) = many := by rfl) (h1 : many.natAbs < 2 ^ 200 := by decide) (h0 : 0 < many := by decide) (hz : ss.length ≤ 1000 := by decide) (hn : n ≤ 1000000 := by omega) (hg : Gl X "_law_take" := by rfl)
    (hs : starEach [o, .Constant (.int many) j p4] X.env = (false, eval o X.env) :: starEach [.Constant (.int many) j p4] X.env := by rfl) (hs2 : starEach [.Constant (.int many) j p4] X.env = (false, eval (.Constant (.int many) j p4) X.env) :: starEach [] X.env := by rfl) (hpl : (backTo p3 (starEach [.Constant (.int many) j p4] X.env)).any (·.1) = false := by rfl) :
    RE X (.Subscript (.List esl p1) (.Call (.Name "_law_take" p2) [o, .Constant (.int many) j p4] [] p3) pos) σ H Q := by
  refine re_menuV (vs := ss.map V.str) (fun _ _ => rfl) (by rw [List.length_map]; exact hz) (ha H (Same.refl _) _ fun vs H1 s1 hv => ⟨strs_va hv, fun l hl2 => ?_⟩)
  have hv2 := strs_va hv
  subst hv2
  have hlb : l ≠ b := fun e => by rw [e] at hl2; exact (hB.up s1 (Nat.le_refl _)).some hl2
  refine re_take (n := n) G F hr (ho.up (s1.trans (same_new hl2))) xv_int (hB.up (s1.trans (same_new hl2)) (Nat.le_refl _)) (fun r H2 r0 r1 sB hB2 => ⟨r, rfl, r0, by rw [List.length_map, hl]; exact r1, sB _ _ hlb upd_same, fun z hz2 => ?_⟩) h0 h1 hn hg hs hs2 hpl
  obtain ⟨y, hy, rfl⟩ := List.mem_map.mp hz2
  exact q y hy H2 ((SameB.of (s1.trans (same_new hl2))).trans sB) hB2
theorem re_addS {a b : Expr} (h : RE X a σ H fun x H1 => ∃ i, x = .str i ∧ RE X b σ H1 fun y H2 => ∃ j, y = .str j ∧ i.length + j.length ≤ 100000 ∧ Q (.str (i ++ j)) H2) : RE X (.BinOp a .Add b pos) σ H Q :=
  re_bin op_add_str (re_mono h fun x H1 ⟨i, ei, h1⟩ => re_mono h1 fun y H2 ⟨j, ej, hz, q⟩ => ⟨i, j, ei, ej, small_sz hz, q⟩)
theorem re_menuI {esl : List Expr} {ss : List Int} {many : Int} {j n k : Nat} {f b : Addr} {fd : FuncData} (G : FnOk X.prog X.w X.K X.mg X.base CX0 k f fd ["_law_box_here", "_law_many"] spTake) (F : Df X.K X.mg "_law_take" sTake ["_law_box_here", "_law_many"] f fd) (hr : Room k X.A)
    (ha : XA X [] σ H esl (ss.map PyData.int)) (ho : XV X σ H o (.ref b)) (hB : BagAt H b n) (q : ∀ y, y ∈ ss → ∀ H1, SameB b H H1 → BagAt H1 b (n + 1) → Q (.int y) H1) (hl : (ss.length : Int) = many := by rfl) (h1 : many.natAbs < 2 ^ 200 := by decide) (h0 : 0 < many := by decide) (hz : ss.length ≤ 1000 := by decide) (hn : n ≤ 1000000 := by omega) (hg : Gl X "_law_take" := by rfl)
    (hs : starEach [o, .Constant (.int many) j p4] X.env = (false, eval o X.env) :: starEach [.Constant (.int many) j p4] X.env := by rfl) (hs2 : starEach [.Constant (.int many) j p4] X.env = (false, eval (.Constant (.int many) j p4) X.env) :: starEach [] X.env := by rfl) (hpl : (backTo p3 (starEach [.Constant (.int many) j p4] X.env)).any (·.1) = false := by rfl) :
    RE X (.Subscript (.List esl p1) (.Call (.Name "_law_take" p2) [o, .Constant (.int many) j p4] [] p3) pos) σ H Q := by
  refine re_menuV (vs := ss.map V.int) (fun _ _ => rfl) (by rw [List.length_map]; exact hz) (ha H (Same.refl _) _ fun vs H1 s1 hv => ⟨ints_v hv, fun l hl2 => ?_⟩)
  have hv2 := ints_v hv
  subst hv2
  have hlb : l ≠ b := fun e => by rw [e] at hl2; exact (hB.up s1 (Nat.le_refl _)).some hl2
  refine re_take (n := n) G F hr (ho.up (s1.trans (same_new hl2))) xv_int (hB.up (s1.trans (same_new hl2)) (Nat.le_refl _)) (fun r H2 r0 r1 sB hB2 => ⟨r, rfl, r0, by rw [List.length_map, hl]; exact r1, sB _ _ hlb upd_same, fun z hz2 => ?_⟩) h0 h1 hn hg hs hs2 hpl
  obtain ⟨y, hy, rfl⟩ := List.mem_map.mp hz2
  exact q y hy H2 ((SameB.of (s1.trans (same_new hl2))).trans sB) hB2
theorem re_mulR {a b : Expr} (h : RE X a σ H fun x H1 => ∃ i, x = .int i ∧ RE X b σ H1 fun y H2 => ∃ j, y = .int j ∧ (-(2 ^ 64) < j ∧ j < 2 ^ 64) ∧ Q (.int (i * j)) H2) : RE X (.BinOp a .Mult b pos) σ H Q :=
  re_bin op_mul (re_mono h fun x H1 ⟨i, ei, h1⟩ => re_mono h1 fun y H2 ⟨j, ej, hj, q⟩ => ⟨i, j, ei, ej, .inr hj, q⟩)
end
end Zn

set_option Elab.async false
set_option linter.all false
set_option maxRecDepth 100000
set_option maxHeartbeats 4000000
namespace Zn
open PySem PySem.Spec PyProof.Rows L2 Dl
/-! k15: the law's own look at bounds and rings -/
theorem eqv_nilL (ds : List PyData) : PyData.eqv (.list ds) (.list []) = decide (ds = []) := by
  cases ds with
  | nil => simp [PyData.eqv, PyData.eqvAll]
  | cons d ds => simp [PyData.eqv, PyData.eqvAll]
theorem shaped_nil : SeqAt.shaped (.list []) = true := by decide +kernel
def flk (d : PyData) : Bool := flat d && PyData.canLay0 d
theorem flk_all : ∀ {ds : List PyData}, (∀ d ∈ ds, flk d = true) → PyData.canLayAll0 ds = true ∧ PyData.depthAll ds = 0
  | [], _ => ⟨rfl, rfl⟩
  | d :: ds, h => by
    have hd := h d (List.mem_cons_self ..)
    unfold flk at hd
    rw [Bool.and_eq_true] at hd
    obtain ⟨a, b⟩ := flk_all (ds := ds) fun e he => h e (List.mem_cons_of_mem _ he)
    have dd : PyData.depth d = 0 := by
      cases d with
      | list l => exact absurd hd.1 (by simp [flat])
      | tuple l => exact absurd hd.1 (by simp [flat])
      | dict l => exact absurd hd.1 (by simp [flat])
      | none => simp [PyData.depth]
      | bool b => simp [PyData.depth]
      | int i => simp [PyData.depth]
      | str x => simp [PyData.depth]
    exact ⟨by simp only [PyData.canLayAll0, a, hd.2, Bool.and_self], by simp only [PyData.depthAll, dd, b]; rfl⟩
theorem shaped_flat {ds : List PyData} (h : ∀ d ∈ ds, flk d = true) : SeqAt.shaped (.list ds) = true := by
  obtain ⟨a, b⟩ := flk_all h
  unfold SeqAt.shaped
  simp only [PyData.canLay0, PyData.depth, a, b]
  decide
theorem flk_flat {d : PyData} (h : flk d = true) : flat d = true := by unfold flk at h; rw [Bool.and_eq_true] at h; exact h.1
theorem flk_int (i : Int) : flk (.int i) = true := by simp [flk, flat, PyData.canLay0]
theorem flk_ints {ns : List Int} : ∀ d ∈ ns.map PyData.int, flk d = true := fun d hd => by
  obtain ⟨n, _, rfl⟩ := List.mem_map.mp hd
  exact flk_int n
theorem comp_bind {k : Bool} {bs : List Bd} {h : Bd → Option PyData} : (bs.map (encB k)).filterMap (fun d => (decB d).bind h) = bs.filterMap h := by
  induction bs with
  | nil => rfl
  | cons b t ih =>
    have e : (decB (encB k b)).bind h = h b := by rw [dec_enc]; rfl
    rw [List.map_cons, List.filterMap_cons, List.filterMap_cons, e, ih]
def viol (g : Str → Int) (b : Bd) : Option PyData := if g b.1 - g b.2.1 > b.2.2 then some (.int 1) else none
theorem viol_flk {bs : List Bd} {g : Str → Int} : ∀ d ∈ bs.filterMap (viol g), flk d = true := fun d hd => by
  obtain ⟨b, _, e⟩ := List.mem_filterMap.mp hd
  unfold viol at e
  split at e
  · cases e; exact flk_int 1
  · cases e
theorem viol_nil {bs : List Bd} {g : Str → Int} : decide (bs.filterMap (viol g) = []) = holdsB bs g := by
  induction bs with
  | nil => rfl
  | cons b t ih =>
    have e : holdsB (b :: t) g = (decide (g b.1 - g b.2.1 ≤ b.2.2) && holdsB t g) := rfl
    rw [e, ← ih, List.filterMap_cons]
    unfold viol
    by_cases c : g b.1 - g b.2.1 > b.2.2
    · rw [if_pos c, decide_eq_false (by simp), decide_eq_false (by omega : ¬ g b.1 - g b.2.1 ≤ b.2.2)]; rfl
    · rw [if_neg c, decide_eq_true (by omega : g b.1 - g b.2.1 ≤ b.2.2), Bool.true_and]
abbrev sLHold : Stmt := top 30
abbrev sLRing : Stmt := top 31
section
variable {X : Cx} {σ : L2.St} {H : Hp} {a b c : Expr} {pos : Pos} {k1 k2 k3 : Bool}
theorem xt_and3 (ha : XT X σ H a k1) (hb : k1 = true → XT X σ H b k2) (hc : k1 = true → k2 = true → XT X σ H c k3) : XT X σ H (.BoolOp .And [a, b, c] pos) (k1 && (k2 && k3)) := by
  cases k1 with
  | false => exact (xw_andF ha).t
  | true =>
    cases k2 with
    | false => exact (xw_andT ha (xw_andF (hb rfl))).t
    | true => exact (xw_andT ha (xw_andT (hb rfl) (xw_and1 (hc rfl rfl)))).t
end
section
variable {P : Program} {w : World} {K : PySem.W.Frag} {mg : Str → Option Value} {base : Heap}
def spLHold (K : PySem.W.Frag) : Sp := fun vs H Q _ => ∃ (v : V) (W : Addr) (M : List Addr) (k k2 : Bool) (bs : List Bd) (ks : List Str) (f : Str → V) (g : Str → Int), vs = [v, .ref W] ∧ Live M H ∧ Dq K (hid M H) v (encBs k k2 bs) ∧ OkB bs ∧ DM H W ks f ∧
  (∀ x ∈ namesOf bs, x ∈ ks ∧ f x = .int (g x)) ∧ ∀ H1, Same H H1 → Q (.bl (holdsB bs g)) H1
abbrev nLHold : List Str := ["_law_bounds_here", "_law_given", "_law_x", "_law_y", "_law_number"]
theorem scLHold : FnScope nLHold ["_law_bounds_here", "_law_given"] (defScope sLHold) := ⟨rfl, rfl, rfl, by decide +kernel, rfl, by decide +kernel, by decide +kernel⟩
theorem ok_lhold {f : Addr} {fd : FuncData} (T : Nm mg) (F : Df K mg "_law_bounds_hold" sLHold ["_law_bounds_here", "_law_given"] f fd) : FnOk P w K mg base CX0 1 f fd ["_law_bounds_here", "_law_given"] (spLHold K) := by
  refine F.F.ok scLHold (fun vs H Q E h => ?_) (fun cdv A outer sh H vs Q E hr h => ?_)
  · obtain ⟨v, W, M, k, k2, bs, ks, f', g, rfl, _⟩ := h; rfl
  · obtain ⟨v, W, M, k, k2, bs, ks, f', g, rfl, hM, hv, ok, dW, hks, q⟩ := h
    have hu := hu_of hr
    have hok := ok.1
    refine rb_ret (M := M) (d := .bool (holdsB bs g)) ((xd_eqD hr.units (XL.dd ((xl_compQ (own := [("_law_x", 2), ("_law_y", 3), ("_law_number", 4)]) (fun d => (decB d).bind (viol g)) hM scLHold.nd (xd_name 0 rfl hv) (blkOk_by (own := [("_law_x", 2), ("_law_y", 3), ("_law_number", 4)]) (N := nLHold) (sc := defScope sLHold) (by decide +kernel)) (by rw [List.length_map]; omega) (fun p d v' H4 hd hp s4 Lp hv' => ?comp)).to comp_bind) hM) (xd_lst hM xa_nil) (shaped_flat viol_flk) shaped_nil).to (by rw [eqv_nilL, viol_nil])) fun v5 H5 s5 hv5 => by rw [dp_bl hv5]; exact q H5 s5
    case comp =>
      obtain ⟨b, hb, rfl⟩ := List.mem_map.mp hd
      intro s0 H0 C0 cl fp
      refine rg_Q (M := p :: M) hv' fun ws hws => ?_
      rw [three hws]
      obtain ⟨n1, n2⟩ := names_of hb
      obtain ⟨h1, e1⟩ := hks _ n1
      obtain ⟨h2, e2⟩ := hks _ n2
      have dW4 := dW.up s4
      refine rgs_cons (rg_name 2 (rgs_cons (rg_name 3 (rgs_cons (rg_name 4 (rgs_nil ⟨rfl, bt_one (k := decide (g b.1 - g b.2.1 > b.2.2)) (fun s0 H0 C0 cl fp => ?_) fun H5 s5 => ⟨s5, ?_⟩⟩) scLHold.nd)) scLHold.nd)) scLHold.nd)
      · exact (xt_cmpI (M := p :: M) op_gt (xd_sub (xv_dgetE (M := p :: M) hu (xv_name 1 rfl) (xd_name 2 rfl (.str b.1)) dW4 h1 e1).int (xv_dgetE (M := p :: M) hu (xv_name 1 rfl) (xd_name 3 rfl (.str b.2.1)) dW4 h2 e2).int) (xv_name 4 rfl).int).to (by rfl)
      · by_cases c : g b.1 - g b.2.1 > b.2.2
        · refine .inl ⟨decide_eq_true c, .int 1, by rw [dec_enc]; show viol g b = _; unfold viol; rw [if_pos c], fun s0 H0 C0 cl fp => ?_⟩
          exact XD.go (M := p :: M) xd_int fun v6 H6 s6 hv6 => ⟨s6, hv6⟩
        · exact .inr ⟨decide_eq_false c, by rw [dec_enc]; show viol g b = _; unfold viol; rw [if_neg c]⟩
/-! is_ring -/
def link2 (fs : List Bd) (k : Nat) : Bool := match fs[k]?, fs[(k + 1) % fs.length]? with
  | some a, some b => decide (a.2.1 = b.1)
  | _, _ => false
def isRingB (bs : List Bd) (ds : List PyData) : Bool := !decide (ds = []) && (ds.all (inB bs.length) && ((List.range ds.length).all (link2 (founds bs ds)) && decide (sumN (founds bs ds) < 0)))
def goodI (n : Nat) (d : PyData) : Option PyData := if inB n d = true then some (.int 1) else none
theorem good_len {n : Nat} : ∀ {ds : List PyData}, decide ((ds.filterMap (goodI n)).length = ds.length) = ds.all (inB n)
  | [] => rfl
  | d :: ds => by
    have ih := good_len (n := n) (ds := ds)
    rw [List.all_cons, ← ih]
    cases c : inB n d with
    | true =>
      have e : goodI n d = some (.int 1) := by unfold goodI; rw [if_pos c]
      rw [List.filterMap_cons_some e, List.length_cons, List.length_cons, Bool.true_and]; simp
    | false =>
      have e : goodI n d = none := by unfold goodI; rw [if_neg (by rw [c]; exact Bool.false_ne_true)]
      rw [List.filterMap_cons_none e, Bool.false_and, List.length_cons]
      have := List.length_filterMap_le (goodI n) ds
      exact decide_eq_false (by omega)
theorem founds_at {bs : List Bd} : ∀ {ds : List PyData}, (∀ d ∈ ds, inB bs.length d = true) → (founds bs ds).length = ds.length ∧ ∀ (i : Nat) (d : PyData), ds[i]? = some d → ∃ (j : Nat) (b : Bd), d = .int (j : Int) ∧ bs[j]? = some b ∧ (founds bs ds)[i]? = some b
  | [], _ => ⟨rfl, fun i d h => by simp at h⟩
  | d :: ds, h => by
    obtain ⟨j, b, hd, hi, hb⟩ := in_at (h d (List.mem_cons_self ..))
    obtain ⟨l, k⟩ := founds_at (ds := ds) fun e he => h e (List.mem_cons_of_mem _ he)
    have e : founds bs (d :: ds) = b :: founds bs ds := by unfold founds; rw [List.filterMap_cons, hi, hb]
    rw [e]
    refine ⟨by rw [List.length_cons, List.length_cons, l], fun i c hc => ?_⟩
    cases i with
    | zero =>
      have : c = d := (Option.some.inj hc).symm
      subst this
      exact ⟨j, b, hd, hb, rfl⟩
    | succ i => exact k i c hc
def spLRing (K : PySem.W.Frag) : Sp := fun vs H Q _ => ∃ (v u : V) (M : List Addr) (k k2 : Bool) (bs : List Bd) (T : String), vs = [v, u] ∧ Live M H ∧ Dq K (hid M H) v (encBs k k2 bs) ∧ OkB bs ∧ Th K H u T ∧
  (T ≠ "list" → ∀ H1, Same H H1 → Q (.bl false) H1) ∧ (T = "list" → ∃ ds, Dq K (hid M H) u (.list ds) ∧ (∀ d ∈ ds, flk d = true) ∧ ds.length ≤ 1000 ∧ ∀ H1, Same H H1 → Q (.bl (isRingB bs ds)) H1)
abbrev nLRing : List Str := ["_law_bounds_here", "_law_ring", "_law_at", "_law_good", "_law_k"]
theorem scLRing : FnScope nLRing ["_law_bounds_here", "_law_ring"] (defScope sLRing) := ⟨rfl, rfl, rfl, by decide +kernel, rfl, by decide +kernel, by decide +kernel⟩
theorem ok_lring {f : Addr} {fd : FuncData} (T : Nm mg) (F : Df K mg "_law_is_ring" sLRing ["_law_bounds_here", "_law_ring"] f fd) : FnOk P w K mg base CX0 1 f fd ["_law_bounds_here", "_law_ring"] (spLRing K) := by
  refine F.F.ok scLRing (fun vs H Q E h => ?_) (fun cdv A outer sh H vs Q E hr h => ?_)
  · obtain ⟨v, u, M, k, k2, bs, T', rfl, _⟩ := h; rfl
  · obtain ⟨v, u, M, k, k2, bs, T', rfl, hM, hv, ok, tu, q1, q2⟩ := h
    have hok := ok.1
    by_cases c : T' = "list"
    · obtain ⟨ds, hu, hfl, hdl, q⟩ := q2 c
      refine rb_if (k := decide (ds = [])) ((xt_or2 (k1 := false) ((xt_not (xt_val (M := M) (k := true) (xd_isTy (by rw [kt_list tu.t, decide_eq_true c]) T.isi T.lst (by decide +kernel) (xv_name 1 rfl) tu.ty))).to rfl) fun _ => (xt_eqD (M := M) hr.units (xd_name 1 rfl hu) (xd_lst hM xa_nil) (shaped_flat hfl) shaped_nil).to (eqv_nilL ds)).to (Bool.false_or _)) (fun e H1 s1 => ?_) (fun e H1 s1 => rb_nil ?_)
      · refine rb_ret (M := M) xd_bl fun v4 H4 s4 hv4 => ?_
        rw [dp_bl hv4]
        have e2 : isRingB bs ds = false := by unfold isRingB; rw [e]; rfl
        rw [← e2]
        exact q H4 (s1.trans s4)
      · have hv1 := hv.up (hid_mono (M := M) s1)
        have hu1 := hu.up (hid_mono (M := M) s1)
        have hM1 := hM.mono s1
        refine rb_setC0 (M := M) (own := [("_law_at", 2)]) 3 (goodI bs.length) hM1 scLRing.nd (xd_name 1 rfl hu1) (blkOk_by (own := [("_law_at", 2)]) (N := nLRing) (sc := defScope sLRing) (by decide +kernel)) (by omega) (fun p d v' H4 hd hp s4 Lp hv' => ?comp) (fun l xs H2 s2 hl hl2 hx => ?_)
        case comp =>
          intro s0 H0 C0 cl fp
          have hv'' : Dq K (hid (p :: M) H4) v' d := hv'
          clear hv'
          have tv : Th K H4 v' (tyN d) := th_flat hv'' (flk_flat (hfl d hd))
          have hv4 : Dq K (hid (p :: M) H4) v (encBs k k2 bs) := hv1.up (hid_step hp s4)
          refine rg_name 2 ⟨rfl, bt_one (k := inB bs.length d) (fun s0 H0 C0 cl fp => ?_) fun H5 s5 => ⟨s5, ?_⟩⟩ scLRing.nd
          · cases d with
            | int i =>
              refine (xt_and3 (k1 := true) (k2 := true) (k3 := decide ((0 : Int) ≤ i) && decide (i < (bs.length : Int))) (xt_val (M := p :: M) (xd_isTy (T := "int") (T' := "int") (by decide +kernel) T.isi T.int (by decide +kernel) (xv_name 2 rfl) tv.ty)) (fun _ => (xt_not (xt_val (M := p :: M) (xd_isTy (T := "bool") (T' := "int") (r := false) (by decide +kernel) T.isi T.bool (by decide +kernel) (xv_name 2 rfl) tv.ty))).to rfl) (fun _ _ => xt_chainI (M := p :: M) op_le op_lt xd_int (xd_name 2 rfl hv'') ((xd_lenQ T.len (xd_name 0 rfl hv4)).to (by rw [List.length_map])))).to ?_
              show (decide ((0 : Int) ≤ i) && decide (i < (bs.length : Int))) = (decide ((0 : Int) ≤ i) && decide (i ≤ (bs.length : Int) - 1))
              congr 1
              exact decide_eq_decide.mpr (by omega)
            | bool b => exact xt_and3 (k1 := true) (k2 := false) (k3 := false) (xt_val (M := p :: M) (xd_isTy (T := "int") (T' := "bool") (by decide +kernel) T.isi T.int (by decide +kernel) (xv_name 2 rfl) tv.ty)) (fun _ => (xt_not (xt_val (M := p :: M) (xd_isTy (T := "bool") (T' := "bool") (r := true) (by decide +kernel) T.isi T.bool (by decide +kernel) (xv_name 2 rfl) tv.ty))).to rfl) (fun _ z => Bool.noConfusion z)
            | none => exact xt_and3 (k1 := false) (k2 := false) (k3 := false) (xt_val (M := p :: M) (xd_isTy (T := "int") (T' := "NoneType") (by decide +kernel) T.isi T.int (by decide +kernel) (xv_name 2 rfl) tv.ty)) (fun z => Bool.noConfusion z) (fun z => Bool.noConfusion z)
            | str x => exact xt_and3 (k1 := false) (k2 := false) (k3 := false) (xt_val (M := p :: M) (xd_isTy (T := "int") (T' := "str") (by decide +kernel) T.isi T.int (by decide +kernel) (xv_name 2 rfl) tv.ty)) (fun z => Bool.noConfusion z) (fun z => Bool.noConfusion z)
            | list l => exact absurd (hfl _ hd) (by simp [flk, flat])
            | tuple l => exact absurd (hfl _ hd) (by simp [flk, flat])
            | dict l => exact absurd (hfl _ hd) (by simp [flk, flat])
          · unfold goodI
            cases ci : inB bs.length d with
            | true =>
              refine .inl ⟨rfl, .int 1, if_pos rfl, fun s0 H0 C0 cl fp => ?_⟩
              exact XD.go (M := p :: M) xd_int fun v6 H6 s6 hv6 => ⟨s6, hv6⟩
            | false => exact .inr ⟨rfl, if_neg Bool.false_ne_true⟩
        have hM2 := hM1.mono s2
        have hg : Dq K (hid M H2) (.ref l) (.list (ds.filterMap (goodI bs.length))) := .lst (by rw [hid_of fun z => hM1 l z hl]; exact hl2) hx
        have hu2 := hu1.up (hid_mono (M := M) s2)
        have hv2 := hv1.up (hid_mono (M := M) s2)
        refine rb_if (k := !(ds.all (inB bs.length))) ((xt_neI (M := M) (xd_len T.len (xd_name 3 rfl hg)) (xd_len T.len (xd_name 1 rfl hu2))).to (by rw [← good_len]; congr 1; exact decide_eq_decide.mpr (by omega))) (fun e2 H3 s3 => ?_) (fun e2 H3 s3 => rb_nil ?_)
        · refine rb_ret (M := M) xd_bl fun v4 H4 s4 hv4 => ?_
          rw [dp_bl hv4]
          have e3 : isRingB bs ds = false := by
            unfold isRingB
            have : ds.all (inB bs.length) = false := by simpa using e2
            rw [this]
            simp
          rw [← e3]
          exact q H4 (((s1.trans s2).trans s3).trans s4)
        · have e3 : ds.all (inB bs.length) = true := by simpa using e2
          have hin : ∀ d ∈ ds, inB bs.length d = true := List.all_eq_true.mp e3
          have hne : ds ≠ [] := of_decide_eq_false e
          obtain ⟨fl, fa⟩ := founds_at hin
          have hn0 : 0 < ds.length := List.length_pos_iff.mpr hne
          have s13 := (s1.trans s2).trans s3
          have hu3 := hu2.up (hid_mono (M := M) s3)
          refine rb_range T.rng (XD.go (M := M) (xd_len T.len (xd_name 1 rfl hu3)) fun v5 H5 s5 hv5 => ⟨ds.length, dp_int hv5, by omega, fun j σ' H' => Same H5 H' ∧ (∀ i, i < j → link2 (founds bs ds) i = true) ∧ ∃ a, σ' = [some v, some u, none, some (.ref l), a], ⟨Same.refl _, fun i hi => absurd hi (Nat.not_lt_zero i), none, rfl⟩, fun j σ' H' hj hp => ?_, fun σ' H' hp => ?_⟩)
          · obtain ⟨sH, hl', a, rfl⟩ := hp
            refine rg_name 4 ?_ scLRing.nd
            have sA := (s13.trans s5).trans sH
            have hvA := hv.up (hid_mono (M := M) sA)
            have huA : Dq K (hid M H') u (.list ds) := hu.up (hid_mono (M := M) sA)
            have hm : (j + 1) % ds.length < ds.length := Nat.mod_lt _ hn0
            obtain ⟨i1, b1, d1, hb1, hf1⟩ := fa j ds[j] (List.getElem?_eq_getElem hj)
            obtain ⟨i2, b2, d2, hb2, hf2⟩ := fa ((j + 1) % ds.length) ds[(j + 1) % ds.length] (List.getElem?_eq_getElem hm)
            have x1 : atI ds ((j : Nat) : Int) = some (.int (i1 : Int)) := atI_nat (by rw [List.getElem?_eq_getElem hj, d1])
            have x2 : atI ds (((j : Int) + 1) % (ds.length : Int)) = some (.int (i2 : Int)) := by
              have e : ((j : Int) + 1) % (ds.length : Int) = (((j + 1) % ds.length : Nat) : Int) := by rw [Int.natCast_emod]; rfl
              rw [e]
              exact atI_nat (by rw [List.getElem?_eq_getElem hm, d2])
            have el : link2 (founds bs ds) j = decide (b1.2.1 = b2.1) := by unfold link2; rw [fl, hf1, hf2]
            refine rb_if (xt_neS (M := M) (xd_second (M := M) (fun _ _ => rfl) (xd_name 0 rfl hvA) (xd_ixL (fun _ _ => rfl) (xd_name 1 rfl huA) (xv_name 4 rfl).int x1) hb1) (xd_ixQ (k := k2) (fun _ _ => rfl) (xd_ixQ (fun _ _ => rfl) (xd_name 0 rfl hvA) (xd_ixL (fun _ _ => rfl) (xd_name 1 rfl huA) (xd_mod (xd_add (xv_name 4 rfl).int xd_int) (xd_len T.len (xd_name 1 rfl huA)) (by omega)) x2) (bs_at hb2)) xd_int (atI_nat (j := 0) rfl))) (fun e4 H6 s6 => ?_) (fun e4 H6 s6 => rb_nil (rb_nil ⟨sH.trans s6, fun i hi => ?_, _, rfl⟩))
            · refine rb_ret (M := M) xd_bl fun v7 H7 s7 hv7 => ?_
              rw [dp_bl hv7]
              have e5 : isRingB bs ds = false := by
                unfold isRingB
                have : (List.range ds.length).all (link2 (founds bs ds)) = false := by
                  rw [List.all_eq_false]
                  exact ⟨j, List.mem_range.mpr hj, by rw [el]; simpa using e4⟩
                rw [this]
                simp
              rw [← e5]
              exact q H7 ((sA.trans s6).trans s7)
            · by_cases ei : i = j
              · rw [ei, el]; simpa using e4
              · exact hl' i (by omega)
          · obtain ⟨sH, hl', a, rfl⟩ := hp
            have sA := (s13.trans s5).trans sH
            have hMA := hM.mono sA
            refine rb_ret (M := M) (xd_cmpI op_lt (xd_sum T.sum (XL.dd ((xl_comp (own := [("_law_at", 2)]) (fun d => (bs[idx d]?).map fun b => PyData.int b.2.2) hMA scLRing.nd (xd_name 1 rfl (hu.up (hid_mono (M := M) sA))) (blkOk_by (own := [("_law_at", 2)]) (N := nLRing) (sc := defScope sLRing) (by decide +kernel)) (by omega) (fun p d v' H7 hd hp s7 Lp hv' => ?comp2)).to (by rw [show ds.filterMap (fun d => (bs[idx d]?).map fun b => PyData.int b.2.2) = (founds bs ds).map (fun b => PyData.int b.2.2) by unfold founds; rw [List.map_filterMap], map_ints])) hMA)) xd_int) fun v8 H8 s8 hv8 => ?_
            case comp2 =>
              obtain ⟨i, b, rfl, hi, hb⟩ := in_at (hin d hd)
              intro s0 H0 C0 cl fp
              refine rg_name 2 ⟨rfl, bt_nil ⟨Same.refl _, .inl ⟨rfl, .int b.2.2, by rw [hi, hb]; rfl, fun s0 H0 C0 cl fp => ?_⟩⟩⟩ scLRing.nd
              have hvB : Dq K (hid (p :: M) H7) v (encBs k k2 bs) := (hv.up (hid_mono (M := M) sA)).up (hid_step hp s7)
              exact XD.go (xd_ixQ (M := p :: M) (k := k2) (fun _ _ => rfl) (xd_ixQ (fun _ _ => rfl) (xd_name 0 rfl hvB) (xd_name 2 rfl hv') (bs_at hb)) xd_int (atI_nat (j := 2) rfl)) fun v5 H5 s5 hv5 => ⟨s5, hv5⟩
            rw [dp_bl hv8]
            have e5 : isRingB bs ds = decide (sumN (founds bs ds) < 0) := by
              unfold isRingB
              have : (List.range ds.length).all (link2 (founds bs ds)) = true := List.all_eq_true.mpr fun i hi => hl' i (List.mem_range.mp hi)
              rw [this, e3, e]
              simp
            have e6 := q H8 (sA.trans s8)
            rw [e5] at e6
            exact e6
    · refine rb_ifT ((xt_or2 (k1 := true) (k2 := false) ((xt_not (xt_val (M := M) (k := false) (xd_isTy (by rw [kt_list tu.t, decide_eq_false c]) T.isi T.lst (by decide +kernel) (xv_name 1 rfl) tu.ty))).to rfl) fun z => Bool.noConfusion z).to rfl) fun H2 s2 => ?_
      exact rb_ret (M := M) xd_bl fun v4 H4 s4 hv4 => by rw [dp_bl hv4]; exact q1 c H4 (s2.trans s4)
end
end Zn

set_option Elab.async false
set_option linter.all false
set_option maxRecDepth 100000
set_option maxHeartbeats 4000000
namespace Dl
open PySem PySem.Spec PyProof.Rows L2
section
variable {X : Cx} {M : List Addr} {σ : L2.St} {H : Hp} {e : Expr} {pos : Pos} {D : Ends} {rest : List Stmt}
theorem rb_forV {tg : Expr} {body : List Stmt} (h : RE X e σ H fun v H1 => ∃ a xs, v = .ref a ∧ SqL X.K H1 a xs ∧ ∃ Pv : Nat → L2.St → Hp → Prop, Pv 0 σ H1 ∧ (∀ k σ' H', Pv k σ' H' → SqL X.K H' a xs) ∧
      (∀ k x, xs[k]? = some x → ∀ σ' H', Pv k σ' H' → RG X tg x σ' H' fun σ2 H2 => RB X body { D with nx := Pv (k + 1), ct := Pv (k + 1), bk := RB X rest D } σ2 H2) ∧ ∀ σ' H', Pv xs.length σ' H' → RB X rest D σ' H')
    (hp : PassesOwn (model X.prog X.w) X.A X.env X.xe := by exact PassesOwn.never) (hc : X.calm = true := by rfl) (hs : ∀ x, foldedSetIterable e X.env x = pure x := by intro _; rfl) : RB X (.For tg e body [] pos :: rest) D σ H :=
  ⟨_, pss_cons (ps_for hp hc (pi_list re_) rg_ rb_ hs) rb_, re_mono h fun v H1 ⟨a, xs, ev, hS, Pv, h0, hk, hst, hd⟩ =>
    ⟨a, ev, ⟨xs, hS⟩, for_list (xs := xs) Pv h0 (fun i σ' H' _ p => hk i σ' H' p) (fun i x σ' H' hi p => hst i x hi σ' H' p) hd⟩⟩
theorem rb_forVT {tg : Expr} {body : List Stmt} (h : RE X e σ H fun v H1 => ∃ a xs, v = .ref a ∧ SqT X.K H1 a xs ∧ ∃ Pv : Nat → L2.St → Hp → Prop, Pv 0 σ H1 ∧ (∀ k σ' H', Pv k σ' H' → SqT X.K H' a xs) ∧
      (∀ k x, xs[k]? = some x → ∀ σ' H', Pv k σ' H' → RG X tg x σ' H' fun σ2 H2 => RB X body { D with nx := Pv (k + 1), ct := Pv (k + 1), bk := RB X rest D } σ2 H2) ∧ ∀ σ' H', Pv xs.length σ' H' → RB X rest D σ' H')
    (hp : PassesOwn (model X.prog X.w) X.A X.env X.xe := by exact PassesOwn.never) (hc : X.calm = true := by rfl) (hs : ∀ x, foldedSetIterable e X.env x = pure x := by intro _; rfl) : RB X (.For tg e body [] pos :: rest) D σ H :=
  ⟨_, pss_cons (ps_for hp hc (pi_tup re_) rg_ rb_ hs) rb_, re_mono h fun v H1 ⟨a, xs, ev, hS, Pv, h0, hk, hst, hd⟩ =>
    ⟨a, ev, ⟨xs, hS⟩, for_tup (xs := xs) Pv h0 (fun i σ' H' _ p => hk i σ' H' p) (fun i x σ' H' hi p => hst i x hi σ' H' p) hd⟩⟩
end
end Dl
namespace Zn
open PySem PySem.Spec PyProof.Rows L2 Dl
/-! k16: bounds that are refused: is_bound, need_bounds -/
theorem kt_tup {T : String} (h : T ∈ tys) : kitB T "tuple" = some (decide (T = "tuple")) := by
  simp only [tys, List.mem_cons, List.not_mem_nil, or_false] at h
  rcases h with e | e | e | e | e | e | e <;> rw [e] <;> decide +kernel
theorem kt_dct {T : String} (h : T ∈ tys) : kitB T "dict" = some (decide (T = "dict")) := by
  simp only [tys, List.mem_cons, List.not_mem_nil, or_false] at h
  rcases h with e | e | e | e | e | e | e <;> rw [e] <;> decide +kernel
def nameD : PyData → Bool
  | .str x => nameB x
  | _ => false
def shortD : PyData → Bool
  | .str x => decide (x.length ≤ 1000)
  | _ => true
def wholeD (d : PyData) : Bool := decide (tyN d = "int")
/-- no bound -/
def noB : List PyData → Bool
  | [d0, d1, d2] => (flat d0 && flat d1 && flat d2) && (shortD d0 && shortD d1) && !(nameD d0 && nameD d1 && wholeD d2)
  | ds => !decide (ds.length = 3)
section
variable {X : Cx} {M : List Addr} {σ : L2.St} {H : Hp} {a e : Expr} {pos p1 p2 : Pos} {f : Addr} {fd : FuncData} {d : PyData} {v : V} {T : String}
/-- isinstance(a, (list, tuple)) -/
theorem xd_isSeqV {k3} {q1 q2 q3 : Pos} (N : Nm X.mg) (ha : XV X σ H a v) (ht : Th X.K H v T) (hg : Gl X "isinstance" := by rfl) (hg1 : Gl X "list" := by rfl) (hg2 : Gl X "tuple" := by rfl)
    (he : starEach [a, .Tuple [.Name "list" q1, .Name "tuple" q2] k3 q3] X.env = (false, eval a X.env) :: starEach [.Tuple [.Name "list" q1, .Name "tuple" q2] k3 q3] X.env := by rfl) (he2 : starEach [.Tuple [.Name "list" q1, .Name "tuple" q2] k3 q3] X.env = (false, eval (.Tuple [.Name "list" q1, .Name "tuple" q2] k3 q3) X.env) :: starEach [] X.env := by rfl)
    (hs1 : starEach [.Name "list" q1, .Name "tuple" q2] X.env = (false, eval (.Name "list" q1) X.env) :: starEach [.Name "tuple" q2] X.env := by rfl) (hs2 : starEach [.Name "tuple" q2] X.env = (false, eval (.Name "tuple" q2) X.env) :: starEach [] X.env := by rfl)
    (hpl : (backTo pos (starEach [.Tuple [.Name "list" q1, .Name "tuple" q2] k3 q3] X.env)).any (·.1) = false := by rfl) :
    XD X M σ H (.Call (.Name "isinstance" p1) [a, .Tuple [.Name "list" q1, .Name "tuple" q2] k3 q3] [] pos) (.bool (decide (T = "list") || decide (T = "tuple"))) := fun H1 s Q q =>
  re_B call_isiT (ra_cons (ha H1 s _ fun H2 s2 => ra_1 ⟨_, pe_tup ra_, ra_cons (xv_bltn (v := .ty "list") N.lst (by decide +kernel) rfl hg1 (by decide) (by decide) H2 (Same.refl _) _ fun H3 s3 => ra_1 (xv_bltn (v := .ty "tuple") N.tup (by decide +kernel) rfl hg2 (by decide) (by decide) H3 (Same.refl _) _ fun H4 s4 => by
    refine ⟨by show 2 ≤ sizeLine; decide, fun p hp => ?_⟩
    have s5 : Same H2 (upd H4 p (.tup [V.ty "list", V.ty "tuple"])) := (s3.trans s4).trans (same_new hp)
    refine ⟨v, p, [.ty "list", .ty "tuple"], _, _, decide (T = "list") || decide (T = "tuple"), rfl, upd_same, .cons (.ty "list") (.cons (.ty "tuple") .nil), ht.ty _ ((s.trans s2).trans s5), ?_, q _ _ (s2.trans s5) (.bl _)⟩
    refine kitAny_cons (kit_ty (kt_list ht.t)) (fun z => ?_) (fun z => by rw [z]; rfl)
    rw [z, Bool.false_or]
    exact kitAny_cons (kit_ty (kt_tup ht.t)) (fun z2 => by rw [z2]; exact kitAny_nil) (fun z2 => z2)) hs2) hs1⟩ he2) he) N.isi (by decide +kernel) hg (by decide) (by decide) he hpl
/-- is_name, is_whole of data -/
theorem xd_isNmD (G : FnOk X.prog X.w X.K X.mg X.base CX0 1 f fd ["value"] (spName X.K)) (hr : Room 1 X.A) (FF : Df X.K X.mg "is_name" sIsName ["value"] f fd) (ho : XD X M σ H e d) (hf : flat d = true) (hz : shortD d = true) (hg : Gl X "is_name" := by rfl)
    (he : starEach [e] X.env = (false, eval e X.env) :: starEach [] X.env := by rfl) (hpl : (backTo pos (starEach [] X.env)).any (·.1) = false := by rfl) : XD X M σ H (.Call (.Name "is_name" p1) [e] [] pos) (.bool (nameD d)) := fun H1 s Q q =>
  re_call G hr FF.g FF.F.kp FF.b (ra_1 (ho H1 s _ fun v H2 s2 hv => by
    have ht := th_flat hv hf
    refine ⟨v, tyN d, rfl, ht, fun y ey => ?_, fun n H3 s3 => ?_⟩
    · subst ey
      cases hv with
      | str => exact ⟨of_decide_eq_true hz, fun H3 s3 => q _ H3 (s2.trans s3) (.bl _)⟩
    · have : nameD d = false := by
        cases d with
        | str x => exact absurd rfl n
        | _ => rfl
      rw [this] at q
      exact q _ H3 (s2.trans s3) (.bl _)) he) hg (by decide) he hpl
theorem xd_wholeD (G : FnOk X.prog X.w X.K X.mg X.base CX0 1 f fd ["value"] (spWh X.K)) (hr : Room 1 X.A) (FF : Df X.K X.mg "is_whole" sWhole ["value"] f fd) (ho : XD X M σ H e d) (hf : flat d = true) (hg : Gl X "is_whole" := by rfl)
    (he : starEach [e] X.env = (false, eval e X.env) :: starEach [] X.env := by rfl) (hpl : (backTo pos (starEach [] X.env)).any (·.1) = false := by rfl) : XD X M σ H (.Call (.Name "is_whole" p1) [e] [] pos) (.bool (wholeD d)) := fun H1 s Q q =>
  re_call G hr FF.g FF.F.kp FF.b (ra_1 (ho H1 s _ fun v H2 s2 hv => ⟨v, tyN d, rfl, th_flat hv hf, fun H3 s3 => q _ H3 (s2.trans s3) (.bl _)⟩) he) hg (by decide) he hpl
theorem xd_and3B {b c : Expr} {k1 k2 k3 : Bool} (ha : XD X M σ H a (.bool k1)) (hb : XD X M σ H b (.bool k2)) (hc : XD X M σ H c (.bool k3)) : XD X M σ H (.BoolOp .And [a, b, c] pos) (.bool (k1 && k2 && k3)) := by
  cases k1 with
  | false => exact xd_andF ha
  | true => cases k2 with
    | false => exact xd_andT ha (xd_andF hb)
    | true => exact xd_andT ha (xd_andT hb (xd_one hc))
end
section
variable {P : Program} {w : World} {K : PySem.W.Frag} {mg : Str → Option Value} {base : Heap}
/-- a thing that is no bound -/
def NotB (K : PySem.W.Frag) (H : Hp) (v : V) : Prop := (∃ T, Th K H v T ∧ T ≠ "list" ∧ T ≠ "tuple") ∨ ∃ (k : Bool) (ds : List PyData), Dq K (hid [] H) v (sqD k ds) ∧ noB ds = true
theorem NotB.up {H H1 : Hp} {v : V} (h : NotB K H v) (s : Same H H1) : NotB K H1 v := by
  rcases h with ⟨T, t, n⟩ | ⟨k, ds, hv, hb⟩
  · exact .inl ⟨T, t.up s, n⟩
  · exact .inr ⟨k, ds, hv.up (hid_mono (M := []) s), hb⟩
def spNotB (K : PySem.W.Frag) : Sp := fun vs H Q _ => ∃ v, vs = [v] ∧ NotB K H v ∧ ∀ H1, Same H H1 → Q (.bl false) H1
theorem ok_isBN {fW fN f : Addr} {gW gN fd : FuncData} (T : Nm mg) (GW : FnOk P w K mg base CX0 1 fW gW ["value"] (spWh K)) (FW : Df K mg "is_whole" sWhole ["value"] fW gW) (GN : FnOk P w K mg base CX0 1 fN gN ["value"] (spName K)) (FN : Df K mg "is_name" sIsName ["value"] fN gN)
    (F : Df K mg "is_bound" sIsB ["value"] f fd) : FnOk P w K mg base CX0 2 f fd ["value"] (spNotB K) := by
  refine F.F.ok scIsB (fun vs H Q E h => ?_) (fun cdv A outer s H vs Q E hr h => ?_)
  · obtain ⟨v, rfl, _⟩ := h; rfl
  · obtain ⟨v, rfl, hn, q⟩ := h
    rcases hn with ⟨T', ht, n1, n2⟩ | ⟨k, ds, hv, hb⟩
    · refine rb_ifT ((xt_or2 (k1 := true) (k2 := true) ((xt_not (xt_val (M := []) (k := false) ((xd_isSeqV T (xv_name 0 rfl) ht).to (by rw [decide_eq_false n1, decide_eq_false n2]; rfl)))).to rfl) fun z => Bool.noConfusion z).to rfl) fun H1 s1 => ?_
      exact rb_ret (M := []) xd_bl fun v2 H2 s2 hv2 => by rw [dp_bl hv2]; exact q H2 (s1.trans s2)
    · by_cases c : ds.length = 3
      · refine rb_ifF ((xt_or2 (k1 := false) (k2 := false) ((xt_not (xt_val (M := []) (k := true) (xd_isSeq (mg := mg) T (xd_name 0 rfl hv)))).to rfl) fun _ => (xt_neI (M := []) (xd_lenQ T.len (xd_name 0 rfl hv)) xd_int).to (by rw [c]; rfl)).to rfl) fun H1 s1 => ?_
        have hv1 := hv.up (hid_mono (M := []) s1)
        match ds, c, hb with
        | [d0, d1, d2], _, hb =>
          simp only [noB, Bool.and_eq_true, Bool.not_eq_true'] at hb
          obtain ⟨⟨⟨⟨f0, f1⟩, f2⟩, z0, z1⟩, hb⟩ := hb
          refine rb_ret (M := []) ((xd_and3B (xd_isNmD GN (hr.mono (by decide)) FN (xd_ixQ (fun _ _ => rfl) (xd_name 0 rfl hv1) xd_int (atI_nat (j := 0) rfl)) f0 z0) (xd_isNmD GN (hr.mono (by decide)) FN (xd_ixQ (fun _ _ => rfl) (xd_name 0 rfl hv1) xd_int (atI_nat (j := 1) rfl)) f1 z1) (xd_wholeD GW (hr.mono (by decide)) FW (xd_ixQ (fun _ _ => rfl) (xd_name 0 rfl hv1) xd_int (atI_nat (j := 2) rfl)) f2)).to (by rw [hb])) fun v2 H2 s2 hv2 => by
            rw [dp_bl hv2]; exact q H2 (s1.trans s2)
      · refine rb_ifT ((xt_or2 (k1 := false) (k2 := true) ((xt_not (xt_val (M := []) (k := true) (xd_isSeq (mg := mg) T (xd_name 0 rfl hv)))).to rfl) fun _ => (xt_neI (M := []) (xd_lenQ T.len (xd_name 0 rfl hv)) xd_int).to (by
          have : ¬ ((ds.length : Int) = 3) := fun z => c (by omega)
          simpa using this)).to rfl) fun H1 s1 => ?_
        exact rb_ret (M := []) xd_bl fun v2 H2 s2 hv2 => by rw [dp_bl hv2]; exact q H2 (s1.trans s2)
/-- the exception of the class C with the very value v comes out -/
def Out (E : XK) (C : Addr) (v : V) (H : Hp) : Prop := ∀ d H1, Same H H1 → H1 d = some (.xd [(("value" : Str), v)]) → E (.ref C) (some d) H1
theorem Out.up {E : XK} {C : Addr} {v : V} {H H1 : Hp} (h : Out E C v H) (s : Same H H1) : Out E C v H1 := fun d H2 s2 e => h d H2 (s.trans s2) e
/-- bounds that are refused: by the class C, for the very thing u -/
def BadBs (K : PySem.W.Frag) (H : Hp) (CP CB : Addr) (v : V) (C : Addr) (u : V) : Prop :=
  (∃ T, Th K H v T ∧ T ≠ "list" ∧ T ≠ "tuple" ∧ C = CP ∧ u = v) ∨
  ∃ (a : Addr) (xs ys : List V) (k : Bool) (bs : List Bd), v = .ref a ∧ H a = some (.lst (xs ++ u :: ys)) ∧ DqAll K (hid [] H) xs (bs.map (encB k)) ∧ OkB bs ∧ NotB K H u ∧ C = CB
theorem BadBs.up {H H1 : Hp} {CP CB C : Addr} {v u : V} (h : BadBs K H CP CB v C u) (s : Same H H1) : BadBs K H1 CP CB v C u := by
  rcases h with ⟨T, t, n⟩ | ⟨a, xs, ys, k, bs, e, ha, hx, ok, hn, ec⟩
  · exact .inl ⟨T, t.up s, n⟩
  · exact .inr ⟨a, xs, ys, k, bs, e, s _ _ ha, hx.up (hid_mono (M := []) s), ok, hn.up s, ec⟩
def spBadB (K : PySem.W.Frag) (CP CB : Addr) : Sp := fun vs H _ E => ∃ (v : V) (C : Addr) (u : V), vs = [v] ∧ BadBs K H CP CB v C u ∧ Out E C u H
theorem th_lst {K : PySem.W.Frag} {H : Hp} {a : Addr} {xs : List V} (e : H a = some (.lst xs)) : Th K H (.ref a) "list" := ⟨fun _ s => .base (.lst (s _ _ e)), by decide, fun _ z => V.noConfusion z, fun z => absurd z (by decide), fun _ z => V.noConfusion z, fun z => absurd z (by decide)⟩
theorem ok_needBX {fB f CP CB iP iB : Addr} {gB fd jP jB : FuncData} (T : Nm mg) (GB : FnOk P w K mg base CX0 2 fB gB ["value"] (spR K RIsB)) (GBN : FnOk P w K mg base CX0 2 fB gB ["value"] (spNotB K)) (FB : Df K mg "is_bound" sIsB ["value"] fB gB)
    (YP : XCls P w K mg base "InvalidPart" "value" CP iP jP) (YB : XCls P w K mg base "InvalidBound" "value" CB iB jB) (F : Df K mg "need_bounds" sNeedB ["bounds"] f fd) : FnOk P w K mg base (L2.CX P w) 3 f fd ["bounds"] (spBadB K CP CB) := by
  refine F.F.okX scNeedB (fun vs H Q E h => ?_) (fun cdv A outer s H vs Q E hr h => ?_)
  · obtain ⟨v, C, u, rfl, _⟩ := h; rfl
  · obtain ⟨v, C, u, rfl, hb, q⟩ := h
    have hr2 := hr.mono (show 2 ≤ 2 by decide)
    have tk : Takes (cxOf (L2.CX P w) P w K mg base ["bounds", "item"] "need_bounds" (defScope sNeedB) f cdv A outer s H E) (fun cls d _ H => E cls d H) := takes_of rfl rfl rfl rfl
    show RB (cxOf (L2.CX P w) P w K mg base ["bounds", "item"] "need_bounds" (defScope sNeedB) f cdv A outer s H E) (defBody sNeedB) _ _ H
    rcases hb with ⟨T', ht, n1, n2, rfl, rfl⟩ | ⟨a, xs, ys, k, bs, rfl, ha, hx, ok, hn, rfl⟩
    · refine rb_ifT ((xt_not (xt_val (M := []) (k := false) ((xd_isSeqV T (xv_name 0 rfl) ht).to (by rw [decide_eq_false n1, decide_eq_false n2]; rfl)))).to rfl) fun H1 s1 => ?_
      exact rb_raise YP hr2 tk (XV.go (xv_name 0 rfl) fun H3 s3 d H4 s4 e => q d H4 ((s1.trans s3).trans s4) e)
    · refine rb_ifF ((xt_not (xt_val (M := []) (k := true) ((xd_isSeqV T (xv_name 0 rfl) (th_lst ha)).to (by simp)))).to rfl) fun H1 s1 => ?_
      refine rb_forV (XV.go (xv_name 0 rfl) fun H2 s2 => ⟨a, xs ++ u :: ys, rfl, SqL.of ((s1.trans s2) _ _ ha), fun i σ' H' => Same H2 H' ∧ i ≤ xs.length ∧ ∃ t, σ' = [some (.ref a), t], ⟨Same.refl _, Nat.zero_le _, none, rfl⟩, fun i σ' H' h => SqL.of (h.1 _ _ ((s1.trans s2) _ _ ha)), fun i x hi σ' H' hp => ?_, fun σ' H' hp => ?_⟩) (passes_of rfl)
      · obtain ⟨sH, hl, t, rfl⟩ := hp
        have s0 := (s1.trans s2).trans sH
        refine rg_name 1 ?_ scNeedB.nd
        by_cases c : i < xs.length
        · rw [List.getElem?_append_left c] at hi
          obtain ⟨d, hd, hv'⟩ := dpa_get' hx hi
          rw [List.getElem?_map] at hd
          obtain ⟨b, hb, rfl⟩ := Option.map_eq_some_iff.mp hd
          obtain ⟨m1, m2⟩ := ok.2 b (List.mem_of_getElem? hb)
          refine rb_ifF ((xt_not (xt_val (M := []) (k := true) (xd_call Live.nil GB hr2 FB.g FB.F.kp FB.b (xa_cons (xd_name 1 rfl (hv'.up (hid_mono (M := []) s0))) xa_nil) ⟨k, b, rfl, m1, m2, rfl⟩))).to rfl) fun H3 s3 => rb_nil ⟨sH.trans s3, c, _, rfl⟩
        · have ei : i = xs.length := by omega
          subst ei
          have eu : u = x := by
            rw [List.getElem?_append_right (Nat.le_refl _), Nat.sub_self] at hi
            exact Option.some.inj hi
          subst eu
          refine rb_ifT ((xt_not (xt_val (M := []) (k := false) (fun H4 s4 Q q => re_call GBN hr2 FB.g FB.F.kp FB.b (ra_1 (XV.go (xv_name 1 rfl) fun H5 s5 => ⟨u, rfl, hn.up ((s0.trans s4).trans s5), fun H6 s6 => q _ H6 (s5.trans s6) (.bl _)⟩))))).to rfl) fun H3 s3 => ?_
          exact rb_raise YB hr2 tk (XV.go (xv_name 1 rfl) fun H4 s4 d H5 s5 e => q d H5 (((s0.trans s3).trans s4).trans s5) e)
      · obtain ⟨sH, hl, t, rfl⟩ := hp
        rw [List.length_append, List.length_cons] at hl
        omega
end
end Zn

set_option Elab.async false
set_option linter.all false
set_option maxRecDepth 100000
set_option maxHeartbeats 4000000
namespace Zn
open PySem PySem.Spec PyProof.Rows L2 Dl
/-! k16: settle, holds, shows_ring, tightest where they refuse -/
theorem th_dq {K : PySem.W.Frag} {M : List Addr} {H : Hp} {v : V} {d : PyData} (h : Dq K (hid M H) v d) : Th K H v (tyN d) := by
  cases h with
  | non => exact ⟨fun _ _ => .base .non, by decide, fun _ z => V.noConfusion z, fun z => absurd z (by decide), fun _ z => V.noConfusion z, fun z => absurd z (by decide)⟩
  | bl b => exact (show Th K H (.bl b) "bool" from ⟨fun _ _ => .base (.bl _), by decide, fun _ z => V.noConfusion z, fun z => absurd z (by decide), fun _ z => V.noConfusion z, fun z => absurd z (by decide)⟩)
  | int i => exact th_int
  | str x => exact th_str
  | lst e _ => exact th_lst (hid_le _ _ e)
  | tup e a =>
    have h0 : Dq K (hid M H) (.ref _) (.tuple _) := .tup e a
    exact (show Th K H (.ref _) "tuple" from ⟨fun _ s => ty_dq ((h0.up hid_le).up s), by decide, fun _ z => V.noConfusion z, fun z => absurd z (by decide), fun _ z => V.noConfusion z, fun z => absurd z (by decide)⟩)
section
variable {X : Cx} {M : List Addr} {σ : L2.St} {H : Hp} {a e : Expr} {pos p1 p2 : Pos} {f : Addr} {fd : FuncData} {d : PyData} {v : V} {T : String}
theorem xd_isNmA (G : FnOk X.prog X.w X.K X.mg X.base CX0 1 f fd ["value"] (spName X.K)) (hr : Room 1 X.A) (FF : Df X.K X.mg "is_name" sIsName ["value"] f fd) (ho : XD X M σ H e d) (hz : shortD d = true) (hg : Gl X "is_name" := by rfl)
    (he : starEach [e] X.env = (false, eval e X.env) :: starEach [] X.env := by rfl) (hpl : (backTo pos (starEach [] X.env)).any (·.1) = false := by rfl) : XD X M σ H (.Call (.Name "is_name" p1) [e] [] pos) (.bool (nameD d)) := fun H1 s Q q =>
  re_call G hr FF.g FF.F.kp FF.b (ra_1 (ho H1 s _ fun v H2 s2 hv => by
    refine ⟨v, tyN d, rfl, th_dq hv, fun y ey => ?_, fun n H3 s3 => ?_⟩
    · subst ey
      cases hv with
      | str => exact ⟨of_decide_eq_true hz, fun H3 s3 => q _ H3 (s2.trans s3) (.bl _)⟩
    · have : nameD d = false := by
        cases d with
        | str x => exact absurd rfl n
        | _ => rfl
      rw [this] at q
      exact q _ H3 (s2.trans s3) (.bl _)) he) hg (by decide) he hpl
end
section
variable {P : Program} {w : World} {K : PySem.W.Frag} {mg : Str → Option Value} {base : Heap} {CP CB CV CN CQ : Addr}
/-- a def that may raise, as it is called -/
theorem ok_settleX {fB f : Addr} {gB fd : FuncData} (GB : FnOk P w K mg base (L2.CX P w) 3 fB gB ["bounds"] (spBadB K CP CB)) (FB : Df K mg "need_bounds" sNeedB ["bounds"] fB gB) (F : Df K mg "settle" sSettle ["bounds"] f fd) : FnOk P w K mg base (L2.CX P w) 4 f fd ["bounds"] (spBadB K CP CB) := by
  refine F.F.okX scSettle (fun vs H Q E h => ?_) (fun cdv A outer s H vs Q E hr h => ?_)
  · obtain ⟨v, C, u, rfl, _⟩ := h; rfl
  · obtain ⟨v, C, u, rfl, hb, q⟩ := h
    have tk : Takes (cxOf (L2.CX P w) P w K mg base nSettle "settle" (defScope sSettle) f cdv A outer s H E) (fun cls d _ H => E cls d H) := takes_of rfl rfl rfl rfl
    exact rb_exprR (re_callX GB hr tk FB.g FB.F.kp FB.b (ra_1 (XV.go (xv_name 0 rfl) fun H1 s1 => ⟨v, C, u, rfl, hb.up s1, q.up s1⟩)))
def spShowsX (K : PySem.W.Frag) (CP CB : Addr) : Sp := fun vs H _ E => ∃ (v r : V) (C : Addr) (u : V), vs = [v, r] ∧ BadBs K H CP CB v C u ∧ Out E C u H
theorem ok_showsX {fB f : Addr} {gB fd : FuncData} (GB : FnOk P w K mg base (L2.CX P w) 3 fB gB ["bounds"] (spBadB K CP CB)) (FB : Df K mg "need_bounds" sNeedB ["bounds"] fB gB) (F : Df K mg "shows_ring" sShows ["bounds", "ring"] f fd) : FnOk P w K mg base (L2.CX P w) 4 f fd ["bounds", "ring"] (spShowsX K CP CB) := by
  refine F.F.okX scShows (fun vs H Q E h => ?_) (fun cdv A outer s H vs Q E hr h => ?_)
  · obtain ⟨v, r, C, u, rfl, _⟩ := h; rfl
  · obtain ⟨v, r, C, u, rfl, hb, q⟩ := h
    have tk : Takes (cxOf (L2.CX P w) P w K mg base nShows "shows_ring" (defScope sShows) f cdv A outer s H E) (fun cls d _ H => E cls d H) := takes_of rfl rfl rfl rfl
    exact rb_exprR (re_callX GB hr tk FB.g FB.F.kp FB.b (ra_1 (XV.go (xv_name 0 rfl) fun H1 s1 => ⟨v, C, u, rfl, hb.up s1, q.up s1⟩)))
/-- values that are refused for good bounds -/
def BadVs (K : PySem.W.Frag) (H : Hp) (v r : V) : Prop :=
  ∃ (M : List Addr) (k k2 : Bool) (bs : List Bd), Live M H ∧ Dq K (hid M H) v (encBs k k2 bs) ∧ OkB bs ∧
    ((∃ T, Th K H r T ∧ T ≠ "dict") ∨ ∃ (W : Addr) (ks : List Str) (f : Str → V) (ty : Str → String), r = .ref W ∧ DM H W ks f ∧ (∀ x ∈ ks, Th K H (f x) (ty x)) ∧ ((namesOf bs).all fun x => decide (x ∈ ks) && decide (ty x = "int")) = false)
theorem BadVs.up {H H1 : Hp} {v r : V} (h : BadVs K H v r) (s : Same H H1) : BadVs K H1 v r := by
  obtain ⟨M, k, k2, bs, hM, hv, ok, h⟩ := h
  refine ⟨M, k, k2, bs, hM.mono s, hv.up (hid_mono s), ok, ?_⟩
  rcases h with ⟨T, t, n⟩ | ⟨W, ks, f, ty, e, dW, ht, ha⟩
  · exact .inl ⟨T, t.up s, n⟩
  · exact .inr ⟨W, ks, f, ty, e, dW.up s, fun x hx => (ht x hx).up s, ha⟩
def spHoldsX (K : PySem.W.Frag) (CP CB CV : Addr) : Sp := fun vs H _ E => ∃ (v r : V), vs = [v, r] ∧ ((∃ C u, BadBs K H CP CB v C u ∧ Out E C u H) ∨ (BadVs K H v r ∧ Out E CV r H))
def fIn (ks : List Str) (ty : Str → String) : PyData → Option PyData
  | .str x => some (.bool (decide (x ∈ ks) && decide (ty x = "int")))
  | _ => none
theorem fIn_map (ks : List Str) (ty : Str → String) (ns : List Str) : (ns.map PyData.str).filterMap (fIn ks ty) = (ns.map fun x => decide (x ∈ ks) && decide (ty x = "int")).map PyData.bool := by
  induction ns with
  | nil => rfl
  | cons k t ih => rw [List.map_cons, List.map_cons, List.map_cons, ← ih]; rfl
theorem ok_holdsX {fB fN fW f iV : Addr} {gB gN gW fd jV : FuncData} (T : Nm mg) (GBX : FnOk P w K mg base (L2.CX P w) 3 fB gB ["bounds"] (spBadB K CP CB)) (GB : FnOk P w K mg base CX0 3 fB gB ["bounds"] (spR K RNeedB)) (FB : Df K mg "need_bounds" sNeedB ["bounds"] fB gB) (GN : FnOk P w K mg base CX0 1 fN gN ["bounds"] (spL K RNames)) (FN : Df K mg "names_in" sNames ["bounds"] fN gN)
    (GW : FnOk P w K mg base CX0 1 fW gW ["value"] (spWh K)) (FW : Df K mg "is_whole" sWhole ["value"] fW gW) (YV : XCls P w K mg base "InvalidValues" "value" CV iV jV) (F : Df K mg "holds" sHolds ["bounds", "values"] f fd) : FnOk P w K mg base (L2.CX P w) 4 f fd ["bounds", "values"] (spHoldsX K CP CB CV) := by
  refine F.F.okX scHolds (fun vs H Q E h => ?_) (fun cdv A outer sh H vs Q E hr h => ?_)
  · obtain ⟨v, r, rfl, _⟩ := h; rfl
  · obtain ⟨v, r, rfl, h⟩ := h
    have tk : Takes (cxOf (L2.CX P w) P w K mg base nHolds "holds" (defScope sHolds) f cdv A outer sh H E) (fun cls d _ H => E cls d H) := takes_of rfl rfl rfl rfl
    show RB (cxOf (L2.CX P w) P w K mg base nHolds "holds" (defScope sHolds) f cdv A outer sh H E) (defBody sHolds) _ _ H
    rcases h with ⟨C, u, hb, q⟩ | ⟨⟨M, k, k2, bs, hM, hv, ok, h⟩, q⟩
    · exact rb_exprR (re_callX GBX hr tk FB.g FB.F.kp FB.b (ra_1 (XV.go (xv_name 0 rfl) fun H1 s1 => ⟨v, C, u, rfl, hb.up s1, q.up s1⟩)))
    · have hr2 := hr.mono (show 2 ≤ 3 by decide)
      have hr1 := hr.mono (show 1 ≤ 3 by decide)
      have hu := hu_of hr
      have hok := ok.1
      refine rb_expr (M := M) (xd_call hM GB hr FB.g FB.F.kp FB.b (xa_cons (xd_name 0 rfl hv) xa_nil) ⟨k, k2, bs, rfl, ok, rfl⟩) fun H1 s1 => ?_
      rcases h with ⟨T', ht, n⟩ | ⟨W, ks, f', ty, rfl, dW, ht, ha⟩
      · refine rb_ifT ((xt_not (xt_val (M := M) (k := false) (xd_isTy (by rw [kt_dct ht.t, decide_eq_false n]) T.isi T.dct (by decide +kernel) (xv_name 1 rfl) (ht.up s1).ty))).to rfl) fun H2 s2 => ?_
        exact rb_raise YV hr2 tk (XV.go (xv_name 1 rfl) fun H3 s3 d H4 s4 e => q d H4 (((s1.trans s2).trans s3).trans s4) e)
      · refine rb_ifF ((xt_not (xt_val (M := M) (k := true) (xd_isTy kit_dict T.isi T.dct (by decide +kernel) (xv_name 1 rfl) fun H2 s2 => .base (.dK (dW.up (s1.trans s2)))))).to rfl) fun H2 s2 => ?_
        have s12 := s1.trans s2
        have hv2 := hv.up (hid_mono (M := M) s12)
        have nl : (namesOf bs).length ≤ 2000 := by
          have := names_len bs bs.length
          rw [List.take_length] at this
          omega
        refine rb_ifT ((xt_not (xt_val (M := M) (k := false) ((xd_all T.all (XL.dd ((xl_comp (own := [("name", 2)]) (fIn ks ty) (hM.mono s12) scHolds.nd (XL.dd (xl_call (hM.mono s12) GN hr1 FN.g FN.F.kp FN.b (xa_cons (xd_name 0 rfl hv2) xa_nil) ⟨k, k2, bs, rfl, ok, rfl⟩) (hM.mono s12)) (blkOk_by (own := [("name", 2)]) (N := nHolds) (sc := defScope sHolds) (by decide +kernel)) (by rw [List.length_map]; omega) (fun p d v' H3 hd hp s3 Lp hv' => ?comp1)).to (fIn_map ks ty _)) (hM.mono s12))).to (by rw [map_all, ha])))).to rfl) fun H3 s3 => ?_
        case comp1 =>
          obtain ⟨x, hx, rfl⟩ := List.mem_map.mp hd
          rw [dp_str hv']
          intro s0 H0 C0 cl fp
          refine rg_name 2 ⟨rfl, bt_nil ⟨Same.refl _, .inl ⟨rfl, _, rfl, fun s0 H0 C0 cl fp => ?_⟩⟩⟩ scHolds.nd
          have dW3 := dW.up (s12.trans s3)
          refine XD.go (xd_and2 (M := p :: M) (k1 := decide (x ∈ ks)) (k2 := decide (ty x = "int")) (xd_din hu (xd_name 2 rfl (.str x)) (xv_name 1 rfl) dW3) fun z => ?_) fun v4 H4 s4 hv4 => ⟨s4, hv4⟩
          have hx := of_decide_eq_true z
          exact xd_whole (T := ty x) GW hr1 FW (xv_dget (M := p :: M) hu (xv_name 1 rfl) (xd_name 2 rfl (.str x)) dW3 hx) ((ht x hx).up (s12.trans s3))
        exact rb_raise YV hr2 tk (XV.go (xv_name 1 rfl) fun H4 s4 d H5 s5 e => q d H5 (((s12.trans s3).trans s4).trans s5) e)
/-- tightest where it refuses good bounds -/
def TightX (K : PySem.W.Frag) (E : XK) (H : Hp) (CN CQ : Addr) (v x y : V) : Prop :=
  ∃ (M : List Addr) (k k2 : Bool) (bs : List Bd) (dx dy : PyData), Live M H ∧ Dq K (hid M H) v (encBs k k2 bs) ∧ OkB bs ∧ Dq K (hid M H) x dx ∧ Dq K (hid M H) y dy ∧ shortD dx = true ∧ shortD dy = true ∧
    (nameD dx = false → Out E CN x H) ∧ (nameD dx = true → nameD dy = false → Out E CN y H) ∧
    (nameD dx = true → nameD dy = true → (¬ ∃ g, Bf.Holds bs g) ∧ ∀ c ring r H1, Same H H1 → H r = none → H1 r = some (.lst (ring.map V.int)) → IsRing bs c ring → ring.length ≤ (namesOf bs).length → Out E CQ (.ref r) H1)
def spTightX (K : PySem.W.Frag) (CP CB CN CQ : Addr) : Sp := fun vs H _ E => ∃ (v x y : V), vs = [v, x, y] ∧ ((∃ C u, BadBs K H CP CB v C u ∧ Out E C u H) ∨ TightX K E H CN CQ v x y)
theorem ok_tightX {fS fN f iN iQ : Addr} {gS gN fd jN jQ : FuncData} (T : Nm mg) (GSX : FnOk P w K mg base (L2.CX P w) 4 fS gS ["bounds"] (spBadB K CP CB)) (GS : FnOk P w K mg base CX0 4 fS gS ["bounds"] (spSettle K)) (FS : Df K mg "settle" sSettle ["bounds"] fS gS) (GN : FnOk P w K mg base CX0 1 fN gN ["value"] (spName K)) (FN : Df K mg "is_name" sIsName ["value"] fN gN)
    (YN : XCls P w K mg base "InvalidName" "value" CN iN jN) (YQ : XClsG P w K mg base SLx.leTl "LookupError.__new__" "LookupError.__init__" "LookupError" "NotPossible" "value" CQ iQ jQ) (F : Df K mg "tightest" sTight ["bounds", "x", "y"] f fd) : FnOk P w K mg base (L2.CX P w) 5 f fd ["bounds", "x", "y"] (spTightX K CP CB CN CQ) := by
  refine F.F.okX scTight (fun vs H Q E h => ?_) (fun cdv A outer sh H vs Q E hr h => ?_)
  · obtain ⟨v, x, y, rfl, _⟩ := h; rfl
  · obtain ⟨v, x, y, rfl, h⟩ := h
    have tk : Takes (cxOf (L2.CX P w) P w K mg base nTight "tightest" (defScope sTight) f cdv A outer sh H E) (fun cls d _ H => E cls d H) := takes_of rfl rfl rfl rfl
    show RB (cxOf (L2.CX P w) P w K mg base nTight "tightest" (defScope sTight) f cdv A outer sh H E) (defBody sTight) _ _ H
    rcases h with ⟨C, u, hb, q⟩ | ⟨M, k, k2, bs, dx, dy, hM, hv, ok, hx, hy, zx, zy, q1, q2, q3⟩
    · exact rb_asgR (re_callX GSX hr tk FS.g FS.F.kp FS.b (ra_1 (XV.go (xv_name 0 rfl) fun H1 s1 => ⟨v, C, u, rfl, hb.up s1, q.up s1⟩)))
    · have hu := hu_of hr
      have hr1 := hr.mono (show 1 ≤ 4 by decide)
      have hr2 := hr.mono (show 2 ≤ 4 by decide)
      -- behind settle
      have key : ∀ (H2 : Hp) (z : Str) (r : V), Same H H2 → (nameD dx = true → nameD dy = true → z = "ring" ∧ Out E CQ r H2) →
          RB (cxOf (L2.CX P w) P w K mg base nTight "tightest" (defScope sTight) f cdv A outer sh H E) ((defBody sTight).drop 1) { nx := fun _ H1 => Q .non H1, rt := Q } [some v, some x, some y, some (.str z), some r, none] H2 := by
        intro H2 z r s2 hz
        refine rb_forVT (⟨_, pe_tup ra_, ra_cons (XV.go (xv_name 1 rfl) fun Ha sa => ra_1 (XV.go (xv_name 2 rfl) fun Hb sb => ⟨by show 2 ≤ sizeLine; decide, fun t ht => ⟨t, [x, y], rfl, SqT.of upd_same, fun i σ' H' => Same (upd Hb t (.tup [x, y])) H' ∧ (1 ≤ i → nameD dx = true) ∧ (2 ≤ i → nameD dy = true) ∧ ∃ a, σ' = [some v, some x, some y, some (.str z), some r, a], ⟨Same.refl _, fun z => absurd z (by decide), fun z => absurd z (by decide), none, rfl⟩, fun i σ' H' h => SqT.of (h.1 _ _ upd_same), fun i u hu σ' H' hp => ?_, fun σ' H' hp => ?_⟩⟩))⟩) (passes_of rfl)
        · obtain ⟨sH, nx, ny, a, rfl⟩ := hp
          have s3 := (sa.trans sb).trans (same_new (o := .tup [x, y]) ht)
          have s0 := (s2.trans s3).trans sH
          refine rg_name 5 ?_ scTight.nd
          obtain ⟨d, hd, zd, no, yes⟩ : ∃ d, Dq K (hid M H) u d ∧ shortD d = true ∧ (nameD d = false → Out E CN u H) ∧ (nameD d = true → (1 ≤ i + 1 → nameD dx = true) ∧ (2 ≤ i + 1 → nameD dy = true)) := by
            match i, hu, nx with
            | 0, hu, _ =>
              have eu : x = u := Option.some.inj hu
              subst eu
              exact ⟨dx, hx, zx, q1, fun c => ⟨fun _ => c, fun z => absurd z (by decide)⟩⟩
            | 1, hu, nx =>
              have eu : y = u := Option.some.inj hu
              subst eu
              exact ⟨dy, hy, zy, q2 (nx (by decide)), fun c => ⟨fun _ => nx (by decide), fun _ => c⟩⟩
          cases c : nameD d with
          | true => exact rb_ifF ((xt_not (xt_val (M := M) (k := true) ((xd_isNmA GN hr1 FN (xd_name 5 rfl (hd.up (hid_mono s0))) zd).to (by rw [c])))).to rfl) fun H4 s4 => rb_nil ⟨sH.trans s4, (yes c).1, (yes c).2, _, rfl⟩
          | false =>
            refine rb_ifT ((xt_not (xt_val (M := M) (k := false) ((xd_isNmA GN hr1 FN (xd_name 5 rfl (hd.up (hid_mono s0))) zd).to (by rw [c])))).to rfl) fun H4 s4 => ?_
            exact rb_raise YN hr2 tk (XV.go (xv_name 5 rfl) fun H5 s5 d H6 s6 e => no c d H6 (((s0.trans s4).trans s5).trans s6) e)
        · obtain ⟨sH, nx, ny, a, rfl⟩ := hp
          obtain ⟨rfl, qq⟩ := hz (nx (by simp)) (ny (by simp))
          refine rb_ifT ((xt_eqS (M := []) (x := "ring") (y := "ring") (xd_name 3 rfl (.str _)) xd_str).to (by decide +kernel)) fun H4 s4 => ?_
          have s3 := (sa.trans sb).trans (same_new (o := .tup [x, y]) ht)
          exact rb_raiseG YQ hr2 tk (XV.go (xv_name 4 rfl) fun H5 s5 d H6 s6 e => qq d H6 ((((s3.trans sH).trans s4).trans s5).trans s6) e)
      refine rb_asgR (re_call GS hr FS.g FS.F.kp FS.b (ra_1 (XV.go (xv_name 0 rfl) fun H1 s1 => ⟨v, M, k, k2, bs, rfl, hM.mono s1, hv.up (hid_mono s1), ok, fun g H2 t W s2 ht hW h2 dW hh => ?_, fun c ring H2 t r s2 ht hr2' h2 h3 hz hR hno => ?_⟩)))
      · refine rg_tup (SqT.of h2) (rgs_cons (rg_name 3 (rgs_cons (rg_name 4 (rgs_nil ?_) scTight.nd)) scTight.nd))
        exact key H2 _ _ (s1.trans s2) fun n1 n2 => absurd ⟨_, hh⟩ (q3 n1 n2).1
      · refine rg_tup (SqT.of h2) (rgs_cons (rg_name 3 (rgs_cons (rg_name 4 (rgs_nil ?_) scTight.nd)) scTight.nd))
        exact key H2 _ _ (s1.trans s2) fun n1 n2 => ⟨rfl, (q3 n1 n2).2 c ring r H2 (s1.trans s2) (s1.free hr2') h3 hR hz⟩
end
end Zn

set_option Elab.async false
set_option linter.all false
set_option maxRecDepth 100000
set_option maxHeartbeats 4000000
namespace Zn
open PySem PySem.Spec PyProof.Rows L2 Dl
section
variable {X : Cx} {σ : L2.St} {H : Hp} {es : List Expr} {pos : Pos}
def tLstN (t : TA) : TE := fun σ H Q => t σ H fun xs H1 => xs.length ≤ sizeLine ∧ ∀ p, H1 p = none → p ≠ sysModules → Q (.ref p) (upd H1 p (.lst xs))
theorem big_ne {pins : List (Addr × Obj)} {s : Shared} (I : Inv X pins σ H s) : s.heap.objs.size ≠ sysModules := fun z => by
  have h := I.big
  rw [z] at h
  exact Nat.lt_irrefl _ h
theorem pe_lstN {es : List Expr} {t : TA} (h : PA X es t) : PE X (.List es pos) (tLstN t) :=
  ⟨fun pins s σ H Q I hq => wpAny_List_spliced (thn (h.run pos pins s σ H _ I hq) fun us s1 ⟨xs, H1, I1, r, z, q⟩ => ⟨by rw [← r.length]; exact z, .ref s1.heap.objs.size, _, I1.lnew (t' := s1.toks) r z, rfl, q _ I1.fresh (big_ne I1)⟩)⟩
def rCatN : R2 := fun x y H Q => ∃ l b xs zs, x = .ref l ∧ y = .ref b ∧ H l = some (.lst xs) ∧ H b = some (.lst zs) ∧ xs.length + zs.length ≤ sizeLine ∧ ∀ p, H p = none → p ≠ sysModules → Q (.ref p) (upd H p (.lst (xs ++ zs)))
theorem op_catN : OpR X (binaryOp .Add) rCatN := fun pins s σ H x y v u Q I rx ry ⟨l, b, xs, zs, ex, ey, hl, hb, hz, q⟩ => by
  subst ex; subst ey; cases rx; cases ry
  obtain ⟨_, i1, _, r1, _, g1⟩ := I.lstM hl
  obtain ⟨_, i2, _, r2, _, g2⟩ := I.lstM hb
  have l1 := r1.length
  have l2 := r2.length
  refine PySem.P.add_list g1 g2 ?_ (by rw [List.size_toArray, List.size_toArray]; omega)
  rw [show i1.toArray ++ i2.toArray = (i1 ++ i2).toArray by simp]
  exact ⟨.ref _, _, I.lnew (t' := s.toks) (r1.append r2) (by rw [List.length_append]; omega), rfl, q _ I.fresh (big_ne I)⟩
end
/-- scalars -/
inductive Dsc : V → PyData → Prop
  | non : Dsc .non .none
  | bl (b : Bool) : Dsc (.bl b) (.bool b)
  | int (i : Int) : Dsc (.int i) (.int i)
  | str (x : Str) : Dsc (.str x) (.str x)
def KD (p : Str × V) (q : PyData × PyData) : Prop := q.1 = .str p.1 ∧ Dsc p.2 q.2
def kmap (kvs : List (Str × V)) : List (Key × V) := kvs.map fun p => (.inr p.1, p.2)
theorem dsc_reads {h : Heap} {v : V} {d : PyData} {u : Value} (k : Dsc v d) (r : RelV v u) : Reads h u d [] := by
  cases k with
  | non => cases r; exact Reads.none
  | bl b => cases r; exact Reads.bool b
  | int i => obtain ⟨t, rfl⟩ := r; exact Reads.int i t
  | str x => obtain ⟨t, rfl⟩ := r; exact Reads.str x t
theorem dict_reads {P : Program} {w : World} {h : Heap} : ∀ {ks : List (Str × V)} {ds : List (PyData × PyData)} {vs : List (Key × Value)} {es : List DictEntry}, Paired KD ks ds → KV (kmap ks) vs → Pairs (mixKind P w) es vs →
    ReadsAll h (es.map (·.key)) (ds.map (·.1)) [] ∧ ReadsAll h (es.map (·.val)) (ds.map (·.2)) []
  | _, _, _, _, .nil, .nil, .nil => ⟨.nil, .nil⟩
  | _, _, _, _, .cons k t, .cons r t2, .cons e1 e2 t3 => by
    obtain ⟨h1, h2⟩ := dict_reads t t2 t3
    obtain ⟨ka, kb⟩ := k
    obtain ⟨ra, rb⟩ := r
    refine ⟨?_, ?_⟩
    · rw [List.map_cons, List.map_cons, ka]
      rw [← ra] at e1
      obtain ⟨t, et⟩ := Value.isStrOf_shape e1
      rw [et]
      exact ReadsAll.cons (Reads.str _ t) h1
    · rw [List.map_cons, List.map_cons, e2]
      exact ReadsAll.cons (dsc_reads kb rb) h2
mutual
/-- data of the hand's own things, {} among them -/
inductive Dz (H : Hp) : V → PyData → Prop
  | non : Dz H .non .none
  | bl (b : Bool) : Dz H (.bl b) (.bool b)
  | int (i : Int) : Dz H (.int i) (.int i)
  | str (x : Str) : Dz H (.str x) (.str x)
  | lst {a : Addr} {xs : List V} {ds : List PyData} : a ≠ sysModules → H a = some (.lst xs) → DzAll H xs ds → Dz H (.ref a) (.list ds)
  | tup {a : Addr} {xs : List V} {ds : List PyData} : H a = some (.tup xs) → DzAll H xs ds → Dz H (.ref a) (.tuple ds)
  | dic {a : Addr} {kvs : List (Str × V)} {ds : List (PyData × PyData)} : H a = some (.dK (kmap kvs)) → Paired KD kvs ds → Dz H (.ref a) (.dict ds)
inductive DzAll (H : Hp) : List V → List PyData → Prop
  | nil : DzAll H [] []
  | cons {v : V} {vs : List V} {d : PyData} {ds : List PyData} : Dz H v d → DzAll H vs ds → DzAll H (v :: vs) (d :: ds)
end
mutual
theorem Dz.up {H H1 : Hp} (s : Same H H1) : ∀ {d : PyData} {v : V}, Dz H v d → Dz H1 v d
  | _, _, .non => .non
  | _, _, .bl b => .bl b
  | _, _, .int i => .int i
  | _, _, .str x => .str x
  | _, _, .lst n h a => .lst n (s _ _ h) (DzAll.up s a)
  | _, _, .tup h a => .tup (s _ _ h) (DzAll.up s a)
  | _, _, .dic h k => .dic (s _ _ h) k
theorem DzAll.up {H H1 : Hp} (s : Same H H1) : ∀ {ds : List PyData} {vs : List V}, DzAll H vs ds → DzAll H1 vs ds
  | _, _, .nil => .nil
  | _, _, .cons a b => .cons (Dz.up s a) (DzAll.up s b)
end
section
variable {X : Cx} {pins : List (Addr × Obj)} {σ : L2.St} {H : Hp} {s : Shared}
mutual
theorem Dz.reads (I : Inv X pins σ H s) : ∀ (d : PyData) (v : V) (u : Value), Dz H v d → RelV v u → ∃ as, Reads s.heap u d as ∧ sysModules ∉ as
  | .none, _, _, h, r => by
    cases h
    cases r
    exact ⟨_, Reads.none, by simp⟩
  | .bool b, _, _, h, r => by
    cases h
    cases r
    exact ⟨_, Reads.bool b, by simp⟩
  | .int i, _, _, h, r => by
    cases h
    obtain ⟨t, rfl⟩ := r
    exact ⟨_, Reads.int i t, by simp⟩
  | .str x, _, _, h, r => by
    cases h
    obtain ⟨t, rfl⟩ := r
    exact ⟨_, Reads.str x t, by simp⟩
  | .list ds, _, _, h, r => by
    cases h with
    | lst ns hs ha =>
      cases r
      obtain ⟨its, rv, ⟨o, n, ho, hc, _, hd⟩, _⟩ := I.list (SqL.of hs)
      obtain ⟨as, hr, hn⟩ := Dz.readsAll I ds _ its ha rv
      exact ⟨_, Reads.list ho hc hd hr, fun z => by
        rcases List.mem_cons.mp z with z | z
        · exact ns z.symm
        · exact hn z⟩
  | .tuple ds, _, _, h, r => by
    cases h with
    | tup hs ha =>
      cases r
      obtain ⟨its, rv, ⟨o, ho, hc, n, hd⟩, _⟩ := I.tuple (SqT.of hs)
      obtain ⟨as, hr, hn⟩ := Dz.readsAll I ds _ its ha rv
      exact ⟨_, Reads.tuple ho hc hd hr, hn⟩
  | .dict kvs, _, _, h, r => by
    cases h with
    | dic hs hk =>
      cases r
      obtain ⟨_, nsy, vs, rel, o, es, ep, ho, hx, hd, _, pr, _⟩ := dk_of I.hok hs
      obtain ⟨h1, h2⟩ := dict_reads (h := s.heap) hk rel pr
      refine ⟨_, Reads.dict (as := []) (bs := []) ho hx.1 hd h1 h2, fun z => ?_⟩
      rcases List.mem_cons.mp z with z | z
      · rw [← z] at nsy; simp at nsy
      · cases z
theorem Dz.readsAll (I : Inv X pins σ H s) : ∀ (ds : List PyData) (vs : List V) (us : List Value), DzAll H vs ds → Vals vs us → ∃ as, ReadsAll s.heap us ds as ∧ sysModules ∉ as
  | [], _, _, h, r => by
    cases h
    cases r
    exact ⟨_, ReadsAll.nil, by simp⟩
  | d :: ds, _, _, h, r => by
    cases h with
    | cons h1 h2 =>
      cases r with
      | cons r1 r2 =>
        obtain ⟨as, q1, n1⟩ := Dz.reads I d _ _ h1 r1
        obtain ⟨bs, q2, n2⟩ := Dz.readsAll I ds _ _ h2 r2
        exact ⟨_, ReadsAll.cons q1 q2, fun z => by
          rcases List.mem_append.mp z with z | z
          · exact n1 z
          · exact n2 z⟩
end
end
section
variable {X : Cx} {σ : L2.St} {H : Hp} {a b : Expr} {pos p1 p2 : Pos} {Q : VK}
theorem call_reprZ (hA : X.A.guards = some []) (hu : X.A.units + 64 < cLine) : CallR X (.builtin "repr") (fun xs H Q => ∃ (p : Addr) (d : PyData), xs = [.ref p] ∧ Dz H (.ref p) d ∧ d.showable = true ∧ d.depth ≤ 60 ∧ d.shown.length ≤ sizeLine ∧ Q (.str d.shown) H) := by
  intro pins s σ H xs us Q I r h
  obtain ⟨p, d, rfl, hd, h1, h3, h4, q⟩ := h
  obtain ⟨u, rfl, rx⟩ := vals1 r
  obtain ⟨as, rd, hn⟩ := Dz.reads I d _ u hd rx
  cases rx
  exact repr_of_reads' rd h1 (fun _ => hn) hA (by omega) (fun _ _ z => z) (fun h' u tk hk => ⟨.str d.shown, H, I.kept (t' := tk) hk, ⟨u, rfl⟩, q⟩) h4
end
theorem dz_app {H : Hp} : ∀ {xs : List V} {ds : List PyData} {ys : List V} {es : List PyData}, DzAll H xs ds → DzAll H ys es → DzAll H (xs ++ ys) (ds ++ es)
  | _, _, _, _, .nil, k => k
  | _, _, _, _, .cons a b, k => .cons a (dz_app b k)
theorem dz_rep {H : Hp} {xs : List V} {ds : List PyData} (h : DzAll H xs ds) : ∀ n : Nat, DzAll H (List.replicate n xs).flatten (List.replicate n ds).flatten
  | 0 => .nil
  | n + 1 => by
    rw [List.replicate_succ, List.replicate_succ, List.flatten_cons, List.flatten_cons]
    exact dz_app h (dz_rep h n)
theorem dz_len {H : Hp} : ∀ {xs : List V} {ds : List PyData}, DzAll H xs ds → xs.length = ds.length
  | _, _, .nil => rfl
  | _, _, .cons _ b => by rw [List.length_cons, List.length_cons, dz_len b]
theorem dz_lst {H : Hp} {v : V} {ds : List PyData} (h : Dz H v (.list ds)) : ∃ a xs, v = .ref a ∧ H a = some (.lst xs) ∧ DzAll H xs ds := by
  cases h with
  | lst _ e a => exact ⟨_, _, rfl, e, a⟩
theorem hid_nil {H : Hp} {a : Addr} {o : HO} (e : H a = some o) : hid [] H a = some o := by rw [hid_of (by simp)]; exact e
mutual
/-- no dict in it -/
def noD : PyData → Bool
  | .list ds => noDs ds
  | .tuple ds => noDs ds
  | .dict _ => false
  | _ => true
def noDs : List PyData → Bool
  | [] => true
  | d :: ds => noD d && noDs ds
end
mutual
theorem Dz.dq {K : PySem.W.Frag} {H : Hp} : ∀ {d : PyData} {v : V}, Dz H v d → noD d = true → Dq K (hid [] H) v d
  | _, _, .non, _ => .non
  | _, _, .bl b, _ => .bl b
  | _, _, .int i, _ => .int i
  | _, _, .str x, _ => .str x
  | _, _, .lst _ h a, n => .lst (hid_nil h) (DzAll.dq a (by simpa [noD] using n))
  | _, _, .tup h a, n => .tup (SqT.of (hid_nil h)) (DzAll.dq a (by simpa [noD] using n))
  | _, _, .dic h _, n => by simp [noD] at n
theorem DzAll.dq {K : PySem.W.Frag} {H : Hp} : ∀ {ds : List PyData} {vs : List V}, DzAll H vs ds → noDs ds = true → DqAll K (hid [] H) vs ds
  | _, _, .nil, _ => .nil
  | _, _, .cons a b, n => by
    simp only [noDs, Bool.and_eq_true] at n
    exact .cons (Dz.dq a n.1) (DzAll.dq b n.2)
end
/-- an expression comes to this, nothing changed -/
def XZ (X : Cx) (σ : L2.St) (H : Hp) (e : Expr) (d : PyData) : Prop := ∀ H1, Same H H1 → ∀ Q : VK, (∀ v H2, Same H1 H2 → Dz H2 v d → Q v H2) → RE X e σ H1 Q
def XZA (X : Cx) (σ : L2.St) (H : Hp) (es : List Expr) (ds : List PyData) : Prop := ∀ H1, Same H H1 → ∀ Q : List V → Hp → Prop, (∀ vs H2, Same H1 H2 → DzAll H2 vs ds → Q vs H2) → RA X es σ H1 Q
section
variable {X : Cx} {σ : L2.St} {H : Hp} {a b e : Expr} {es : List Expr} {d : PyData} {ds ds2 : List PyData} {v : V} {pos p1 p2 pa pb : Pos} {j : Nat}
theorem XV.xz (h : XV X σ H e v) (hd : Dz H v d) : XZ X σ H e d := fun H1 s Q q => h H1 s _ fun H2 s2 => q v H2 s2 (Dz.up (s.trans s2) hd)
theorem XZ.xd (h : XZ X σ H e d) (n : noD d = true) : XD X [] σ H e d := fun H1 s Q q => h H1 s Q fun v H2 s2 hv => q v H2 s2 (Dz.dq hv n)
theorem xz_nil : XZA X σ H [] [] := fun H1 _ Q q => ⟨_, pa_nil, q [] H1 (Same.refl _) .nil⟩
theorem xz_cons (ha : XZ X σ H e d) (hr : XZA X σ H es ds) (hs : starEach (e :: es) X.env = (false, eval e X.env) :: starEach es X.env := by rfl) : XZA X σ H (e :: es) (d :: ds) := fun H1 s Q q =>
  ra_cons (ha H1 s _ fun v H2 s2 hv => hr H2 (s.trans s2) _ fun vs H3 s3 hvs => q _ H3 (s2.trans s3) (.cons (Dz.up s3 hv) hvs)) hs
theorem xz_lst (h : XZA X σ H es ds) (hl : ds.length ≤ 100000 := by simp) : XZ X σ H (.List es pos) (.list ds) := fun H1 s Q q =>
  ⟨_, pe_lstN ra_, h H1 s _ fun vs H2 s2 hvs => ⟨by rw [dz_len hvs]; exact small_sz hl, fun p hp hn => q _ _ (s2.trans (same_new hp)) (.lst hn upd_same (DzAll.up (same_new hp) hvs))⟩⟩
theorem xz_tup {x1} (h : XZA X σ H es ds) (hl : ds.length ≤ 100000 := by simp) : XZ X σ H (.Tuple es x1 pos) (.tuple ds) := fun H1 s Q q =>
  ⟨_, pe_tup ra_, h H1 s _ fun vs H2 s2 hvs => ⟨by rw [dz_len hvs]; exact small_sz hl, fun p hp => q _ _ (s2.trans (same_new hp)) (.tup upd_same (DzAll.up (same_new hp) hvs))⟩⟩
theorem xz_dic : XZ X σ H (.Dict [] [] pos) (.dict []) := fun H1 s Q q => ⟨_, pe_dnewK, fun p hp => q _ _ (same_new hp) (.dic (kvs := []) upd_same .nil)⟩
theorem xz_str {z : Str} : XZ X σ H (.Constant (.str z) j pos) (.str z) := XV.xz xv_str (.str z)
theorem xz_int {z : Int} : XZ X σ H (.Constant (.int z) j pos) (.int z) := XV.xz xv_int (.int z)
/-- a list, wherever it lies -/
def XW (X : Cx) (σ : L2.St) (H : Hp) (e : Expr) (ds : List PyData) : Prop := ∀ H1, Same H H1 → ∀ Q : VK, (∀ l xs H2, Same H1 H2 → H2 l = some (.lst xs) → DzAll H2 xs ds → Q (.ref l) H2) → RE X e σ H1 Q
theorem XZ.xw (h : XZ X σ H e (.list ds)) : XW X σ H e ds := fun H1 s Q q => h H1 s Q fun v H2 s2 hv => by
  obtain ⟨l, xs, rfl, h1, h2⟩ := dz_lst hv
  exact q l xs H2 s2 h1 h2
theorem XW.xd (h : XW X σ H e ds) (n : noDs ds = true) : XD X [] σ H e (.list ds) := fun H1 s Q q => h H1 s Q fun l xs H2 s2 h1 h2 => q _ H2 s2 (.lst (hid_nil h1) (DzAll.dq h2 n))
theorem xz_cat (ha : XW X σ H a ds) (hb : XW X σ H b ds2) (hl : ds.length + ds2.length ≤ 100000 := by simp) : XZ X σ H (.BinOp a .Add b pos) (.list (ds ++ ds2)) := fun H1 s Q q =>
  re_bin op_catN (ha H1 s _ fun l xs H2 s2 h1 h2 => hb H2 (s.trans s2) _ fun m ys H3 s3 h3 h4 =>
    ⟨l, m, xs, ys, rfl, rfl, s3 _ _ h1, h3, by rw [dz_len h2, dz_len h4]; exact small_sz hl, fun p hp hn => q _ _ ((s2.trans s3).trans (same_new hp)) (.lst hn upd_same (dz_app (DzAll.up (s3.trans (same_new hp)) h2) (DzAll.up (same_new hp) h4)))⟩)
theorem xz_rep {n : Nat} (ha : XW X σ H a ds) (hl : ds.length * n ≤ 100000 := by simp) (hn : n ≤ 1000 := by decide) : XW X σ H (.BinOp a .Mult (.Constant (.int (n : Int)) j p1) pos) (List.replicate n ds).flatten := fun H1 s Q q =>
  re_bin op_rep (ha H1 s _ fun l xs H2 s2 h1 h2 => XV.go xv_int fun H3 s3 => by
    refine ⟨l, n, xs, rfl, rfl, s3 _ _ h1, by omega, by omega, ?_, fun p hp => ?_⟩
    · rw [dz_len h2]; exact small_sz hl
    · exact q _ _ _ ((s2.trans s3).trans (same_new hp)) upd_same (dz_rep (DzAll.up (s3.trans (same_new hp)) h2) n))
theorem xt_reprNeZ (hA : X.A.guards = some []) (hu : X.A.units + 64 < cLine) (hm : X.mg "repr" = none) (ha : XZ X σ H a (.list ds)) (hb : XZ X σ H b (.list ds)) (h1 : (PyData.list ds).showable = true) (h3 : (PyData.list ds).depth ≤ 60) (h4 : (PyData.list ds).shown.length ≤ sizeLine) (hg : Gl X "repr" := by rfl)
    (he : starEach [a] X.env = (false, eval a X.env) :: starEach [] X.env := by rfl) (hpl : (backTo pa (starEach [] X.env)).any (·.1) = false := by rfl) (he2 : starEach [b] X.env = (false, eval b X.env) :: starEach [] X.env := by rfl) (hpl2 : (backTo pb (starEach [] X.env)).any (·.1) = false := by rfl) :
    XT X σ H (.Compare (.Call (.Name "repr" p1) [a] [] pa) [.NotEq] [.Call (.Name "repr" p2) [b] [] pb] pos) false := by
  have key : ∀ {e : Expr} {pp qq : Pos}, XZ X σ H e (.list ds) → starEach [e] X.env = (false, eval e X.env) :: starEach [] X.env → (backTo qq (starEach [] X.env)).any (·.1) = false → XD X [] σ H (.Call (.Name "repr" pp) [e] [] qq) (.str (PyData.list ds).shown) := fun {e pp qq} h z1 z2 H1 s Q q =>
    re_B (call_reprZ hA hu) (ra_1 (h H1 s _ fun v H2 s2 hv => by
      obtain ⟨p, xs, rfl, hp, hx⟩ := dz_lst hv
      exact ⟨p, _, rfl, hv, h1, h3, h4, q _ H2 s2 (.str _)⟩) z1) hm (by decide +kernel) hg (by decide) (by decide) z1 z2
  refine xt_cmp op_ne (key ha he hpl) (key hb he2 hpl2) fun H1 v w s hv hw Q q => ?_
  rw [dp_str hv, dp_str hw]
  exact ⟨rfl, by rw [decide_eq_true rfl]; exact q H1 (Same.refl _)⟩
end
section
variable {X : Cx} {σ : L2.St} {H : Hp} {e : Expr} {d : PyData} {ds : List PyData} {pos : Pos} {D : Ends} {rest : List Stmt}
theorem rb_setZ (i : Nat) {x : Str} {pos' : Pos} (h : XZ X σ H e d) (k : ∀ v H1, Same H H1 → Dz H1 v d → RB X rest D (σ.set i (some v)) H1) (hN : X.N.Nodup) (hi : X.N[i]? = some x := by rfl) (hx : Loc X.env.scope x := by first | exact Or.inl rfl | exact Or.inr rfl)
    (hs : swapsWith e (some (.Name x pos')) pos.line X.env = pure false := by rfl) (hf : X.fn x = true ∨ X.env.scope.names.lookup x = some .local := by first | exact .inl rfl | exact .inr rfl) : RB X (.Assign [.Name x pos'] e pos :: rest) D σ H :=
  rb_setR i (h H (Same.refl H) _ fun v H1 s hv => k v H1 s hv) hN hi hx hs hf
theorem dza_get {H : Hp} : ∀ {ds : List PyData} {xs : List V} {i : Nat} {x : V}, DzAll H xs ds → xs[i]? = some x → ∃ d, ds[i]? = some d ∧ Dz H x d
  | _, _, _, _, .nil, h => by simp at h
  | _, _, 0, _, .cons a b, h => by
    have e : _ = _ := Option.some.inj h
    subst e
    exact ⟨_, rfl, a⟩
  | _, _, i + 1, _, .cons a b, h => dza_get (i := i) b h
theorem rb_forZ {tg : Expr} {body : List Stmt} (hit : XZ X σ H e (.list ds))
    (h : ∀ H1, Same H H1 → ∃ Pv : Nat → L2.St → Hp → Prop, Pv 0 σ H1 ∧ (∀ k σ' H', Pv k σ' H' → Same H1 H') ∧
      (∀ k d, ds[k]? = some d → ∀ σ' H' v, Pv k σ' H' → Dz H' v d → RG X tg v σ' H' fun σ2 H2 => RB X body { D with nx := Pv (k + 1), ct := Pv (k + 1), bk := RB X rest D } σ2 H2) ∧ ∀ σ' H', Pv ds.length σ' H' → RB X rest D σ' H')
    (hp : PassesOwn (model X.prog X.w) X.A X.env X.xe := by exact PassesOwn.never) (hc : X.calm = true := by rfl) (hs : ∀ x, foldedSetIterable e X.env x = pure x := by intro _; rfl) : RB X (.For tg e body [] pos :: rest) D σ H :=
  ⟨_, pss_cons (ps_for hp hc (pi_list re_) rg_ rb_ hs) rb_, hit H (Same.refl H) _ fun v H1 s1 hv => by
    obtain ⟨a, xs, rfl, ha, hx⟩ := dz_lst hv
    obtain ⟨Pv, h0, hk, hst, hd⟩ := h H1 s1
    refine ⟨a, rfl, ⟨xs, SqL.of ha⟩, for_list (xs := xs) Pv h0 (fun i σ' H' _ p => SqL.of (hk i σ' H' p _ _ ha)) (fun i x σ' H' hi p => ?_) (by rw [dz_len hx]; exact hd)⟩
    obtain ⟨d, h1, h2⟩ := dza_get hx hi
    exact hst i d h1 σ' H' x p (Dz.up (hk i σ' H' p) h2)⟩
end
section
variable {X : Cx} {σ : L2.St} {H : Hp} {pos : Pos} {j : Nat}
theorem xz_non : XZ X σ H (.Constant .none j pos) .none := fun H1 _ Q q => ⟨_, pe_non, q _ H1 (Same.refl _) .non⟩
theorem xz_bl {b : Bool} : XZ X σ H (.Constant (.bool b) j pos) (.bool b) := fun H1 _ Q q => ⟨_, pe_bl, q _ H1 (Same.refl _) (.bl b)⟩
end
end Zn

set_option Elab.async false
set_option linter.all false
set_option maxRecDepth 100000
set_option maxHeartbeats 8000000
namespace Dl
open PySem PySem.Spec PyProof.Rows L2
end Dl
namespace Zn
open PySem PySem.Spec PyProof.Rows L2 Dl
/-! k16: the law's own caught -/
abbrev sCaught : Stmt := top 34
abbrev nCaught : List Str := ["_law_way", "_law_things", "_law_one", "_law_two", "_law_three", "e"]
theorem scCaught : FnScope nCaught ["_law_way", "_law_things"] (defScope sCaught) := ⟨rfl, rfl, rfl, by decide +kernel, rfl, by decide +kernel, by decide +kernel⟩
/-- a new list [k, w] is what comes -/
def Fin2 (Q : VK) (H : Hp) (k : Str) (w : V) : Prop := ∀ p H2, Same H H2 → H p = none → p ≠ sysModules → H2 p = some (.lst [.str k, w]) → Q (.ref p) H2
theorem Fin2.up {Q : VK} {H H1 : Hp} {k : Str} {w : V} (h : Fin2 Q H k w) (s : Same H H1) : Fin2 Q H1 k w := fun p H2 s2 hp hn e => h p H2 (s.trans s2) (s.free hp) hn e
section
variable {X : Cx} {M : List Addr} {σ : L2.St} {H : Hp} {e a b c : Expr} {rest : List Stmt} {D : Ends} {p1 p2 p3 pos : Pos} {j : Nat}
theorem rb_retKV {k : Str} (h : RE X e σ H fun v H1 => Fin2 D.rt H1 k v) (he : starEach [e] X.env = (false, eval e X.env) :: starEach [] X.env := by rfl) : RB X (.Return (some (.List [.Constant (.str k) j p1, e] p2)) p3 :: rest) D σ H :=
  rb_retR ⟨_, pe_lstN ra_, ra_cons ⟨_, pe_str, ra_1 (re_mono h fun v H2 q => ⟨by show 2 ≤ _; decide, fun p hp hn => q p _ (same_new hp) hp hn upd_same⟩) he⟩⟩
theorem re_ifT {k : Expr} {Q : VK} (hc : XT X σ H k true) (ha : ∀ H1, Same H H1 → RE X a σ H1 Q) : RE X (.IfExp k a b pos) σ H Q := ⟨_, pe_ifExp rt_ re_ re_, hc H (Same.refl _) _ fun H2 s2 => iteT (ha H2 s2)⟩
theorem re_ifF {k : Expr} {Q : VK} (hc : XT X σ H k false) (hb : ∀ H1, Same H H1 → RE X b σ H1 Q) : RE X (.IfExp k a b pos) σ H Q := ⟨_, pe_ifExp rt_ re_ re_, hc H (Same.refl _) _ fun H2 s2 => iteF (hb H2 s2)⟩
end
/-- a def of the module with its promise -/
structure Hs (P : Program) (w : World) (K : PySem.W.Frag) (mg : Str → Option Value) (base : Heap) (cx : List Env → Hp → Shared → XK → Value → Shared → Prop) (k : Nat) (x : Str) (ps : List Str) (sp : Sp) (f : Addr) (fd : FuncData) : Prop where
  G : FnOk P w K mg base cx k f fd ps sp
  g : mg x = some (.ref f)
  kp : PySem.W.keepIn K (.ref f) = true
  b : Binds K fd ps []
section
variable {P : Program} {w : World} {K : PySem.W.Frag} {mg : Str → Option Value} {base : Heap} {CP CB CV CN CQ : Addr}
/-- what caught is asked for -/
inductive Cau (K : PySem.W.Frag) (Q : VK) (H : Hp) (CP CB : Addr) : Int → V → V → V → Prop
  | part {way : Int} {one two three u : V} (h : BadBs K H CP CB one CP u) (q : Fin2 Q H "part" u) : Cau K Q H CP CB way one two three
  | bound {way : Int} {one two three u : V} (h : BadBs K H CP CB one CB u) (q : Fin2 Q H "bound" u) : Cau K Q H CP CB way one two three
  | vals {one two three : V} (h : BadVs K H one two) (q : Fin2 Q H "values" two) : Cau K Q H CP CB 1 one two three
  | name {v x y : V} (M : List Addr) (k k2 : Bool) (bs : List Bd) (dx dy : PyData) (hM : Live M H) (hv : Dq K (hid M H) v (encBs k k2 bs)) (ok : OkB bs) (hx : Dq K (hid M H) x dx) (hy : Dq K (hid M H) y dy) (zx : shortD dx = true) (zy : shortD dy = true)
      (q1 : nameD dx = false → Fin2 Q H "name" x) (q2 : nameD dx = true → nameD dy = false → Fin2 Q H "name" y)
      (q3 : nameD dx = true → nameD dy = true → (¬ ∃ g, Bf.Holds bs g) ∧ ∀ c ring r H1, Same H H1 → H r = none → H1 r = some (.lst (ring.map V.int)) → IsRing bs c ring → ring.length ≤ (namesOf bs).length → Fin2 Q H1 "not" (.ref r)) : Cau K Q H CP CB 3 v x y
def spCaught (K : PySem.W.Frag) (CP CB : Addr) : Sp := fun vs H Q _ => ∃ (way : Int) (L : Addr) (one two three : V), vs = [.int way, .ref L] ∧ 0 ≤ way ∧ way ≤ 3 ∧ H L = some (.lst [one, two, three]) ∧ Cau K Q H CP CB way one two three
theorem ok_caught {fS fH fSh fT f iP iB iV iN iQ : Addr} {gS gH gSh gT fd jP jB jV jN jQ : FuncData} (hS : Hs P w K mg base (L2.CX P w) 4 "settle" ["bounds"] (spBadB K CP CB) fS gS) (hH : Hs P w K mg base (L2.CX P w) 4 "holds" ["bounds", "values"] (spHoldsX K CP CB CV) fH gH)
    (hSh : Hs P w K mg base (L2.CX P w) 4 "shows_ring" ["bounds", "ring"] (spShowsX K CP CB) fSh gSh) (hT : Hs P w K mg base (L2.CX P w) 5 "tightest" ["bounds", "x", "y"] (spTightX K CP CB CN CQ) fT gT)
    (YP : XCls P w K mg base "InvalidPart" "value" CP iP jP) (YB : XCls P w K mg base "InvalidBound" "value" CB iB jB) (YV : XCls P w K mg base "InvalidValues" "value" CV iV jV) (YN : XCls P w K mg base "InvalidName" "value" CN iN jN) (YQ : XClsG P w K mg base SLx.leTl "LookupError.__new__" "LookupError.__init__" "LookupError" "NotPossible" "value" CQ iQ jQ)
    (eBP : PySem.W.exmOne K (.ref CB) (.ref CP) = some false) (eVP : PySem.W.exmOne K (.ref CV) (.ref CP) = some false) (eVB : PySem.W.exmOne K (.ref CV) (.ref CB) = some false)
    (eNP : PySem.W.exmOne K (.ref CN) (.ref CP) = some false) (eNB : PySem.W.exmOne K (.ref CN) (.ref CB) = some false) (eNV : PySem.W.exmOne K (.ref CN) (.ref CV) = some false)
    (eQP : PySem.W.exmOne K (.ref CQ) (.ref CP) = some false) (eQB : PySem.W.exmOne K (.ref CQ) (.ref CB) = some false) (eQV : PySem.W.exmOne K (.ref CQ) (.ref CV) = some false) (eQN : PySem.W.exmOne K (.ref CQ) (.ref CN) = some false)
    (F : Df K mg "_law_caught" sCaught ["_law_way", "_law_things"] f fd) : FnOk P w K mg base CX0 6 f fd ["_law_way", "_law_things"] (spCaught K CP CB) := by
  refine F.F.ok scCaught (fun vs H Q E h => ?_) (fun cdv A outer s H vs Q E hr h => ?_)
  · obtain ⟨way, L, one, two, three, rfl, _⟩ := h; rfl
  · obtain ⟨way, L, one, two, three, rfl, w0, w1, hL, q⟩ := h
    have hr4 := hr.mono (show 4 ≤ 5 by decide)
    show RB (cxOf CX0 P w K mg base nCaught "_law_caught" (defScope sCaught) f cdv A outer s H E).nox (defBody sCaught) _ [some (.int way), some (.ref L), none, none, none, none] H
    refine rb_asgR (XV.go (xv_name 1 rfl) fun H0 s0 => ⟨_, pg_unl (n := 3) rfl rgs_ rfl rfl, L, [one, two, three], rfl, SqL.of (s0 _ _ hL), rfl, rgs_cons (rg_name 2 (rgs_cons (rg_name 3 (rgs_cons (rg_name 4 (rgs_nil ?_) scCaught.nd)) scCaught.nd)) scCaught.nd)⟩)
    have tk0 : Takes (cxOf CX0 P w K mg base nCaught "_law_caught" (defScope sCaught) f cdv A outer s H E).nox (fun _ _ _ _ => False) := fun u s' ⟨_, _, _, _, _, _, _, _, _, _, _, _, _, _, _, _, w⟩ => w.elim
    refine rb_tryAs (Wout := fun _ _ _ _ => False) 5 scCaught.nd tk0 (Cls.cons (c := .ref CP) ⟨rfl, rfl, .inl YP.mgC⟩ (Cls.cons (c := .ref CB) ⟨rfl, rfl, .inl YB.mgC⟩ (Cls.cons (c := .ref CV) ⟨rfl, rfl, .inl YV.mgC⟩ (Cls.cons (c := .ref CN) ⟨rfl, rfl, .inl YN.mgC⟩ (Cls.cons (c := .ref CQ) ⟨rfl, rfl, .inl YQ.mgC⟩ Cls.nil))))) fun pn xe tk po => ?_
    generalize hW : wManyAs _ _ _ _ _ = W at tk
    have hP : ∀ {v1 : V} {Hx : Hp}, Fin2 Q Hx "part" v1 → Out (fun cls d H2 => W cls d [some (.int way), some (.ref L), some one, some two, some three, none] H2) CP v1 Hx := by
      intro v1 Hx fin d H1 s1 e
      rw [← hW]
      exact ⟨true, YP.te, fun _ a ha ob pn z hf => rb_retKV (XV.go (xv_xf YP.xf YP.no z hf rfl (xv_name 5 rfl) e rfl) fun H2 s2 => fin.up (s1.trans s2)), fun z => absurd z (by decide)⟩
    have hB : ∀ {v1 : V} {Hx : Hp}, Fin2 Q Hx "bound" v1 → Out (fun cls d H2 => W cls d [some (.int way), some (.ref L), some one, some two, some three, none] H2) CB v1 Hx := by
      intro v1 Hx fin d H1 s1 e
      rw [← hW]
      exact ⟨false, eBP, fun z => absurd z (by decide), fun _ => ⟨true, YB.te, fun _ a ha ob pn z hf => rb_retKV (XV.go (xv_xf YB.xf YB.no z hf rfl (xv_name 5 rfl) e rfl) fun H2 s2 => fin.up (s1.trans s2)), fun z => absurd z (by decide)⟩⟩
    have hV : ∀ {v1 : V} {Hx : Hp}, Fin2 Q Hx "values" v1 → Out (fun cls d H2 => W cls d [some (.int way), some (.ref L), some one, some two, some three, none] H2) CV v1 Hx := by
      intro v1 Hx fin d H1 s1 e
      rw [← hW]
      exact ⟨false, eVP, fun z => absurd z (by decide), fun _ => ⟨false, eVB, fun z => absurd z (by decide), fun _ => ⟨true, YV.te, fun _ a ha ob pn z hf => rb_retKV (XV.go (xv_xf YV.xf YV.no z hf rfl (xv_name 5 rfl) e rfl) fun H2 s2 => fin.up (s1.trans s2)), fun z => absurd z (by decide)⟩⟩⟩
    have hN : ∀ {v1 : V} {Hx : Hp}, Fin2 Q Hx "name" v1 → Out (fun cls d H2 => W cls d [some (.int way), some (.ref L), some one, some two, some three, none] H2) CN v1 Hx := by
      intro v1 Hx fin d H1 s1 e
      rw [← hW]
      exact ⟨false, eNP, fun z => absurd z (by decide), fun _ => ⟨false, eNB, fun z => absurd z (by decide), fun _ => ⟨false, eNV, fun z => absurd z (by decide), fun _ => ⟨true, YN.te, fun _ a ha ob pn z hf => rb_retKV (XV.go (xv_xf YN.xf YN.no z hf rfl (xv_name 5 rfl) e rfl) fun H2 s2 => fin.up (s1.trans s2)), fun z => absurd z (by decide)⟩⟩⟩⟩
    have hQ : ∀ {v1 : V} {Hx : Hp}, Fin2 Q Hx "not" v1 → Out (fun cls d H2 => W cls d [some (.int way), some (.ref L), some one, some two, some three, none] H2) CQ v1 Hx := by
      intro v1 Hx fin d H1 s1 e
      rw [← hW]
      exact ⟨false, eQP, fun z => absurd z (by decide), fun _ => ⟨false, eQB, fun z => absurd z (by decide), fun _ => ⟨false, eQV, fun z => absurd z (by decide), fun _ => ⟨false, eQN, fun z => absurd z (by decide), fun _ => ⟨true, YQ.te, fun _ a ha ob pn z hf => rb_retKV (XV.go (xv_xf YQ.xf YQ.no z hf rfl (xv_name 5 rfl) e rfl) fun H2 s2 => fin.up (s1.trans s2)), fun z => absurd z (by decide)⟩⟩⟩⟩⟩
    -- bounds that are refused
    have bad : ∀ {Hx : Hp}, Same H Hx → (∃ C u, BadBs K H CP CB one C u ∧ ((C = CP ∧ Fin2 Q H "part" u) ∨ (C = CB ∧ Fin2 Q H "bound" u))) → ∃ C u, BadBs K Hx CP CB one C u ∧ Out (fun cls d H2 => W cls d [some (.int way), some (.ref L), some one, some two, some three, none] H2) C u Hx := by
      rintro Hx sx ⟨C, u, hb, ⟨rfl, fin⟩ | ⟨rfl, fin⟩⟩
      · exact ⟨_, u, hb.up sx, hP (fin.up sx)⟩
      · exact ⟨_, u, hb.up sx, hB (fin.up sx)⟩
    have cw : way = 0 ∨ way = 1 ∨ way = 2 ∨ way = 3 := by omega
    rcases cw with rfl | rfl | rfl | rfl
    · have q := show (∃ C u, BadBs K H CP CB one C u ∧ ((C = CP ∧ Fin2 Q H "part" u) ∨ (C = CB ∧ Fin2 Q H "bound" u))) by
        cases q with
        | part h q => exact ⟨_, _, h, .inl ⟨rfl, q⟩⟩
        | bound h q => exact ⟨_, _, h, .inr ⟨rfl, q⟩⟩
      refine rb_ifT ((xt_eqI (M := []) (m := 0) (n := 0) (xd_name 0 rfl (.int _)) xd_int).to rfl) fun H1 s1 => ?_
      refine rb_retKV ⟨_, pe_ix ix_tup re_ re_ (fun _ _ => rfl), re_callX hS.G hr4 tk hS.g hS.kp hS.b (ra_1 (XV.go (xv_name 2 rfl) fun H2 s2 => ?_))⟩
      obtain ⟨C, u, hb, ho⟩ := bad ((s0.trans s1).trans s2) q
      exact ⟨one, C, u, rfl, hb, ho⟩
    · refine rb_ifF ((xt_eqI (M := []) (m := 1) (n := 0) (xd_name 0 rfl (.int _)) xd_int).to rfl) fun H1 s1 => ?_
      refine rb_ifT ((xt_eqI (M := []) (m := 1) (n := 1) (xd_name 0 rfl (.int _)) xd_int).to rfl) fun H2 s2 => ?_
      have s12 := (s0.trans s1).trans s2
      refine rb_retKV (re_callX hH.G hr4 tk hH.g hH.kp hH.b (ra_cons (XV.go (xv_name 2 rfl) fun H3 s3 => ra_1 (XV.go (xv_name 3 rfl) fun H4 s4 => ⟨one, two, rfl, ?_⟩))))
      have sx := (s12.trans s3).trans s4
      cases q with
      | part h q => exact .inl (bad sx ⟨_, _, h, .inl ⟨rfl, q⟩⟩)
      | bound h q => exact .inl (bad sx ⟨_, _, h, .inr ⟨rfl, q⟩⟩)
      | vals h q => exact .inr ⟨h.up sx, hV (q.up sx)⟩
    · have q := show (∃ C u, BadBs K H CP CB one C u ∧ ((C = CP ∧ Fin2 Q H "part" u) ∨ (C = CB ∧ Fin2 Q H "bound" u))) by
        cases q with
        | part h q => exact ⟨_, _, h, .inl ⟨rfl, q⟩⟩
        | bound h q => exact ⟨_, _, h, .inr ⟨rfl, q⟩⟩
      refine rb_ifF ((xt_eqI (M := []) (m := 2) (n := 0) (xd_name 0 rfl (.int _)) xd_int).to rfl) fun H1 s1 => ?_
      refine rb_ifF ((xt_eqI (M := []) (m := 2) (n := 1) (xd_name 0 rfl (.int _)) xd_int).to rfl) fun H2 s2 => ?_
      have s12 := (s0.trans s1).trans s2
      refine rb_retKV (re_ifT ((xt_eqI (M := []) (m := 2) (n := 2) (xd_name 0 rfl (.int _)) xd_int).to rfl) fun H3 s3 => re_callX hSh.G hr4 tk hSh.g hSh.kp hSh.b (ra_cons (XV.go (xv_name 2 rfl) fun H4 s4 => ra_1 (XV.go (xv_name 3 rfl) fun H5 s5 => ?_))))
      obtain ⟨C, u, hb, ho⟩ := bad (((s12.trans s3).trans s4).trans s5) q
      exact ⟨one, two, C, u, rfl, hb, ho⟩
    · refine rb_ifF ((xt_eqI (M := []) (m := 3) (n := 0) (xd_name 0 rfl (.int _)) xd_int).to rfl) fun H1 s1 => ?_
      refine rb_ifF ((xt_eqI (M := []) (m := 3) (n := 1) (xd_name 0 rfl (.int _)) xd_int).to rfl) fun H2 s2 => ?_
      have s12 := (s0.trans s1).trans s2
      refine rb_retKV (re_ifF ((xt_eqI (M := []) (m := 3) (n := 2) (xd_name 0 rfl (.int _)) xd_int).to rfl) fun H3 s3 => re_callX hT.G hr tk hT.g hT.kp hT.b (ra_cons (XV.go (xv_name 2 rfl) fun H4 s4 => ra_cons (XV.go (xv_name 3 rfl) fun H5 s5 => ra_1 (XV.go (xv_name 4 rfl) fun H6 s6 => ⟨one, two, three, rfl, ?_⟩)))))
      have sx := (((s12.trans s3).trans s4).trans s5).trans s6
      cases q with
      | part h q => exact .inl (bad sx ⟨_, _, h, .inl ⟨rfl, q⟩⟩)
      | bound h q => exact .inl (bad sx ⟨_, _, h, .inr ⟨rfl, q⟩⟩)
      | name M k k2 bs dx dy hM hv ok hx hy zx zy q1 q2 q3 =>
        exact .inr ⟨M, k, k2, bs, dx, dy, hM.mono sx, hv.up (hid_mono sx), ok, hx.up (hid_mono sx), hy.up (hid_mono sx), zx, zy, fun c => hN ((q1 c).up sx), fun c1 c2 => hN ((q2 c1 c2).up sx), fun c1 c2 => ⟨(q3 c1 c2).1, fun c ring r H7 s7 hr0 h7 hR hz => hQ ((q3 c1 c2).2 c ring r H7 (sx.trans s7) (sx.free hr0) h7 hR hz)⟩⟩
end
end Zn

set_option Elab.async false
set_option linter.all false
set_option maxRecDepth 100000
set_option maxHeartbeats 8000000
namespace Zn
open PySem PySem.Spec PyProof.Rows L2 Dl
/-! k16: lists with {} wherever they lie: repr, comprehensions; dicts of one and two entries -/
theorem dz_list_top {X : Cx} {pins : List (Addr × Obj)} {σ : L2.St} {H : Hp} {s : Shared} {l : Addr} {xs : List V} {ds : List PyData} (I : Inv X pins σ H s) (hl : H l = some (.lst xs)) (hx : DzAll H xs ds) :
    ∃ o vs n as, s.heap.get? l = some o ∧ o.cls = .type "list" ∧ o.data = .seq vs n ∧ ReadsAll s.heap vs.toList ds as ∧ sysModules ∉ as := by
  obtain ⟨its, rv, ⟨o, n, ho, hc, _, hd⟩, _⟩ := I.list (SqL.of (K := X.K) hl)
  obtain ⟨as, hr, hn⟩ := Dz.readsAll I ds xs its hx rv
  exact ⟨o, _, n, as, ho, hc, hd, hr, hn⟩
theorem repr_top {P : Program} {w : World} {A : Around} {E : Value → Shared → Prop} {s : Shared} {Q : Value → Shared → Prop} {l : Addr} {o : Obj} {vs : Array Value} {n : Nat} {ds : List PyData} {as : List Addr} (ho : s.heap.get? l = some o) (hc : o.cls = .type "list") (hd : o.data = .seq vs n) (hr : ReadsAll s.heap vs.toList ds as) (hn : sysModules ∉ as)
    (h1 : (PyData.list ds).showable = true) (hg : A.guards = some []) (hu : A.units + ((PyData.list ds).depth + 1) < cLine) (hz : (PyData.list ds).shown.length ≤ sizeLine)
    (q : ∀ h' u tk, (∀ b o, s.heap.get? b = some o → h'.get? b = some o) → Q (.str (PyData.list ds).shown u) { s with heap := h', toks := tk }) : wpAny (model P w) A (call (.builtin "repr") [.ref l]) Q E s := by
  have hz2 : (listText (PyData.shownAll ds)).length ≤ sizeLine := by
    simpa only [PyData.shown] using hz
  obtain ⟨bs, hb, hk⟩ := ReprAllK.of_readsAll (prog := P) (w := w) hr (by simpa [PyData.showable] using h1)
    (fun _ => hn) (fun t ht => Nat.le_trans (listText_mem_le ht) hz2)
  have hna : l ∉ bs := not_mem_of_deeper (Reads.list ho hc hd hr)
    (by simp only [PyData.depth]; omega) hb
  simp only [PyData.depth] at hu
  simp only [PyData.shown] at q
  refine call_repr_slot (by omega) ⟨o, ho, hc⟩ F.slot_list_repr.toG ?_
  obtain ⟨vl⟩ := vs
  cases vl with
  | nil =>
    have hr' : ReadsAll s.heap [] ds as := hr
    cases hr'
    simp only [PyData.shownAll, listText_nil] at q
    exact call_list_repr_empty ⟨o, ho, hc⟩ ho hd ⟨_, _, rfl, q s.heap _ _
      fun _ _ e => e⟩
  | cons x vl =>
    exact call_list_reprK ho hc hd hna (by simpa using hk.length_eq)
      (fun i y e => hk.item i y (by simpa using e)) hg (fun b _ => Clear.nil b)
      (by show A.units + 1 + _ < cLine; omega) (fun b o e => e) (fun h' u tk hk => ⟨_, _, rfl, q h' u tk hk⟩) hz2
section
variable {X : Cx} {σ : L2.St} {H : Hp} {a b e : Expr} {es : List Expr} {d : PyData} {ds ds2 : List PyData} {v : V} {pos p1 p2 pa pb : Pos} {j : Nat} {D : Ends} {rest : List Stmt}
theorem call_reprW (hA : X.A.guards = some []) (hu : X.A.units + 64 < cLine) : CallR X (.builtin "repr") (fun xs H Q => ∃ (p : Addr) (vs : List V) (ds : List PyData), xs = [.ref p] ∧ H p = some (.lst vs) ∧ DzAll H vs ds ∧ (PyData.list ds).showable = true ∧ (PyData.list ds).depth ≤ 60 ∧ (PyData.list ds).shown.length ≤ sizeLine ∧ Q (.str (PyData.list ds).shown) H) := by
  intro pins s σ H xs us Q I r h
  obtain ⟨p, vs, ds, rfl, hp, hd, h1, h3, h4, q⟩ := h
  obtain ⟨u, rfl, rx⟩ := vals1 r
  cases rx
  obtain ⟨o, as0, n, as, ho, hc, hdat, hr, hn⟩ := dz_list_top I hp hd
  exact repr_top ho hc hdat hr hn h1 hA (by omega) h4 fun h' u tk hk => ⟨.str _, H, I.kept (t' := tk) hk, ⟨u, rfl⟩, q⟩
theorem xt_reprNeW (hA : X.A.guards = some []) (hu : X.A.units + 64 < cLine) (hm : X.mg "repr" = none) (ha : XW X σ H a ds) (hb : XW X σ H b ds) (h1 : (PyData.list ds).showable = true) (h3 : (PyData.list ds).depth ≤ 60) (h4 : (PyData.list ds).shown.length ≤ sizeLine) (hg : Gl X "repr" := by rfl)
    (he : starEach [a] X.env = (false, eval a X.env) :: starEach [] X.env := by rfl) (hpl : (backTo pa (starEach [] X.env)).any (·.1) = false := by rfl) (he2 : starEach [b] X.env = (false, eval b X.env) :: starEach [] X.env := by rfl) (hpl2 : (backTo pb (starEach [] X.env)).any (·.1) = false := by rfl) :
    XT X σ H (.Compare (.Call (.Name "repr" p1) [a] [] pa) [.NotEq] [.Call (.Name "repr" p2) [b] [] pb] pos) false := by
  have key : ∀ {e : Expr} {pp qq : Pos}, XW X σ H e ds → starEach [e] X.env = (false, eval e X.env) :: starEach [] X.env → (backTo qq (starEach [] X.env)).any (·.1) = false → XD X [] σ H (.Call (.Name "repr" pp) [e] [] qq) (.str (PyData.list ds).shown) := fun {e pp qq} h z1 z2 H1 s Q q =>
    re_B (call_reprW hA hu) (ra_1 (h H1 s _ fun l xs H2 s2 hl hx => ⟨l, xs, ds, rfl, hl, hx, h1, h3, h4, q _ H2 s2 (.str _)⟩) z1) hm (by decide +kernel) hg (by decide) (by decide) z1 z2
  refine xt_cmp op_ne (key ha he hpl) (key hb he2 hpl2) fun H1 v w s hv hw Q q => ?_
  rw [dp_str hv, dp_str hw]
  exact ⟨rfl, by rw [decide_eq_true rfl]; exact q H1 (Same.refl _)⟩
/-- a list at an address that is known -/
theorem XV.xw {l : Addr} {xs : List V} (h : XV X σ H e (.ref l)) (hl : H l = some (.lst xs)) (hx : DzAll H xs ds) : XW X σ H e ds := fun H1 s Q q => h H1 s _ fun H2 s2 => q l xs H2 s2 ((s.trans s2) _ _ hl) (DzAll.up (s.trans s2) hx)
theorem same_dict {p : Addr} {kvs : List (Key × V)} (hp : H p = none) : Same H (upd (upd H p (.dK [])) p (.dK kvs)) := fun b o e => by
  have nb : b ≠ p := fun z => by rw [z, hp] at e; cases e
  rw [upd_ne nb, upd_ne nb]; exact e
theorem xz_dic1 {x : Str} {v1 : V} {d1 : PyData} (h1 : PE X a (tC v1)) (k1 : Dsc v1 d1) : XZ X σ H (.Dict [some (.Constant (.str x) j p1)] [a] pos) (.dict [(.str x, d1)]) := fun H1 s Q q =>
  ⟨_, pe_disp (pps_cons pe_str h1 pps_nil) rfl rfl (by simp) (by simp), fun p hp => ⟨upd_same, [(.inr x, v1)], rfl, by show 1 ≤ 15; decide,
    q _ _ (same_dict hp) (.dic (kvs := [(x, v1)]) upd_same (.cons ⟨rfl, k1⟩ .nil))⟩⟩
theorem merge2 {x y : Str} {v1 v2 : V} (ne : x ≠ y) : mergeK [] [(.inr x, v1), (.inr y, v2)] = kmap [(x, v1), (y, v2)] := by
  have e : ((Sum.inr x : Key) = Sum.inr y) = False := eq_false fun z => ne (Sum.inr.inj z)
  simp [mergeK, putK, kmap, e]
theorem xz_dic2 {x y : Str} {v1 v2 : V} {d1 d2 : PyData} {j2 : Nat} (ne : x ≠ y) (h1 : PE X a (tC v1)) (h2 : PE X b (tC v2)) (k1 : Dsc v1 d1) (k2 : Dsc v2 d2) : XZ X σ H (.Dict [some (.Constant (.str x) j p1), some (.Constant (.str y) j2 p2)] [a, b] pos) (.dict [(.str x, d1), (.str y, d2)]) := fun H1 s Q q =>
  ⟨_, pe_disp (pps_cons pe_str h1 (pps_cons pe_str h2 pps_nil)) rfl rfl (by simp) (by simp), fun p hp => ⟨upd_same, [(.inr x, v1), (.inr y, v2)], rfl, by show 2 ≤ 15; decide,
    q _ _ (same_dict hp) (.dic (kvs := [(x, v1), (y, v2)]) (by rw [← merge2 ne]; exact upd_same) (.cons ⟨rfl, k1⟩ (.cons ⟨rfl, k2⟩ .nil)))⟩⟩
end
theorem hid_new1 {H H1 : Hp} {p : Addr} (s : Same H H1) (hp : H p = none) : Same H (hid [p] H1) := fun b o e => by
  have nb : b ∉ [p] := fun z => by
    rw [List.mem_singleton] at z
    rw [z, hp] at e
    cases e
  rw [hid_of nb]
  exact s b o e
section
variable {X : Cx} {σ : L2.St} {H : Hp} {e a elt tg : Expr} {p1 p2 pos : Pos} {scope : Scope} {own : List (Str × Nat)} {D : Ends} {rest : List Stmt} {x : Str}
theorem lc_rngZ (n : Nat) (hn : n ≤ 1000) (g : Nat → PyData) (ha : XD X [] σ H a (.int (n : Int)))
    (hst : ∀ p (i : Nat) H1, i < n → H p = none → Same H H1 → H1 p ≠ none → BG X scope tg (.int (i : Int)) (wipe σ (own.map (·.2))) H1 fun τ H2 => wipe τ (own.map (·.2)) = wipe σ (own.map (·.2)) ∧ Same H1 H2 ∧ BE X scope elt τ H2 fun y H3 => Same H2 H3 ∧ Dz (hid [p] H3) y (g i))
    {Q : VK} (q : ∀ p xs H2, Same H H2 → H p = none → H2 p = some (.lst xs) → DzAll H2 xs ((List.range n).map g) → Q (.ref p) H2) (he : starEach [a] X.env = (false, eval a X.env) :: starEach [] X.env := by rfl) :
    tLc (iRng1 (RA X [a])) (BG X scope tg) (BT X scope []) (BE X scope elt) (own.map (·.2)) σ H Q :=
  ra_1 (ha H (Same.refl H) _ fun v H2 s2 hv => by
    refine ⟨(n : Int), by rw [dp_int hv], by omega, by omega, fun p hp => ?_⟩
    have hp0 : H p = none := s2.free hp
    refine lc_range (lo := 0) (n := (n : Int).toNat) (fun i H' => Same H2 H' ∧ ∃ acc, H' p = some (.lst acc) ∧ DzAll (hid [p] H') acc ((List.range i).map g)) ⟨same_new hp, [], upd_same, .nil⟩ (fun i H' hi z => ?_) (fun H' z => ?_)
    · obtain ⟨sH, acc, hacc, ea⟩ := z
      have hi' : i < n := by omega
      have e0 : (0 : Int) + (i : Int) = (i : Int) := Int.zero_add _
      rw [e0]
      refine bg_mono (hst p i H' hi' hp0 (s2.trans sH) (by rw [hacc]; simp)) fun τ Ha ⟨hw, sa, hbe⟩ => ⟨hw, bt_nil (iteT (be_mono hbe fun y Hb ⟨sb, ey⟩ => ?_))⟩
      have sd := sa.trans sb
      refine ⟨acc, sd _ _ hacc, ?_, fun b o e => ?_, acc ++ [y], upd_same, ?_⟩
      · have h4 : 100000 < sizeLine := by decide
        rw [dz_len ea, List.length_map, List.length_range]
        omega
      · rw [upd_ne (ne_of_none e hp)]
        exact sd _ _ (sH _ _ e)
      · rw [hid_upd_ne, List.range_succ, List.map_append]
        exact dz_app (DzAll.up (hid_mono sd) ea) (.cons ey .nil)
    · obtain ⟨sH, acc, hacc, ea⟩ := z
      rw [Int.toNat_natCast] at ea
      exact q p acc H' (s2.trans sH) hp0 hacc (DzAll.up hid_le ea)) he
/-- x = [.. for tg in range(a)], on one line -/
theorem rb_setRZ (i : Nat) {py spos : Pos} (n : Nat) (hn : n ≤ 1000) (g : Nat → PyData) (hm : X.mg "range" = none) (hN : X.N.Nodup) (ha : XD X [] σ H a (.int (n : Int))) (ok : BlkOk X.N X.env.scope scope own)
    (hst : ∀ p (i : Nat) H1, i < n → H p = none → Same H H1 → H1 p ≠ none → BG X scope tg (.int (i : Int)) (wipe σ (own.map (·.2))) H1 fun τ H2 => wipe τ (own.map (·.2)) = wipe σ (own.map (·.2)) ∧ Same H1 H2 ∧ BE X scope elt τ H2 fun y H3 => Same H2 H3 ∧ Dz (hid [p] H3) y (g i))
    (q : ∀ p xs H2, Same H H2 → H p = none → H2 p = some (.lst xs) → DzAll H2 xs ((List.range n).map g) → RB X rest D (σ.set i (some (.ref p))) H2)
    (hi : X.N[i]? = some x := by rfl) (hx : X.env.scope.names.lookup x = some .local := by rfl) (hsw : swapsWith (.ListComp elt [⟨tg, .Call (.Name "range" p1) [a] [] p2, [], 0⟩] scope pos) (some (.Name x py)) spos.line X.env = pure true := by exact sw_true rfl rfl rfl rfl)
    (hc : X.calm = true := by rfl) (hg : Gl X "range" := by rfl) (he : starEach [a] X.env = (false, eval a X.env) :: starEach [] X.env := by rfl) (he1 : starEach [a] X.env = [(false, eval a X.env)] := by rfl) (hs : ∀ x, foldedSetIterable (.Call (.Name "range" p1) [a] [] p2) X.env x = pure x := by intro _; rfl) :
    RB X (.Assign [.Name x py] (.ListComp elt [⟨tg, .Call (.Name "range" p1) [a] [] p2, [], 0⟩] scope pos) spos :: rest) D σ H :=
  ⟨_, pss_cons (ps_setLc (own := own) hc hN hi hx hsw (pi_range1 hg hm ra_ he1) ok (fun _ _ _ _ _ => bg_) (fun _ _ _ _ _ => bt_) (fun _ _ _ _ _ => be_) hs) rb_,
    lc_rngZ (own := own) (Q := fun v H1 => RB X rest D (σ.set i (some v)) H1) n hn g ha hst q he⟩
end
theorem th_dz {K : PySem.W.Frag} {H : Hp} {v : V} {d : PyData} (h : Dz H v d) : Th K H v (tyN d) := by
  cases h with
  | non => exact th_dq (M := []) .non
  | bl b => exact th_dq (M := []) (.bl b)
  | int i => exact th_int
  | str x => exact th_str
  | lst n e _ => exact th_lst e
  | tup e _ => exact (show Th K H (.ref _) "tuple" from ⟨fun _ s => .base (.tup (s _ _ e)), by decide, fun _ z => V.noConfusion z, fun z => absurd z (by decide), fun _ z => V.noConfusion z, fun z => absurd z (by decide)⟩)
  | dic e _ => exact (show Th K H (.ref _) "dict" from ⟨fun _ s => .base (.dK (s _ _ e)), by decide, fun _ z => V.noConfusion z, fun z => absurd z (by decide), fun _ z => V.noConfusion z, fun z => absurd z (by decide)⟩)
end Zn

set_option Elab.async false
set_option linter.all false
set_option maxRecDepth 100000
set_option maxHeartbeats 8000000
namespace Zn
open PySem PySem.Spec PyProof.Rows L2 Dl
/-! k16: the law's own odd_right -/
abbrev sOdd : Stmt := top 35
abbrev nOdd : List Str := ["_law_bounds_here", "_law_things", "_law_thing", "_law_found", "_law_way"]
theorem scOdd : FnScope nOdd ["_law_bounds_here"] (defScope sOdd) := ⟨rfl, rfl, rfl, by decide +kernel, rfl, by decide +kernel, by decide +kernel⟩
section
variable {X : Cx} {σ : L2.St} {H : Hp} {ew e1 e2 e3 : Expr} {p1 p2 pos : Pos} {CP CB f : Addr} {fd : FuncData} {way : Int} {Q : VK}
theorem re_caught (hC : Hs X.prog X.w X.K X.mg X.base CX0 6 "_law_caught" ["_law_way", "_law_things"] (spCaught X.K CP CB) f fd) (hr : Room 6 X.A) (hw : XV X σ H ew (.int way)) (h0 : 0 ≤ way) (h1 : way ≤ 3)
    (h : ∀ H1, Same H H1 → ∀ R : List V → Hp → Prop, (∀ one two three H2, (∀ H3, Same H2 H3 → Cau X.K Q H3 CP CB way one two three) → R [one, two, three] H2) → RA X [e1, e2, e3] σ H1 R) (hg : Gl X "_law_caught" := by rfl)
    (he : starEach [ew, .List [e1, e2, e3] p2] X.env = (false, eval ew X.env) :: starEach [.List [e1, e2, e3] p2] X.env := by rfl) (he2 : starEach [.List [e1, e2, e3] p2] X.env = (false, eval (.List [e1, e2, e3] p2) X.env) :: starEach [] X.env := by rfl) (hpl : (backTo pos (starEach [.List [e1, e2, e3] p2] X.env)).any (·.1) = false := by rfl) :
    RE X (.Call (.Name "_law_caught" p1) [ew, .List [e1, e2, e3] p2] [] pos) σ H Q :=
  re_call hC.G hr hC.g hC.kp hC.b (ra_cons (hw H (Same.refl _) _ fun H1 s1 => ra_1 ⟨_, pe_lst ra_, h H1 s1 _ fun one two three H2 hc => ⟨by show 3 ≤ sizeLine; decide, fun L hL => ⟨way, L, one, two, three, rfl, h0, h1, upd_same, hc _ (same_new hL)⟩⟩⟩ he2) he) hg (by decide) he hpl
end
def oddA : List PyData := [.tuple [.str "a", .str "b"], .tuple [.str "a", .str "b", .bool true], .tuple [.str "A", .str "b", .int 1], .tuple [.str "a", .str "", .int 1], .list [.str "a", .str "b", .str "1"], .int 0]
def oddB : List PyData := [.none, .int 3, .bool true, .str "abc", .dict []]
def oddV : List PyData := [.none, .int 3, .str "abc", .list [], .dict [], .dict [(.str "a", .int 1)], .dict [(.str "z", .bool true), (.str "b", .int 1)], .dict [(.str "z", .int 1), (.str "b", .str "1")]]
def oddN : List PyData := [.none, .int 3, .str "", .str "A", .str "abcdefghi", .list [.str "a"]]
def four (k : Str) (d : PyData) : List PyData := (List.range 4).map fun _ => .list [.str k, d]
def two2 (k : Str) (d : PyData) : List PyData := [.list [.str k, d], .list [.str k, d]]
def okR (ds : List PyData) : Prop := (PyData.list ds).showable = true ∧ (PyData.list ds).depth ≤ 60 ∧ (PyData.list ds).shown.length ≤ sizeLine
theorem show_A : ∀ d ∈ oddA ++ oddB, ((PyData.list (four "bound" d)).showable = true ∧ (PyData.list (four "bound" d)).depth ≤ 60 ∧ (PyData.list (four "bound" d)).shown.length ≤ sizeLine) ∧ ((PyData.list (four "part" d)).showable = true ∧ (PyData.list (four "part" d)).depth ≤ 60 ∧ (PyData.list (four "part" d)).shown.length ≤ sizeLine) := by decide +kernel
theorem show_V : ∀ d ∈ oddV, (PyData.list [.str "values", d]).showable = true ∧ (PyData.list [.str "values", d]).depth ≤ 60 ∧ (PyData.list [.str "values", d]).shown.length ≤ sizeLine := by decide +kernel
theorem show_N : ∀ d ∈ oddN, (PyData.list (two2 "name" d)).showable = true ∧ (PyData.list (two2 "name" d)).depth ≤ 60 ∧ (PyData.list (two2 "name" d)).shown.length ≤ sizeLine := by decide +kernel
def seqT (d : PyData) : Bool := decide (tyN d = "list") || decide (tyN d = "tuple")
theorem odd_nb {K : PySem.W.Frag} {H : Hp} {v : V} {d : PyData} (hd : d ∈ oddA ++ oddB) (h : Dz H v d) : NotB K H v := by
  have ht := th_dz (K := K) h
  simp only [oddA, oddB, List.cons_append, List.nil_append, List.mem_cons, List.not_mem_nil, or_false] at hd
  rcases hd with rfl | rfl | rfl | rfl | rfl | rfl | rfl | rfl | rfl | rfl | rfl
  · exact .inr ⟨true, _, Dz.dq h rfl, by decide +kernel⟩
  · exact .inr ⟨true, _, Dz.dq h rfl, by decide +kernel⟩
  · exact .inr ⟨true, _, Dz.dq h rfl, by decide +kernel⟩
  · exact .inr ⟨true, _, Dz.dq h rfl, by decide +kernel⟩
  · exact .inr ⟨false, _, Dz.dq h rfl, by decide +kernel⟩
  · exact .inl ⟨_, ht, by decide, by decide⟩
  · exact .inl ⟨_, ht, by decide, by decide⟩
  · exact .inl ⟨_, ht, by decide, by decide⟩
  · exact .inl ⟨_, ht, by decide, by decide⟩
  · exact .inl ⟨_, ht, by decide, by decide⟩
  · exact .inl ⟨_, ht, by decide, by decide⟩
def zb : List Bd := [("z", "b", 1)]
theorem zb_ok : OkB zb := ⟨by decide, by decide +kernel⟩
theorem odd_vs {K : PySem.W.Frag} {H : Hp} {v1 v : V} {d : PyData} (hd : d ∈ oddV) (h1 : Dq K (hid [] H) v1 (encBs false true zb)) (h : Dz H v d) : BadVs K H v1 v := by
  have ht := th_dz (K := K) h
  refine ⟨[], false, true, zb, Live.nil, h1, zb_ok, ?_⟩
  simp only [oddV, List.mem_cons, List.not_mem_nil, or_false] at hd
  rcases hd with rfl | rfl | rfl | rfl | rfl | rfl | rfl | rfl
  · exact .inl ⟨_, ht, by decide⟩
  · exact .inl ⟨_, ht, by decide⟩
  · exact .inl ⟨_, ht, by decide⟩
  · exact .inl ⟨_, ht, by decide⟩
  · cases h with
    | dic e k =>
      cases k
      exact .inr ⟨_, [], fun _ => .non, fun _ => "", rfl, e, by simp, by decide +kernel⟩
  · cases h with
    | dic e k =>
      cases k with
      | @cons a b l1 l2 k1 k2 =>
        cases k2
        obtain ⟨x, u⟩ := a
        obtain ⟨a1, a2⟩ := k1
        cases a1; cases a2
        exact .inr ⟨_, ["a"], fun _ => .int 1, fun _ => "int", rfl, e, fun _ _ => th_int, by decide +kernel⟩
  · cases h with
    | dic e k =>
      cases k with
      | @cons a b l1 l2 k1 k2 =>
        cases k2 with
        | @cons a' b' l1 l2 k2 k3 =>
          cases k3
          obtain ⟨x, u⟩ := a
          obtain ⟨x', u'⟩ := a'
          obtain ⟨a1, a2⟩ := k1
          obtain ⟨b1, b2⟩ := k2
          cases a1; cases a2; cases b1; cases b2
          refine .inr ⟨_, ["z", "b"], fun x => if x = "z" then .bl true else .int 1, fun x => if x = "z" then "bool" else "int", rfl, e, fun x hx => ?_, by decide +kernel⟩
          show Th K H (if x = "z" then V.bl true else V.int 1) (if x = "z" then "bool" else "int")
          by_cases c : x = "z"
          · rw [if_pos c, if_pos c]; exact th_dq (M := []) (.bl true)
          · rw [if_neg c, if_neg c]; exact th_int
  · cases h with
    | dic e k =>
      cases k with
      | @cons a b l1 l2 k1 k2 =>
        cases k2 with
        | @cons a' b' l1 l2 k2 k3 =>
          cases k3
          obtain ⟨x, u⟩ := a
          obtain ⟨x', u'⟩ := a'
          obtain ⟨a1, a2⟩ := k1
          obtain ⟨b1, b2⟩ := k2
          cases a1; cases a2; cases b1; cases b2
          refine .inr ⟨_, ["z", "b"], fun x => if x = "z" then .int 1 else .str "1", fun x => if x = "z" then "int" else "str", rfl, e, fun x hx => ?_, by decide +kernel⟩
          show Th K H (if x = "z" then V.int 1 else V.str "1") (if x = "z" then "int" else "str")
          by_cases c : x = "z"
          · rw [if_pos c, if_pos c]; exact th_int
          · rw [if_neg c, if_neg c]; exact th_str
theorem odd_ns : ∀ d ∈ oddN, nameD d = false ∧ shortD d = true ∧ noD d = true := by decide +kernel
def spOdd (K : PySem.W.Frag) : Sp := fun vs H Q _ => ∃ (vB : V) (M : List Addr) (bs : List Bd), vs = [vB] ∧ Dq K (hid M H) vB (encBs false true bs) ∧ OkB bs ∧ ∀ H1, Same H H1 → Q (.bl true) H1
section
variable {P : Program} {w : World} {K : PySem.W.Frag} {mg : Str → Option Value} {base : Heap} {CP CB : Addr}
theorem ok_odd {fC f : Addr} {gC fd : FuncData} (T : Nm mg) (hC : Hs P w K mg base CX0 6 "_law_caught" ["_law_way", "_law_things"] (spCaught K CP CB) fC gC) (F : Df K mg "_law_odd_right" sOdd ["_law_bounds_here"] f fd) : FnG P w K mg base 7 f fd ["_law_bounds_here"] (spOdd K) := by
  refine fn_g F.F scOdd (fun vs H Q E h => ?_) (fun cdv A outer s H vs Q E hA hr h => ?_)
  · obtain ⟨vB, M, bs, rfl, _⟩ := h; rfl
  · obtain ⟨vB, M, bs, rfl, hB, ok, q⟩ := h
    obtain ⟨lB, xB, rfl, hlB, hxB⟩ := dp_lst (show Dq K (hid M H) vB (.list (bs.map (encB true))) from hB)
    have lenB : xB.length ≤ 1000 := by rw [dpa_len hxB, List.length_map]; exact ok.1
    have hlH : H lB = some (.lst xB) := hid_le _ _ hlB
    have hxH : DqAll K (hid [] H) xB (bs.map (encB true)) := hxB.up (fun b o e => hid_nil (hid_le _ _ e))
    refine rb_setZ (d := .list oddA) 1 (xz_lst (xz_cons (xz_tup (xz_cons xz_str (xz_cons xz_str xz_nil)) (by decide)) (xz_cons (xz_tup (xz_cons xz_str (xz_cons xz_str (xz_cons xz_bl xz_nil))) (by decide)) (xz_cons (xz_tup (xz_cons xz_str (xz_cons xz_str (xz_cons xz_int xz_nil))) (by decide)) (xz_cons (xz_tup (xz_cons xz_str (xz_cons xz_str (xz_cons xz_int xz_nil))) (by decide)) (xz_cons (xz_lst (xz_cons xz_str (xz_cons xz_str (xz_cons xz_str xz_nil))) (by decide)) (xz_cons xz_int xz_nil)))))) (by decide)) (fun vA H1 s1 hvA => ?_) scOdd.nd
    refine rb_forZ (ds := oddA ++ oddB) (xz_cat (XV.xz (xv_name 1 rfl) hvA).xw (XZ.xw (xz_lst (xz_cons xz_non (xz_cons xz_int (xz_cons xz_bl (xz_cons xz_str (xz_cons xz_dic xz_nil))))) (by decide))) (by decide)) fun H2 s2 => ⟨fun k σ' Hx => Same H2 Hx ∧ ∃ x2 x3, σ' = [some (.ref lB), some vA, x2, x3, none], ⟨Same.refl _, _, _, rfl⟩, fun k σ' Hx h => h.1, fun k d hk σ' Hx v hp hv => ?_, fun σ' Hx hp => ?_⟩
    · obtain ⟨sX, x2, x3, rfl⟩ := hp
      have hm := List.mem_of_getElem? hk
      have sHx := (s1.trans s2).trans sX
      obtain ⟨shB, shP⟩ := show_A d hm
      refine rg_name 2 ?_ scOdd.nd
      refine rb_setRZ (own := [("_law_way", 4)]) 3 4 (by decide) (fun _ => .list [.str "bound", d]) T.rng scOdd.nd xd_int (blkOk_by (own := [("_law_way", 4)]) (N := nOdd) (sc := defScope sOdd) (by decide +kernel)) (fun p i H3 hi hp s3 hpn => ?comp1) (fun l xs H3 s3 hl hl3 hx => ?_)
      case comp1 =>
        intro s0 H0 C0 cl fp
        refine rg_name 4 ⟨rfl, Same.refl _, fun s0 H0 C0 cl fp => ?_⟩ scOdd.nd
        refine re_caught hC hr (xv_name 4 rfl) (by omega) (by omega) fun H4 s4 R qR => ra_cons (re_bin op_cat (XV.go (xv_name 0 rfl) fun H5 s5 => ⟨_, pe_lst ra_, ra_cons (XV.go (xv_name 2 rfl) fun H6 s6 => ra_1 (XD.go (M := []) xd_non fun vn H7 s7 hvn => ⟨by show 2 ≤ sizeLine; decide, fun t ht => ⟨lB, t, xB, [v, vn], rfl, rfl, ?_, upd_same, small_sz (by show xB.length + 2 ≤ 100000; omega), fun c hc => ra_cons (XV.go (xv_name 2 rfl) fun H8 s8 => ra_1 (XV.go (xv_name 2 rfl) fun H9 s9 => qR _ _ _ H9 fun H10 s10 => ?_))⟩⟩))⟩))
        · exact (((((((sHx.trans s3).trans s4).trans s5).trans s6).trans s7).trans (same_new ht))) _ _ hlH
        · have sh := ((s4.trans s5).trans s6).trans s7
          have s37 := ((sh.trans (same_new ht)).trans (same_new hc)).trans (s8.trans (s9.trans s10))
          have sH := (sHx.trans s3).trans s37
          refine .bound (.inr ⟨c, xB, [vn], true, bs, rfl, (s8.trans (s9.trans s10)) _ _ upd_same, hxH.up (hid_mono (M := []) sH), ok, (odd_nb hm hv).up (s3.trans s37), rfl⟩) fun p' H11 s11 hp' hn' e => ⟨s37.trans s11, ?_⟩
          have hpp : p' ≠ p := fun z => by
            subst z
            cases e3 : H3 p' with
            | none => exact hpn e3
            | some o => rw [s37 _ _ e3] at hp'; cases hp'
          exact .lst hn' (by rw [hid_of (by simp [hpp])]; exact e) (.cons (.str _) (.cons (Dz.up (hid_new1 ((s3.trans s37).trans s11) hp) hv) .nil))
      · have s03 := sHx.trans s3
        refine rb_ifF (xt_reprNeW (ds := four "bound" d) hA hr.units T.rep (XV.xw (xv_name 3 rfl) hl3 hx) (xz_rep (n := 4) (ds := [.list [.str "bound", d]]) (XZ.xw <| xz_lst (xz_cons (xz_lst (xz_cons xz_str (xz_cons (XV.xz (xv_name 2 rfl) (Dz.up s3 hv)) xz_nil)) (by show 2 ≤ 100000; decide)) xz_nil) (by show 1 ≤ 100000; decide)) (by show 1 * 4 ≤ 100000; decide)) shB.1 shB.2.1 shB.2.2) fun H4 s4 => ?_
        have s34 := s3.trans s4
        cases c : seqT d with
        | true =>
          refine rb_ifF ((xt_not (xt_val (M := []) (k := true) ((xd_isSeqV T (xv_name 2 rfl) (th_dz (Dz.up s34 hv))).to (by rw [show (decide (tyN d = "list") || decide (tyN d = "tuple")) = true from c])))).to rfl) fun H5 s5 => rb_nil ⟨(sX.trans s34).trans s5, _, _, rfl⟩
        | false =>
          have c2 : tyN d ≠ "list" ∧ tyN d ≠ "tuple" := by
            unfold seqT at c
            rw [Bool.or_eq_false_iff] at c
            exact ⟨of_decide_eq_false c.1, of_decide_eq_false c.2⟩
          refine rb_ifT ((xt_not (xt_val (M := []) (k := false) ((xd_isSeqV T (xv_name 2 rfl) (th_dz (Dz.up s34 hv))).to (by rw [show (decide (tyN d = "list") || decide (tyN d = "tuple")) = false from c])))).to rfl) fun H5 s5 => ?_
          have s35 := s34.trans s5
          refine rb_setRZ (own := [("_law_way", 4)]) 3 4 (by decide) (fun _ => .list [.str "part", d]) T.rng scOdd.nd xd_int (blkOk_by (own := [("_law_way", 4)]) (N := nOdd) (sc := defScope sOdd) (by decide +kernel)) (fun p i H6 hi hp s6 hpn => ?comp2) (fun l xs H6 s6 hl hl6 hx => ?_)
          case comp2 =>
            intro s0 H0 C0 cl fp
            refine rg_name 4 ⟨rfl, Same.refl _, fun s0 H0 C0 cl fp => ?_⟩ scOdd.nd
            refine re_caught hC hr (xv_name 4 rfl) (by omega) (by omega) fun H7 s7 R qR => ra_cons (XV.go (xv_name 2 rfl) fun H8 s8 => ra_cons (XV.go (xv_name 2 rfl) fun H9 s9 => ra_1 (XV.go (xv_name 2 rfl) fun Ha sa => qR _ _ _ Ha fun Hb sb => ?_)))
            have s6b := (((s7.trans s8).trans s9).trans sa).trans sb
            refine .part (.inl ⟨_, th_dz (Dz.up ((s35.trans s6).trans s6b) hv), c2.1, c2.2, rfl, rfl⟩) fun p' Hc sc hp' hn' e => ⟨s6b.trans sc, ?_⟩
            have hpp : p' ≠ p := fun z => by
              subst z
              cases e3 : H6 p' with
              | none => exact hpn e3
              | some o => rw [s6b _ _ e3] at hp'; cases hp'
            exact .lst hn' (by rw [hid_of (by simp [hpp])]; exact e) (.cons (.str _) (.cons (Dz.up (hid_new1 ((s6.trans s6b).trans sc) hp) (Dz.up s35 hv)) .nil))
          · refine rb_ifF (xt_reprNeW (ds := four "part" d) hA hr.units T.rep (XV.xw (xv_name 3 rfl) hl6 hx) (xz_rep (n := 4) (ds := [.list [.str "part", d]]) (XZ.xw <| xz_lst (xz_cons (xz_lst (xz_cons xz_str (xz_cons (XV.xz (xv_name 2 rfl) (Dz.up (s35.trans s6) hv)) xz_nil)) (by show 2 ≤ 100000; decide)) xz_nil) (by show 1 ≤ 100000; decide)) (by show 1 * 4 ≤ 100000; decide)) shP.1 shP.2.1 shP.2.2) fun H7 s7 => rb_nil (rb_nil ⟨((sX.trans s35).trans s6).trans s7, _, _, rfl⟩)
    · obtain ⟨sX, x2, x3, rfl⟩ := hp
      have sHx := (s1.trans s2).trans sX
      refine rb_forZ (ds := oddV) (xz_lst (xz_cons xz_non (xz_cons xz_int (xz_cons xz_str (xz_cons (xz_lst xz_nil (by decide)) (xz_cons xz_dic (xz_cons (xz_dic1 pe_int (.int 1)) (xz_cons (xz_dic2 (by decide +kernel) pe_bl pe_int (.bl true) (.int 1)) (xz_cons (xz_dic2 (by decide +kernel) pe_int pe_str (.int 1) (.str "1")) xz_nil)))))))) (by decide)) fun H3 s3 => ⟨fun k σ' Hy => Same H3 Hy ∧ ∃ x2 x3, σ' = [some (.ref lB), some vA, x2, x3, none], ⟨Same.refl _, _, _, rfl⟩, fun k σ' Hy h => h.1, fun k d hk σ' Hy v hp hv => ?_, fun σ' Hy hp => ?_⟩
      · obtain ⟨sY, x2, x3, rfl⟩ := hp
        have hm := List.mem_of_getElem? hk
        obtain ⟨o1, o2, o3⟩ := show_V d hm
        refine rg_name 2 ?_ scOdd.nd
        refine rb_ifF (xt_reprNeW (ds := [.str "values", d]) hA hr.units T.rep (XZ.xw fun H4 s4 R qR => ?call) (XZ.xw (xz_lst (xz_cons xz_str (xz_cons (XV.xz (xv_name 2 rfl) hv) xz_nil)) (by show 2 ≤ 100000; decide))) o1 o2 o3) fun H5 s5 => rb_nil ⟨sY.trans s5, _, _, rfl⟩
        case call =>
          refine re_caught hC hr xv_int (by decide) (by decide) fun H5 s5 R2 qR2 => ra_cons (XD.go (M := []) (xd_lst Live.nil (xa_cons (xd_tup Live.nil (xa_cons xd_str (xa_cons xd_str (xa_cons xd_int xa_nil)))) xa_nil)) fun v1 H6 s6 hv1 => ra_cons (XV.go (xv_name 2 rfl) fun H7 s7 => ra_1 (XV.go xv_int fun H8 s8 => qR2 _ _ _ H8 fun H9 s9 => ?_)))
          have s69 := (s7.trans s8).trans s9
          have s49 := (s5.trans s6).trans s69
          exact .vals (odd_vs hm (hv1.up (hid_mono (M := []) s69)) (Dz.up (s4.trans s49) hv)) fun p' Ha sa hp' hn' e => qR _ Ha (s49.trans sa) (.lst hn' e (.cons (.str _) (.cons (Dz.up ((s4.trans s49).trans sa) hv) .nil)))
      · obtain ⟨sY, x2, x3, rfl⟩ := hp
        refine rb_forZ (ds := oddN) (xz_lst (xz_cons xz_non (xz_cons xz_int (xz_cons xz_str (xz_cons xz_str (xz_cons xz_str (xz_cons (xz_lst (xz_cons xz_str xz_nil) (by decide)) xz_nil)))))) (by decide)) fun H4 s4 => ⟨fun k σ' Hz => Same H4 Hz ∧ ∃ x2 x3, σ' = [some (.ref lB), some vA, x2, x3, none], ⟨Same.refl _, _, _, rfl⟩, fun k σ' Hz h => h.1, fun k d hk σ' Hz v hp hv => ?_, fun σ' Hz hp => ?_⟩
        · obtain ⟨sZ, x2, x3, rfl⟩ := hp
          have hm := List.mem_of_getElem? hk
          obtain ⟨o1, o2, o3⟩ := show_N d hm
          obtain ⟨n1, n2, n3⟩ := odd_ns d hm
          refine rg_name 2 ?_ scOdd.nd
          have nil_ok : OkB [] := ⟨by decide, by simp⟩
          refine rb_setZ (d := .list (two2 "name" d)) 3 (xz_lst (xz_cons (fun H5 s5 R qR => ?call1) (xz_cons (fun H5 s5 R qR => ?call2) xz_nil)) (by show 2 ≤ 100000; decide)) (fun v3 H5 s5 hv3 => ?_) scOdd.nd
          case call1 =>
            refine re_caught hC hr xv_int (by decide) (by decide) fun H6 s6 R2 qR2 => ra_cons (XD.go (M := []) (xd_lst Live.nil xa_nil) fun v1 H7 s7 hv1 => ra_cons (XV.go (xv_name 2 rfl) fun H8 s8 => ra_1 (XV.go (xv_name 2 rfl) fun H9 s9 => qR2 _ _ _ H9 fun Ha sa => ?_)))
            have s7a := (s8.trans s9).trans sa
            have s5a := (s6.trans s7).trans s7a
            have hva := Dz.up (s5.trans s5a) hv
            exact .name [] false true [] d d Live.nil (hv1.up (hid_mono (M := []) s7a)) nil_ok (Dz.dq hva n3) (Dz.dq hva n3) n2 n2 (fun _ p' Hb sb hp' hn' e => qR _ Hb (s5a.trans sb) (.lst hn' e (.cons (.str _) (.cons (Dz.up sb hva) .nil)))) (fun c => absurd (n1.symm.trans c) (by decide)) (fun c => absurd (n1.symm.trans c) (by decide))
          case call2 =>
            refine re_caught hC hr xv_int (by decide) (by decide) fun H6 s6 R2 qR2 => ra_cons (XD.go (M := []) (xd_lst Live.nil xa_nil) fun v1 H7 s7 hv1 => ra_cons (XV.go xv_str fun H8 s8 => ra_1 (XV.go (xv_name 2 rfl) fun H9 s9 => qR2 _ _ _ H9 fun Ha sa => ?_)))
            have s7a := (s8.trans s9).trans sa
            have s5a := (s6.trans s7).trans s7a
            have hva := Dz.up (s5.trans s5a) hv
            exact .name [] false true [] (.str "a") d Live.nil (hv1.up (hid_mono (M := []) s7a)) nil_ok (.str "a") (Dz.dq hva n3) (by decide +kernel) n2 (fun c => absurd c (by decide +kernel)) (fun _ _ p' Hb sb hp' hn' e => qR _ Hb (s5a.trans sb) (.lst hn' e (.cons (.str _) (.cons (Dz.up sb hva) .nil)))) (fun _ c => absurd (n1.symm.trans c) (by decide))
          refine rb_ifF (xt_reprNeW (ds := two2 "name" d) hA hr.units T.rep (XV.xz (xv_name 3 rfl) hv3).xw (xz_rep (n := 2) (ds := [.list [.str "name", d]]) (XZ.xw <| xz_lst (xz_cons (xz_lst (xz_cons xz_str (xz_cons (XV.xz (xv_name 2 rfl) (Dz.up s5 hv)) xz_nil)) (by show 2 ≤ 100000; decide)) xz_nil) (by show 1 ≤ 100000; decide)) (by show 1 * 2 ≤ 100000; decide)) o1 o2 o3) fun H6 s6 => rb_nil ⟨(sZ.trans s5).trans s6, _, _, rfl⟩
        · obtain ⟨sZ, x2, x3, rfl⟩ := hp
          refine rb_ret (M := []) xd_bl fun v5 H5 s5 hv5 => ?_
          rw [dp_bl hv5]
          exact q H5 ((((sHx.trans s3).trans sY).trans s4).trans (sZ.trans s5))
end
end Zn

set_option Elab.async false
set_option linter.all false
set_option maxRecDepth 100000
set_option maxHeartbeats 8000000
namespace Zn
open PySem PySem.Spec PyProof.Rows L2 Dl
/-! k15: the law's drawn bounds -/
theorem log_big {i : Int} (h : i.natAbs < 10 ^ 33) : i.natAbs.log2 < 110 := by
  by_cases z : i.natAbs = 0
  · rw [z]; decide
  · rw [Nat.log2_lt z]
    exact Nat.lt_trans h (by decide)
structure Sn (k W : Nat) (d : PyData) : Prop where
  ls : d.leavesShort 40 = true
  sh : d.showable = true
  nd : d.hasDict = false
  dp : d.depth ≤ k
  wt : d.weight ≤ W
  cl : d.canLay0 = true
theorem sn_int {i : Int} (h : i.natAbs < 10 ^ 33) : Sn 0 199 (.int i) := by
  have e := int_text_length_le10 (k := 33) (by decide) h
  have hl := log_big h
  refine ⟨?_, ?_, rfl, Nat.le_refl _, ?_, rfl⟩
  · simp only [PyData.leavesShort, decide_eq_true_eq]
    show (Str.ofString (toString i)).length ≤ 40
    rw [PySem.ofString_length]; omega
  · simp only [PyData.showable, decide_eq_true_eq]; omega
  · simp only [PyData.weight]
    split <;> omega
theorem sn_all {k W : Nat} : ∀ {xs : List PyData}, (∀ x ∈ xs, Sn k W x) → PyData.leavesShortAll 40 xs = true ∧ PyData.showableAll xs = true ∧ PyData.hasDictAll xs = false ∧ PyData.depthAll xs ≤ k ∧ PyData.weightAll xs ≤ (W + 1) * xs.length ∧ PyData.canLayAll0 xs = true
  | [], _ => ⟨rfl, rfl, rfl, Nat.zero_le _, Nat.zero_le _, rfl⟩
  | x :: xs, h => by
    have a := h x (List.mem_cons_self ..)
    obtain ⟨b1, b2, b3, b4, b5, b6⟩ := sn_all (xs := xs) fun y hy => h y (List.mem_cons_of_mem _ hy)
    refine ⟨?_, ?_, ?_, ?_, ?_, ?_⟩
    · simp only [PyData.leavesShortAll, a.ls, b1, Bool.and_self]
    · simp only [PyData.showableAll, a.sh, b2, Bool.and_self]
    · simp only [PyData.hasDictAll, a.nd, b3, Bool.or_self]
    · simp only [PyData.depthAll]; have := a.dp; omega
    · simp only [PyData.weightAll, List.length_cons, Nat.mul_add]; have := a.wt; omega
    · simp only [PyData.canLayAll0, a.cl, b6, Bool.and_self]
theorem sn_list {k W n : Nat} {xs : List PyData} (h : ∀ x ∈ xs, Sn k W x) (hn : xs.length ≤ n) : Sn (k + 1) ((W + 1) * n) (.list xs) := by
  obtain ⟨b1, b2, b3, b4, b5, b6⟩ := sn_all h
  refine ⟨by simpa only [PyData.leavesShort] using b1, by simpa only [PyData.showable] using b2, by simpa only [PyData.hasDict] using b3, by simp only [PyData.depth]; omega, ?_, by simpa only [PyData.canLay0] using b6⟩
  simp only [PyData.weight]
  exact Nat.le_trans b5 (Nat.mul_le_mul_left _ hn)
theorem sn_tup {k W n : Nat} {xs : List PyData} (h : ∀ x ∈ xs, Sn k W x) (hn : xs.length ≤ n) : Sn (k + 1) ((W + 1) * n) (.tuple xs) := by
  obtain ⟨b1, b2, b3, b4, b5, b6⟩ := sn_all h
  refine ⟨by simpa only [PyData.leavesShort] using b1, by simpa only [PyData.showable] using b2, by simpa only [PyData.hasDict] using b3, by simp only [PyData.depth]; omega, ?_, by simpa only [PyData.canLay0] using b6⟩
  simp only [PyData.weight]
  exact Nat.le_trans b5 (Nat.mul_le_mul_left _ hn)
theorem Sn.up {k W k' W' : Nat} {d : PyData} (h : Sn k W d) (h1 : k ≤ k') (h2 : W ≤ W') : Sn k' W' d := ⟨h.ls, h.sh, h.nd, Nat.le_trans h.dp h1, Nat.le_trans h.wt h2, h.cl⟩
theorem Sn.fit {k W : Nat} {d : PyData} (h : Sn k W d) (hW : W ≤ 100000) : d.shown.length ≤ sizeLine := by
  have e := PyData.shown_le 40 (by decide) d h.ls
  have := h.wt
  rw [sizeLine_eq]
  omega
theorem Sn.shaped {k W : Nat} {d : PyData} (h : Sn k W d) (hk : k ≤ 60) : SeqAt.shaped d = true := by
  unfold SeqAt.shaped
  rw [h.cl, decide_eq_true (by have := h.dp; omega)]
  rfl
theorem Sn.refl {k W : Nat} {d : PyData} (h : Sn k W d) : PyData.eqv d d = true := SeqAt.eqv_refl d h.cl
theorem at_any' {α : Type} {vs : List α} {r : Int} (h0 : 0 ≤ r) (h1 : r.toNat < vs.length) : atI vs r = some (vs[r.toNat]) := by
  obtain ⟨n, rfl⟩ : ∃ n : Nat, r = (n : Int) := ⟨r.toNat, by omega⟩
  have h2 : n < vs.length := by omega
  unfold atI
  rw [show ixN vs.length (n : Int) = some n by unfold ixN; simp; omega]
  simp [h2]
section
variable {X : Cx} {M : List Addr} {σ : L2.St} {H : Hp} {a a' b c o : Expr} {pos p1 p2 p3 p4 p5 : Pos} {D : Ends} {rest : List Stmt} {Q : VK}
/-- three targets at once -/
theorem rb_par3 (i j l : Nat) {x y z : Str} {px py pz pt : Pos} {kt k2 pt2} (ha : RA X [a, b, c] σ H fun vs H1 => ∃ u v w, vs = [u, v, w] ∧ RB X rest D (((σ.set i (some u)).set j (some v)).set l (some w)) H1) (hN : X.N.Nodup)
    (hw : swappedStores [.Tuple [.Name x px, .Name y py, .Name z pz] kt pt] (.Tuple [a, b, c] k2 pt2) X.env = pure (some [x, y, z]) := by rfl) (hc : X.calm = true := by rfl) (hi : X.N[i]? = some x := by rfl) (hj : X.N[j]? = some y := by rfl) (hl : X.N[l]? = some z := by rfl) (hij : i ≠ j := by decide) (hil : i ≠ l := by decide) (hjl : j ≠ l := by decide)
    (hx : X.env.scope.names.lookup x = some .local := by rfl) (hy : X.env.scope.names.lookup y = some .local := by rfl) (hz : X.env.scope.names.lookup z = some .local := by rfl)
    (hs : swapsWithSole [.Tuple [.Name x px, .Name y py, .Name z pz] kt pt] (.Tuple [a, b, c] k2 pt2) pos.line X.env = pure false := by rfl) : RB X (.Assign [.Tuple [.Name x px, .Name y py, .Name z pz] kt pt] (.Tuple [a, b, c] k2 pt2) pos :: rest) D σ H :=
  ⟨_, pss_cons (ps_par3 hc hN hi hj hl hij hil hjl hx hy hz ra_ hw hs) rb_, ha⟩
/-- xs[take(box, len(xs))] -/
theorem re_pick {ds : List PyData} {n k : Nat} {f bx : Addr} {fd : FuncData} (GT : FnOk X.prog X.w X.K X.mg X.base CX0 k f fd ["_law_box_here", "_law_many"] spTake) (FT : Df X.K X.mg "_law_take" sTake ["_law_box_here", "_law_many"] f fd) (hr : Room k X.A) (T : X.mg "len" = none) (hb : bx ∈ M)
    (ha : XD X M σ H a (.list ds)) (ha' : XD X M σ H a' (.list ds)) (ho : XV X σ H o (.ref bx)) (hB : BagAt H bx n) (hne : ds ≠ []) (hl : ds.length ≤ 1000) (q : ∀ d u H1, d ∈ ds → Dq X.K (hid M H1) u d → SameB bx H H1 → BagAt H1 bx (n + 1) → Q u H1) (hn : n ≤ 1000000 := by omega) (hg : Gl X "_law_take" := by rfl) (hg2 : Gl X "len" := by rfl)
    (hs : starEach [o, .Call (.Name "len" p4) [a'] [] p5] X.env = (false, eval o X.env) :: starEach [.Call (.Name "len" p4) [a'] [] p5] X.env := by rfl) (hs2 : starEach [.Call (.Name "len" p4) [a'] [] p5] X.env = (false, eval (.Call (.Name "len" p4) [a'] [] p5) X.env) :: starEach [] X.env := by rfl) (hpl : (backTo p3 (starEach [.Call (.Name "len" p4) [a'] [] p5] X.env)).any (·.1) = false := by rfl)
    (hs3 : starEach [a'] X.env = (false, eval a' X.env) :: starEach [] X.env := by rfl) (hpl3 : (backTo p5 (starEach [] X.env)).any (·.1) = false := by rfl) :
    RE X (.Subscript a (.Call (.Name "_law_take" p2) [o, .Call (.Name "len" p4) [a'] [] p5] [] p3) pos) σ H Q := by
  refine ⟨_, pe_ix ix_list re_ re_ (fun _ _ => rfl), ha.go fun v H1 s1 hv => ?_⟩
  obtain ⟨p, xs, rfl, hp, hx⟩ := dp_lst hv
  have hpb : p ≠ bx := fun e => by
    unfold hid at hp
    rw [if_pos (by rw [e]; exact hb)] at hp
    cases hp
  have hlen : 0 < ds.length := List.length_pos_iff.mpr hne
  refine re_take (many := (ds.length : Int)) (n := n) GT FT hr (ho.up s1) (XD.vint (M := M) (xd_len T (ha'.up s1) hg2 hs3 hpl3)) (hB.up s1 (Nat.le_refl _)) (fun r H2 r0 r1 sB hB2 => ?_) (by omega) (by omega) hn hg hs hs2 hpl
  have hrl : r.toNat < ds.length := by omega
  have hd : atI ds r = some ds[r.toNat] := at_any' r0 hrl
  have hx2 : DqAll X.K (hid M H2) xs ds := hx.up (sB.hid hb)
  obtain ⟨u, hu, hdu⟩ := atI_map (dpa_len hx2) (fun i y h => dpa_get hx2 h) hd
  exact ⟨p, xs, r, u, rfl, rfl, SqL.of (sB p _ hpb (hid_le _ _ hp)), hu, q _ u H2 (List.getElem_mem hrl) hdu ((SameB.of s1).trans sB) hB2⟩
end
end Zn
namespace Dl
open PySem PySem.Spec PyProof.Rows L2
theorem perm_of_mem : ∀ {xs ys : List Str}, xs.Nodup → ys.Nodup → (∀ x, x ∈ xs ↔ x ∈ ys) → xs.Perm ys
  | [], ys, _, _, h => by
    cases ys with
    | nil => exact .nil
    | cons y t => have := (h y).mpr (List.mem_cons_self ..); simp at this
  | x :: xs, ys, hx, hy, h => by
    have m : x ∈ ys := (h x).mp (List.mem_cons_self ..)
    obtain ⟨n1, n2⟩ := List.nodup_cons.mp hx
    refine (List.Perm.cons x (perm_of_mem n2 (hy.erase x) fun z => ?_)).trans (List.perm_cons_erase m).symm
    rw [List.Nodup.mem_erase_iff hy, ← h z, List.mem_cons]
    constructor
    · intro hz
      exact ⟨fun e => n1 (e ▸ hz), .inr hz⟩
    · rintro ⟨n, e | hz⟩
      · exact absurd e n
      · exact hz
section
variable {X : Cx} {M : List Addr} {σ : L2.St} {H : Hp} {a b e : Expr} {pos p1 p2 : Pos} {p : Addr} {xs : List V} {v : V} {D : Ends} {rest : List Stmt} {Q : VK}
theorem xv_lenT (hm : X.mg "len" = none) (ha : XV X σ H e (.ref p)) (hS : SqT X.K H p xs) (hg : Gl X "len" := by rfl) (he : starEach [e] X.env = (false, eval e X.env) :: starEach [] X.env := by rfl) (hpl : (backTo pos (starEach [] X.env)).any (·.1) = false := by rfl) :
    XV X σ H (.Call (.Name "len" p1) [e] [] pos) (.int xs.length) := fun H1 s Q q =>
  re_B call_len_seq (ra_1 (ha H1 s _ fun H2 s2 => ⟨p, xs, rfl, .inr (same_seqT (s.trans s2) hS), q H2 s2⟩) he) hm PySem.boot_len hg (by decide) (by decide) he hpl
theorem xv_ixT {n : Int} (hs : PlainIx b) (ha : XV X σ H a (.ref p)) (hS : SqT X.K H p xs) (hb : XV X σ H b (.int n)) (h : atI xs n = some v) : XV X σ H (.Subscript a b pos) v := fun H1 s Q q =>
  ⟨_, pe_ix ix_tup re_ re_ hs, ha H1 s _ fun H2 s2 => hb H2 (s.trans s2) _ fun H3 s3 => ⟨p, xs, n, v, rfl, rfl, same_seqT ((s.trans s2).trans s3) hS, h, q H3 (s2.trans s3)⟩⟩
theorem xt_notIn2 {x y z : Str} {ns : List Expr} (ha : XV X σ H a (.str x)) (hb : XL X M σ H b [.str y, .str z]) (hx : x = y ∨ x = z) (hm : behindInMarks .NotIn b = false := by rfl) : XT X σ H (.Compare a [.NotIn] [b] pos) false := fun H1 s Q q =>
  ⟨_, pt_cmpR op_notIn_seq re_ re_ hm, ha H1 s _ fun H2 s2 => hb H2 (s.trans s2) _ fun l xs H3 s3 hl h3 hx2 => by
    have exs : xs = [.str y, .str z] := by
      cases hx2 with
      | cons h1 h2 => cases h2 with
        | cons h2 h4 => cases h4; rw [dp_str h1, dp_str h2]
    subst exs
    refine ⟨l, [.str y, .str z], rfl, .inl (SqL.of h3), rfl, rfl, _, rfl, ?_⟩
    have e : inV (.str x) [.str y, .str z] = true := by
      rcases hx with e | e
      · subst e; simp [inV, eqV]
      · subst e; simp [inV, eqV]
    rw [e]
    exact q H3 (s2.trans s3)⟩
theorem xt_or3F {c : Expr} (ha : XT X σ H a false) (hb : XT X σ H b false) (hc : XT X σ H c false) : XT X σ H (.BoolOp .Or [a, b, c] pos) false := (xw_orF ha (xw_orF hb (xw_or1 hc))).t
theorem rb_parR (i j : Nat) {x y : Str} {px py pt : Pos} {kt k2 pt2} (ha : RA X [a, b] σ H fun vs H1 => ∃ u v, vs = [u, v] ∧ RB X rest D ((σ.set i (some u)).set j (some v)) H1) (hN : X.N.Nodup)
    (hw : swappedStores [.Tuple [.Name x px, .Name y py] kt pt] (.Tuple [a, b] k2 pt2) X.env = pure (some [x, y]) := by rfl) (hc : X.calm = true := by rfl) (hi : X.N[i]? = some x := by rfl) (hj : X.N[j]? = some y := by rfl) (hij : i ≠ j := by decide)
    (hx : X.env.scope.names.lookup x = some .local := by rfl) (hy : X.env.scope.names.lookup y = some .local := by rfl)
    (hs : swapsWithSole [.Tuple [.Name x px, .Name y py] kt pt] (.Tuple [a, b] k2 pt2) pos.line X.env = pure false := by rfl) : RB X (.Assign [.Tuple [.Name x px, .Name y py] kt pt] (.Tuple [a, b] k2 pt2) pos :: rest) D σ H :=
  ⟨_, pss_cons (ps_par hc hN hi hj hij hx hy ra_ hw hs) rb_, ha⟩
end
end Dl
namespace Zn
open PySem PySem.Spec PyProof.Rows L2 Dl
/-! k15: what settle has told -/
theorem lay_strs : ∀ {ds : List PyData}, (∀ d ∈ ds, ∃ z : Str, d = .str z ∧ PyData.strOk z = true) → PyData.canLayAll0 ds = true ∧ PyData.depthAll ds = 0
  | [], _ => ⟨rfl, rfl⟩
  | d :: ds, h => by
    obtain ⟨z, rfl, hz⟩ := h d (List.mem_cons_self ..)
    obtain ⟨a, b⟩ := lay_strs (ds := ds) fun e he => h e (List.mem_cons_of_mem _ he)
    refine ⟨?_, ?_⟩
    · simp only [PyData.canLayAll0, PyData.canLay0, a, hz, Bool.and_self]
    · simp only [PyData.depthAll, PyData.depth, b]; rfl
theorem shaped_strs {ds : List PyData} (h : ∀ d ∈ ds, ∃ z : Str, d = .str z ∧ PyData.strOk z = true) : SeqAt.shaped (.list ds) = true := by
  obtain ⟨a, b⟩ := lay_strs h
  unfold SeqAt.shaped
  simp only [PyData.canLay0, PyData.depth, a, b]
  decide
theorem eqv_strs (ys : List Str) (h : ∀ d ∈ ys.map PyData.str, ∃ z : Str, d = .str z ∧ PyData.strOk z = true) : PyData.eqv (.list (ys.map PyData.str)) (.list (ys.map PyData.str)) = true := by
  refine SeqAt.eqv_refl _ ?_
  have := (lay_strs h).1
  simpa only [PyData.canLay0] using this
theorem filterMap_none (ds : List PyData) : ds.filterMap (fun _ => (none : Option PyData)) = [] := by
  induction ds with
  | nil => rfl
  | cons d t ih => rw [List.filterMap_cons]; exact ih
theorem names_few {bs : List Bd} (h : bs.length ≤ 13) : (namesOf bs).length ≤ 26 := by
  have := names_len bs bs.length
  rw [List.take_length] at this
  omega
theorem sum_range (f : Nat → Int) : ∀ t : Nat, ((List.range t).map f).sum = Bf.sumTo f t
  | 0 => rfl
  | t + 1 => by
    rw [List.range_succ, List.map_append, List.sum_append, sum_range f t]
    show _ + (f t + 0) = _
    rw [Int.add_zero]
    rfl
theorem ring_founds {bs : List Bd} {c : Nat → Bd} {ring : List Int} (h : IsRing bs c ring) : (∀ d ∈ ring.map PyData.int, inB bs.length d = true) ∧ founds bs (ring.map PyData.int) = (List.range ring.length).map c := by
  have hin : ∀ d ∈ ring.map PyData.int, inB bs.length d = true := fun d hd => by
    obtain ⟨i, hi, e⟩ := List.getElem_of_mem hd
    rw [List.length_map] at hi
    obtain ⟨j, h1, h2⟩ := h.at_ i hi
    have hj := (List.getElem?_eq_some_iff.mp h2).1
    rw [List.getElem_map] at e
    have e2 : ring[i] = ((j : Nat) : Int) := by rw [List.getElem?_eq_getElem hi] at h1; exact Option.some.inj h1
    rw [← e, e2]
    show (decide ((0 : Int) ≤ (j : Int)) && decide ((j : Int) ≤ (bs.length : Int) - 1)) = true
    rw [decide_eq_true (by omega), decide_eq_true (by omega)]; rfl
  refine ⟨hin, ?_⟩
  obtain ⟨fl, fa⟩ := founds_at hin
  rw [List.length_map] at fl
  refine List.ext_getElem? fun i => ?_
  by_cases hi : i < ring.length
  · obtain ⟨j, h1, h2⟩ := h.at_ i hi
    have hd : (ring.map PyData.int)[i]? = some (.int ((j : Nat) : Int)) := by rw [List.getElem?_map, h1]; rfl
    obtain ⟨j', b, e1, e2, e3⟩ := fa i _ hd
    have ej : j' = j := by
      have := PyData.int.inj e1
      omega
    rw [ej, h2] at e2
    rw [e3, List.getElem?_map, List.getElem?_range hi, ← Option.some.inj e2]
    rfl
  · rw [List.getElem?_eq_none (by omega), List.getElem?_eq_none (by rw [List.length_map, List.length_range]; omega)]
theorem ring_true {bs : List Bd} {c : Nat → Bd} {ring : List Int} (h : IsRing bs c ring) : isRingB bs (ring.map PyData.int) = true ∧ showsB bs (ring.map PyData.int) = true := by
  obtain ⟨hin, hf⟩ := ring_founds h
  have h1 : (ring.map PyData.int).all (inB bs.length) = true := List.all_eq_true.mpr hin
  have h2 : decide (sumN ((List.range ring.length).map c) < 0) = true := by
    unfold sumN
    rw [List.map_map]
    have := sum_range (fun i => (c i).2.2) ring.length
    exact decide_eq_true (by rw [show ((fun b : Bd => b.2.2) ∘ c) = fun i => (c i).2.2 from rfl, this]; exact h.neg)
  have at_ : ∀ i, i < ring.length → ((List.range ring.length).map c)[i]? = some (c i) := fun i hi => by rw [List.getElem?_map, List.getElem?_range hi]; rfl
  have fl : ((List.range ring.length).map c).length = ring.length := by rw [List.length_map, List.length_range]
  have hp := h.pos
  constructor
  · unfold isRingB
    rw [h1, hf, h2]
    have h3 : (List.range (ring.map PyData.int).length).all (link2 ((List.range ring.length).map c)) = true := List.all_eq_true.mpr fun i hi => by
      rw [List.mem_range, List.length_map] at hi
      unfold link2
      rw [fl, at_ i hi, at_ _ (Nat.mod_lt _ (by omega))]
      exact decide_eq_true (h.next i hi)
    rw [h3]
    have h4 : decide (ring.map PyData.int = []) = false := decide_eq_false fun e => by
      rw [List.map_eq_nil_iff] at e
      rw [e] at hp
      simp at hp
    rw [h4]
    rfl
  · unfold showsB
    rw [h1, hf, h2, fl]
    have h3 : (List.range ring.length).all (linkB ((List.range ring.length).map c)) = true := List.all_eq_true.mpr fun i hi => by
      rw [List.mem_range] at hi
      unfold linkB
      rw [at_ i hi]
      by_cases z : i = 0
      · subst z
        rw [if_pos rfl, List.getLast?_eq_getElem?, fl, at_ _ (by omega)]
        have := h.next (ring.length - 1) (by omega)
        rw [show (ring.length - 1 + 1) % ring.length = 0 by rw [Nat.sub_add_cancel hp, Nat.mod_self]] at this
        exact decide_eq_true this
      · rw [if_neg z, at_ _ (by omega)]
        have := h.next (i - 1) (by omega)
        rw [show (i - 1 + 1) % ring.length = i by rw [Nat.sub_add_cancel (by omega)]; exact Nat.mod_eq_of_lt hi] at this
        exact decide_eq_true this
    rw [h3]
    rfl
end Zn
namespace Dl
open PySem PySem.Spec PyProof.Rows L2
theorem hid_less {M N : List Addr} {H : Hp} (h : ∀ a ∈ N, a ∈ M) : Same (hid M H) (hid N H) := fun b o e => by
  have n : b ∉ M := fun z => by unfold hid at e; rw [if_pos z] at e; cases e
  rw [hid_of fun z => n (h b z)]
  exact hid_le _ _ e
section
variable {X : Cx} {M : List Addr} {σ : L2.St} {H : Hp} {a b e hi : Expr} {pos p1 p2 : Pos} {ds : List PyData} {xs : List V} {k1 k2 : Bool} {Q : VK} {c d : Expr} {k3 k4 : Bool}
/-- repr of a list -/
theorem xd_reprL (hA : X.A.guards = some []) (hu : X.A.units + 64 < cLine) (hm : X.mg "repr" = none) (ha : XD X M σ H e (.list ds)) (h1 : (PyData.list ds).showable = true) (h2 : (PyData.list ds).hasDict = false) (h3 : (PyData.list ds).depth ≤ 60) (h4 : (PyData.list ds).shown.length ≤ sizeLine) (hg : Gl X "repr" := by rfl)
    (he : starEach [e] X.env = (false, eval e X.env) :: starEach [] X.env := by rfl) (hpl : (backTo p2 (starEach [] X.env)).any (·.1) = false := by rfl) : XD X M σ H (.Call (.Name "repr" p1) [e] [] p2) (.str (PyData.list ds).shown) := fun H1 s Q q =>
  re_B (call_reprD hA hu) (ra_1 (ha H1 s _ fun v H2 s2 hv => by
    obtain ⟨p, xs, rfl, hp, hx⟩ := dp_lst hv
    exact ⟨p, _, rfl, (hv.up hid_le).dp, h1, h2, h3, h4, q _ H2 s2 (.str _)⟩) he) hm (by decide +kernel) hg (by decide) (by decide) he hpl
theorem re_cutHi (h : RE X a σ H fun v H1 => ∃ p, v = .ref p ∧ RE X hi σ H1 fun w H2 => ∃ n : Int, w = .int n ∧ H2 p = some (.lst xs) ∧ ∀ q, H2 q = none → Q (.ref q) (upd H2 q (.lst (cutV xs none (some n))))) : RE X (.Subscript a (.Slice none (some hi) none p2) pos) σ H Q :=
  ⟨_, pe_slice sl_list re_ po_none (po_some re_), re_mono h fun v H1 ⟨p, ev, h1⟩ => re_mono h1 fun w H2 ⟨n, ew, hp, q⟩ => ⟨n, ew, p, xs, ev, SqL.of hp, q⟩⟩
theorem xt_neB (ha : XD X M σ H a (.bool k1)) (hb : XD X M σ H b (.bool k2)) : XT X σ H (.Compare a [.NotEq] [b] pos) (!decide (k1 = k2)) :=
  xt_cmp op_ne ha hb fun H1 v w s hv hw Q q => by
    rw [dp_bl hv, dp_bl hw]
    refine ⟨rfl, ?_⟩
    have e : decide (V.bl k1 = V.bl k2) = decide (k1 = k2) := by
      by_cases z : k1 = k2
      · subst z; simp
      · rw [decide_eq_false z, decide_eq_false fun q => z (V.bl.inj q)]
    rw [e]
    exact q H1 (Same.refl _)
theorem xt_or4F (ha : XT X σ H a false) (hb : XT X σ H b false) (hc : XT X σ H c false) (hd : XT X σ H d false) : XT X σ H (.BoolOp .Or [a, b, c, d] pos) false := (xw_orF ha (xw_orF hb (xw_orF hc (xw_or1 hd)))).t
theorem dq_flat {K : PySem.W.Frag} {H H' : Hp} : ∀ {ds : List PyData} {vs : List V}, (∀ d ∈ ds, Zn.flat d = true) → DqAll K H vs ds → DqAll K H' vs ds
  | [], _, _, h => by cases h; exact .nil
  | d :: ds, _, hf, h => by
    cases h with
    | cons h1 h2 =>
      refine .cons ?_ (dq_flat (fun e he => hf e (List.mem_cons_of_mem _ he)) h2)
      have := hf d (List.mem_cons_self ..)
      cases h1 with
      | non => exact .non
      | bl b => exact .bl b
      | int i => exact .int i
      | str x => exact .str x
      | lst _ _ => cases this
      | tup _ _ => cases this
theorem dq_tup_more {K : PySem.W.Frag} {H : Hp} {N : List Addr} {l : Addr} {ys : List V} {v : V} {ds : List PyData} (hf : ∀ d ∈ ds, Zn.flat d = true) (hl : H l = some (.lst ys)) (h : Dq K (hid N H) v (.tuple ds)) : Dq K (hid (l :: N) H) v (.tuple ds) := by
  obtain ⟨p, xs, rfl, hp, hx⟩ := dp_tup h
  refine .tup ?_ (dq_flat hf hx)
  have key : ∀ {o}, hid N H p = some o → (∀ ys, o ≠ .lst ys) → hid (l :: N) H p = some o := fun {o} e n => by
    have pn : p ∉ N := fun z => by unfold hid at e; rw [if_pos z] at e; cases e
    have pl : p ≠ l := fun z => by
      have e2 := hid_le _ _ e
      rw [z, hl] at e2
      exact n ys (Option.some.inj e2).symm
    rw [hid_of (by simp [pn, pl])]
    exact hid_le _ _ e
  rcases hp with (h | ⟨o, h⟩) | h
  · exact .inl (.inl (key h (fun _ z => HO.noConfusion z)))
  · exact .inl (.inr ⟨o, key h (fun _ z => HO.noConfusion z)⟩)
  · exact .inr h
end
end Dl
namespace Zn
open PySem PySem.Spec PyProof.Rows L2 Dl
/-! k15: the tightest, by settle -/
section
variable {X : Cx} {M : List Addr} {σ : L2.St} {H : Hp} {e : Expr} {pos p1 p2 p3 : Pos} {j : Nat}
/-- settle(e)[0] -/
theorem xd_set0 {bs : List Bd} {fS : Addr} {gS : FuncData} {b : Bool} (hS : Hs X.prog X.w X.K X.mg X.base CX0 4 "settle" ["bounds"] (spSettle X.K) fS gS) (hr : Room 4 X.A) (hM : Live M H) (he : XD X M σ H e (encBs false true bs)) (ok : OkB bs) (hb : b = true ↔ ∃ g, Bf.Holds bs g) (hg : Gl X "settle" := by rfl)
    (hst : starEach [e] X.env = (false, eval e X.env) :: starEach [] X.env := by rfl) (hpl : (backTo p2 (starEach [] X.env)).any (·.1) = false := by rfl) : XD X M σ H (.Subscript (.Call (.Name "settle" p1) [e] [] p2) (.Constant (.int 0) j p3) pos) (.str (if b then "values" else "ring")) := fun H1 s Q q =>
  ⟨_, pe_ix ix_tup re_ re_ (fun _ _ => rfl), re_call hS.G hr hS.g hS.kp hS.b (ra_1 (he H1 s _ fun v H2 s2 hv => ⟨v, M, false, true, bs, rfl, hM.mono (s.trans s2), hv, ok, fun g H3 t W s3 ht hW h3 dW hh => XV.go xv_int fun H4 s4 => ⟨t, _, 0, .str "values", rfl, rfl, SqT.of (s4 _ _ h3), rfl, by
      have eb : b = true := hb.mpr ⟨g, hh⟩
      rw [eb] at q
      exact q _ H4 ((s2.trans s3).trans s4) (.str _)⟩, fun c ring H3 t r s3 ht hr3 h3 h4 hz hR hno => XV.go xv_int fun H4 s4 => ⟨t, _, 0, .str "ring", rfl, rfl, SqT.of (s4 _ _ h3), rfl, by
      have eb : b = false := by
        cases z : b with
        | false => rfl
        | true => exact absurd (hb.mp z) hno
      rw [eb] at q
      exact q _ H4 ((s2.trans s3).trans s4) (.str _)⟩⟩) hst) hg (by decide) hst hpl⟩
end
end Zn
namespace Dl
open PySem PySem.Spec PyProof.Rows L2 Zn
section
variable {X : Cx} {M : List Addr} {σ : L2.St} {H : Hp} {a b e elt tg iter : Expr} {scope : Scope} {own : List (Str × Nat)} {pos p1 p2 p3 : Pos} {Q : VK} {d1 d2 : PyData} {d : PyData}
/-- [elt for tg in iter], where elt may change things -/
theorem re_lcP (hN : X.N.Nodup) (ok : BlkOk X.N X.env.scope scope own) (h : RE X iter σ H fun v H1 => ∃ a xs, v = .ref a ∧ SqL X.K H1 a xs ∧ ∀ p, H1 p = none → ∃ Pv : Nat → List V → Hp → Prop, Pv 0 [] (upd H1 p (.lst [])) ∧ (∀ i acc H', Pv i acc H' → SqL X.K H' a xs) ∧
      (∀ i acc x H', xs[i]? = some x → Pv i acc H' → BG X scope tg x (wipe σ (own.map (·.2))) H' fun σ2 H2 => wipe σ2 (own.map (·.2)) = wipe σ (own.map (·.2)) ∧ BE X scope elt σ2 H2 fun y H4 => H4 p = some (.lst acc) ∧ acc.length < sizeLine ∧ Pv (i + 1) (acc ++ [y]) (upd H4 p (.lst (acc ++ [y])))) ∧
      ∀ acc H', Pv xs.length acc H' → Q (.ref p) H') (hc : X.calm = true := by rfl) (hs : ∀ x, foldedSetIterable iter X.env x = pure x := by intro _; rfl) : RE X (.ListComp elt [⟨tg, iter, [], 0⟩] scope pos) σ H Q :=
  ⟨_, pe_lc (own := own) hc hN (pi_list re_) ok (fun _ _ _ _ _ => bg_) (fun _ _ _ _ _ => bt_) (fun _ _ _ _ _ => be_) hs, re_mono h fun v H1 ⟨a, xs, ev, hS, k⟩ => ⟨a, ev, ⟨xs, hS⟩, fun p hp => by
    obtain ⟨Pv, h0, hl, hst, hd⟩ := k p hp
    exact lc_list (xs := xs) (a := a) (fun i H' => ∃ acc, Pv i acc H') ⟨[], h0⟩ (fun i H' _ ⟨acc, w⟩ => hl i acc H' w) (fun i x H' hi ⟨acc, w⟩ => bg_mono (hst i acc x H' hi w) fun σ2 H2 ⟨hw, hbe⟩ => ⟨hw, bt_nil (iteT (be_mono hbe fun y H4 ⟨e1, e2, e3⟩ => ⟨acc, e1, e2, acc ++ [y], e3⟩))⟩) (fun H' ⟨acc, w⟩ => hd acc H' w)⟩⟩
end
theorem paired_mono {α β : Type} {F G : α → β → Prop} : ∀ {l1 : List α} {l2 : List β}, Paired F l1 l2 → (∀ a b, F a b → G a b) → Paired G l1 l2
  | _, _, .nil, _ => .nil
  | _, _, .cons h t, k => .cons (k _ _ h) (paired_mono t k)
end Dl
namespace Zn
open PySem PySem.Spec PyProof.Rows L2 Dl
theorem merge_dmap {f : Str → V} : ∀ {t s : List Str}, (s ++ t).Nodup → mergeK (dmap s f) (dmap t f) = dmap (s ++ t) f
  | [], s, _ => by rw [List.append_nil]; rfl
  | x :: t, s, nd => by
    have nx : x ∉ s := fun h => by
      have := (List.nodup_append.mp nd).2.2 x h x (List.mem_cons_self ..)
      exact this rfl
    have e1 : putK (dmap s f) (.inr x) (f x) = dmap (s ++ [x]) f := by
      rw [put_dmap, show Bf.ins s x = s ++ [x] from if_neg nx]
      unfold dmap
      refine List.map_congr_left fun y _ => ?_
      show (Sum.inr y, Bf.up f x (f x) y) = (Sum.inr y, f y)
      unfold Bf.up
      split
      · rename_i h; rw [h]
      · rfl
    have ih := merge_dmap (f := f) (t := t) (s := s ++ [x]) (by rw [List.append_assoc]; exact nd)
    rw [List.append_assoc] at ih
    rw [← show _ = dmap (s ++ x :: t) f from ih, ← e1]
    rfl
theorem dmap_snoc {ks : List Str} {x : Str} {g : Str → Int} {n : Int} (h : x ∉ ks) : dmap (ks ++ [x]) (fun z => V.int (if z = x then n else g z)) = dmap ks (fun z => V.int (g z)) ++ [(.inr x, V.int n)] := by
  unfold dmap
  rw [List.map_append]
  congr 1
  · refine List.map_congr_left fun y hy => ?_
    show (Sum.inr y, V.int (if y = x then n else g y)) = (Sum.inr y, V.int (g y))
    rw [if_neg (fun e => h (by rw [← e]; exact hy))]
  · show [(Sum.inr x, V.int (if x = x then n else g x))] = _
    rw [if_pos rfl]
theorem bag_upd {H : Hp} {b l : Addr} {n : Nat} {o : HO} (h : BagAt H b n) (ne : b ≠ l) : BagAt (upd H l o) b n := by
  obtain ⟨g, m, c, e1, e2, e3, e4, e5⟩ := h
  exact ⟨g, m, c, by rw [upd_ne ne]; exact e1, e2, e3, e4, e5⟩
theorem same_of_B {b : Addr} {H H' : Hp} (hb : H b = none) (s : SameB b H H') : Same H H' := fun a o e => s a o (ne_of_none e hb) e
section
variable {P : Program} {w : World} {K : PySem.W.Frag} {mg : Str → Option Value} {base : Heap}
structure DrawI (K : PySem.W.Frag) (b p : Addr) (nm : List Str) (c : Nat) (H0 : Hp) (i : Nat) (acc : List V) (H' : Hp) : Prop where
  sm : SameB b H0 H'
  bag : BagAt H' b (c + 2 * i)
  at' : H' p = some (.lst acc)
  pr : ∃ (ps : List Addr) (g : Str → Int), acc = ps.map V.ref ∧ (∀ x, (g x).natAbs ≤ 10000000000000000000000000000) ∧ Paired (fun t kv => SqT K (hid [p, b] H') t [kV kv.1, kv.2]) ps (dmap (nm.take i) (fun z => .int (g z)))
theorem draw_step {b p t : Addr} {nm : List Str} {c i : Nat} {H0 Hi Hf : Hp} {acc : List V} {x : Str} {n : Int} (hI : DrawI K b p nm c H0 i acc Hi) (hx : nm[i]? = some x) (nd : nm.Nodup) (hp : H0 p = none) (hpb : p ≠ b) (sf : SameB b Hi Hf) (ht : Hi t = none) (hf : Hf t = some (.tup [.str x, .int n])) (hn : n.natAbs ≤ 10000000000000000000000000000) (hB : BagAt Hf b (c + 2 * (i + 1))) :
    Hf p = some (.lst acc) ∧ DrawI K b p nm c H0 (i + 1) (acc ++ [.ref t]) (upd Hf p (.lst (acc ++ [.ref t]))) := by
  have hfp := sf p _ hpb hI.at'
  refine ⟨hfp, ⟨fun a o na e => ?_, bag_upd hB (Ne.symm hpb), upd_same, ?_⟩⟩
  · rw [upd_ne (ne_of_none e hp)]
    exact sf a o na (hI.sm a o na e)
  · obtain ⟨ps, g, ea, hg, pr⟩ := hI.pr
    have hil : i < nm.length := (List.getElem?_eq_some_iff.mp hx).1
    have nx : x ∉ nm.take i := by
      intro hm
      obtain ⟨j, hj, e⟩ := List.getElem_of_mem hm
      rw [List.length_take] at hj
      rw [List.getElem_take] at e
      have e2 : nm[i] = x := by rw [List.getElem?_eq_getElem hil] at hx; exact Option.some.inj hx
      have := (List.getElem_inj (h₀ := by omega) (h₁ := hil) nd).mp (e.trans e2.symm)
      omega
    have et : nm.take (i + 1) = nm.take i ++ [x] := by rw [List.take_add_one, hx]; rfl
    have tp : t ≠ p := fun e => by rw [e] at hf; rw [hfp] at hf; cases hf
    have tb : t ≠ b := fun e => by
      obtain ⟨_, _, _, e1, _⟩ := hB
      rw [e, e1] at hf; cases hf
    refine ⟨ps ++ [t], fun z => if z = x then n else g z, by rw [ea, List.map_append]; rfl, fun z => ?_, ?_⟩
    · show (if z = x then n else g z).natAbs ≤ _
      split
      · exact hn
      · exact hg z
    · rw [et, dmap_snoc nx, hid_upd_mem (List.mem_cons_self ..)]
      refine Paired.snoc (paired_mono pr fun u kv h => same_seqT (sf.hid (by simp)) h) ?_
      exact SqT.of (by rw [hid_of (by simp [tp, tb])]; exact hf)
theorem draw_done {b p : Addr} {nm : List Str} {c : Nat} {H0 H' : Hp} {acc : List V} (hI : DrawI K b p nm c H0 nm.length acc H') : ∃ (ps : List Addr) (g : Str → Int), acc = ps.map V.ref ∧ (∀ x, (g x).natAbs ≤ 10000000000000000000000000000) ∧ Paired (fun t kv => SqT K H' t [kV kv.1, kv.2]) ps (dmap nm (fun z => .int (g z))) := by
  obtain ⟨ps, g, ea, hg, pr⟩ := hI.pr
  rw [List.take_length] at pr
  exact ⟨ps, g, ea, hg, paired_mono pr fun u kv h => same_seqT (fun a o e => hid_le _ _ e) h⟩
theorem dpa_app {H : Hp} : ∀ {vs us : List V} {ds es : List PyData}, DqAll K H vs ds → DqAll K H us es → DqAll K H (vs ++ us) (ds ++ es)
  | _, _, _, _, .nil, h => h
  | _, _, _, _, .cons a t, h => .cons a (dpa_app t h)
theorem strs_q {H : Hp} (nm : List Str) : DqAll K H (nm.map V.str) (nm.map PyData.str) := by
  induction nm with
  | nil => exact .nil
  | cons x t ih => exact .cons (.str x) ih
end
end Zn

set_option Elab.async false
set_option linter.all false
set_option maxRecDepth 100000
set_option maxHeartbeats 8000000
namespace Zn
open PySem PySem.Spec PyProof.Rows L2 Dl
/-! k16: the law's own bounds -/
abbrev sLBs : Stmt := top 32
abbrev nLBs : List Str := ["_law_box_here", "_law_names", "_law_found", "_law_lap", "_law_x", "_law_y"]
theorem scLBs : FnScope nLBs ["_law_box_here"] (defScope sLBs) := ⟨rfl, rfl, rfl, by decide +kernel, rfl, by decide +kernel, by decide +kernel⟩
def fourN : List Str := ["a", "b", "c1", "z"]
theorem four_ok : ∀ x ∈ fourN, nameB x = true ∧ PyData.strOk x = true := by decide +kernel
structure B4 (bs : List Bd) : Prop where
  len : bs.length ≤ 8
  nms : ∀ b ∈ bs, b.1 ∈ fourN ∧ b.2.1 ∈ fourN
theorem B4.ok {bs : List Bd} (h : B4 bs) : OkB bs := ⟨by have := h.len; omega, fun b hb => ⟨(four_ok _ (h.nms b hb).1).1, (four_ok _ (h.nms b hb).2).1⟩⟩
theorem B4.nm {bs : List Bd} (h : B4 bs) {x : Str} (hx : x ∈ namesOf bs) : x ∈ fourN := by
  obtain ⟨b, hb, e⟩ := names_back hx
  rcases e with e | e
  · rw [e]; exact (h.nms b hb).1
  · rw [e]; exact (h.nms b hb).2
theorem four_take (r : Int) (h0 : 0 ≤ r) (h1 : r < 4) : cutV (fourN.map V.str) none (some (1 + r)) = (fourN.take (r.toNat + 1)).map V.str ∧ fourN.take (r.toNat + 1) ≠ [] := by
  have h : ∀ n : Nat, n < 4 → cutV (fourN.map V.str) none (some (1 + (n : Int))) = (fourN.take (n + 1)).map V.str ∧ fourN.take (n + 1) ≠ [] := by
    intro n hn
    have key : ∀ n : Nat, n < 4 → fourN.take (n + 1) ≠ [] := by decide +kernel
    refine ⟨?_, key n hn⟩
    rcases n with _ | _ | _ | _ | n
    · rfl
    · rfl
    · rfl
    · rfl
    · omega
  obtain ⟨n, rfl⟩ : ∃ n : Nat, r = (n : Int) := ⟨r.toNat, by omega⟩
  exact h n (by omega)
section
variable {P : Program} {w : World} {K : PySem.W.Frag} {mg : Str → Option Value} {base : Heap}
structure LbI (K : PySem.W.Frag) (b q lb : Addr) (nm : List Str) (H0 : Hp) (c j : Nat) (bs : List Bd) (xs : List V) (Hj : Hp) : Prop where
  sm : SameB b H0 Hj
  bag : BagAt Hj b c
  nms : Hj q = some (.lst (nm.map V.str))
  lst : Hj lb = some (.lst xs)
  its : DqAll K (hid [lb, b] Hj) xs (bs.map (encB true))
  len : bs.length = j
  ok : ∀ bd ∈ bs, bd.1 ∈ fourN ∧ bd.2.1 ∈ fourN
def spLBs (K : PySem.W.Frag) : Sp := fun vs H Q _ => ∃ (bx : Addr) (n : Nat), vs = [.ref bx] ∧ n ≤ 500000 ∧ BagAt H bx n ∧
  ∀ bs l xs H1, SameB bx H H1 → BagAt H1 bx (n + 30) → H l = none → l ≠ bx → H1 l = some (.lst xs) → DqAll K (hid [bx] H1) xs (bs.map (encB true)) → B4 bs → 1 ≤ bs.length → Q (.ref l) H1
theorem ok_lbs {fT f : Addr} {gT fd : FuncData} (T : Nm mg) (GT : FnOk P w K mg base CX0 1 fT gT ["_law_box_here", "_law_many"] spTake) (FT : Df K mg "_law_take" sTake ["_law_box_here", "_law_many"] fT gT) (F : Df K mg "_law_bounds" sLBs ["_law_box_here"] f fd) : FnOk P w K mg base CX0 2 f fd ["_law_box_here"] (spLBs K) := by
  refine F.F.ok scLBs (fun vs H Q E h => ?_) (fun cdv A outer sh H vs Q E hr h => ?_)
  · obtain ⟨bx, n, rfl, _⟩ := h; rfl
  · obtain ⟨bx, n, rfl, hn, hB, q⟩ := h
    refine rb_setR 1 (re_cutHi (xs := fourN.map V.str) (XL.go (M := []) (xl_lst Live.nil (xa_cons xd_str (xa_cons xd_str (xa_cons xd_str (xa_cons xd_str xa_nil))))) fun p xs H2 s2 hp h2 hx => ⟨p, rfl, re_addI (XV.go xv_int fun H3 s3 => ⟨1, rfl, re_take (many := 4) (n := n) GT FT hr (xv_name 0 rfl) xv_int (hB.up (s2.trans s3) (Nat.le_refl _)) fun r H4 r0 r1 sB4 hB4 => ⟨r, rfl, 1 + r, rfl, ?_, fun qn hqn => ?_⟩⟩)⟩)) scLBs.nd
    · have exs : xs = fourN.map V.str := by
        cases hx with
        | cons a1 hx => cases hx with
          | cons a2 hx => cases hx with
            | cons a3 hx => cases hx with
              | cons a4 hx =>
                cases hx
                rw [dp_str a1, dp_str a2, dp_str a3, dp_str a4]
                rfl
      subst exs
      have hpb : p ≠ bx := fun e => by rw [e] at hp; exact hB.some hp
      exact sB4 p _ hpb (s3 _ _ h2)
    obtain ⟨ecut, hne⟩ := four_take r r0 r1
    rw [ecut]
    have hin : ∀ x ∈ fourN.take (r.toNat + 1), x ∈ fourN := fun x hx => List.mem_of_mem_take hx
    have hl4 : (fourN.take (r.toNat + 1)).length ≤ 4 := by rw [List.length_take]; exact Nat.min_le_right _ _
    generalize fourN.take (r.toNat + 1) = nm at hne hin hl4
    have SB4 : SameB bx H H4 := (SameB.of (s2.trans s3)).trans sB4
    have hqb : qn ≠ bx := fun e => by rw [e] at hqn; exact hB4.some hqn
    have SB5 : SameB bx H (upd H4 qn (.lst (nm.map V.str))) := SB4.trans (.of (same_new hqn))
    have hB5 : BagAt (upd H4 qn (.lst (nm.map V.str))) bx (n + 1) := hB4.up (same_new hqn) (Nat.le_refl _)
    have hq5 : (upd H4 qn (.lst (nm.map V.str))) qn = some (.lst (nm.map V.str)) := upd_same
    show RB _ _ _ _ (upd H4 qn (.lst (nm.map V.str)))
    generalize upd H4 qn (.lst (nm.map V.str)) = H5 at SB5 hB5 hq5
    refine rb_setR 2 (XL.go (M := []) (xl_lst Live.nil xa_nil) fun lb xs0 H6 s6 hlb h6 hx6 => ?_) scLBs.nd
    cases hx6
    have hlbb : lb ≠ bx := fun e => by rw [e] at hlb; exact hB5.some hlb
    have hql : qn ≠ lb := fun e => by rw [← e, hq5] at hlb; cases hlb
    have hlb0 : H lb = none := by
      cases z : H lb with
      | none => rfl
      | some o => rw [SB5 lb o hlbb z] at hlb; cases hlb
    have hne' : nm.map PyData.str ≠ [] := fun e => hne (List.map_eq_nil_iff.mp e)
    refine rb_range T.rng (re_addI (XV.go xv_int fun Ha sa => ⟨1, rfl, re_take (many := 8) (n := n + 1) GT FT hr (xv_name 0 rfl) xv_int (hB5.up (s6.trans sa) (Nat.le_refl _)) fun r2 Hb r0 r1 sBb hBb => ⟨r2, rfl, (1 + r2).toNat, by rw [Int.toNat_of_nonneg (by omega)], by omega, fun j σ' Hj => ∃ bs xs v3 v4 v5, σ' = [some (.ref bx), some (.ref qn), some (.ref lb), v3, v4, v5] ∧ LbI K bx qn lb nm H (n + 2 + 3 * j) j bs xs Hj, ?l0, fun j σ' Hj hj w => ?lst, fun σ' Hj w => ?ldone⟩⟩))
    case l0 =>
      have s6a := s6.trans sa
      exact ⟨[], [], _, _, _, rfl, (SB5.trans (.of s6a)).trans sBb, hBb, sBb _ _ hqb (s6a _ _ hq5), sBb _ _ hlbb (sa _ _ h6), .nil, rfl, by simp⟩
    case ldone =>
      obtain ⟨bs, xs, v3, v4, v5, rfl, hI⟩ := w
      refine rb_retR (XV.go (xv_name 2 rfl) fun Hc sc => ?_)
      have hl := hI.len
      exact q bs lb xs Hc (hI.sm.trans (.of sc)) (hI.bag.up sc (by omega)) hlb0 hlbb (sc _ _ hI.lst) (hI.its.up (fun a o e => hid_mono sc _ _ (hid_less (by simp) _ _ e))) ⟨by omega, hI.ok⟩ (by omega)
    case lst =>
      obtain ⟨bs, xs, v3, v4, v5, rfl, hI⟩ := w
      have hl := hI.len
      refine rg_name 3 ?_ scLBs.nd
      have Lv : Live [lb, bx] Hj := fun a ha => by
        simp only [List.mem_cons, List.not_mem_nil, or_false] at ha
        rcases ha with e | e
        · rw [e, hI.lst]; simp
        · rw [e]; exact hI.bag.some
      have hN : Dq K (hid [lb, bx] Hj) (.ref qn) (.list (nm.map PyData.str)) := .lst (by rw [hid_of (by simp [hql, hqb])]; exact hI.nms) (strs_q nm)
      have hb : bx ∈ [lb, bx] := by simp
      refine rb_parR 4 5 (ra_cons (re_pick (M := [lb, bx]) (ds := nm.map PyData.str) GT FT hr T.len hb (xd_name 1 rfl hN) (xd_name 1 rfl hN) (xv_name 0 rfl) hI.bag hne' (by rw [List.length_map]; omega) fun d1 u1 H1 hd1 hu1 sB1 hB1 =>
        ra_1 (re_pick (M := [lb, bx]) (ds := nm.map PyData.str) (n := n + 2 + 3 * j + 1) GT FT hr T.len hb (xd_name 1 rfl (hN.up (sB1.hid hb))) (xd_name 1 rfl (hN.up (sB1.hid hb))) (xv_name 0 rfl) hB1 hne' (by rw [List.length_map]; omega) fun d2 u2 H2 hd2 hu2 sB2 hB2 => ⟨u1, u2, rfl, ?_⟩))) scLBs.nd
      obtain ⟨x, hx, rfl⟩ := List.mem_map.mp hd1
      obtain ⟨y, hy, rfl⟩ := List.mem_map.mp hd2
      rw [dp_str hu1, dp_str hu2]
      have sB02 := sB1.trans sB2
      refine rb_exprR ⟨_, pe_bm PySem.F.plainAttrs_list PySem.F.slot_list_append PySem.F.type_list_append mt_append re_ ra_ rfl rfl rfl rfl rfl, XV.go (xv_name 2 rfl) fun Ha sa => ⟨.inl ⟨rfl, xs, SqL.of (sa _ _ (sB02 _ _ hlbb hI.lst))⟩, ra_1 ⟨_, pe_tup ra_, ra_cons (XV.go (xv_name 4 rfl) fun Hb sb => ra_cons (XV.go (xv_name 5 rfl) fun Hc sc => ra_1 (re_subI (re_take (many := 9) (n := n + 2 + 3 * j + 1 + 1) GT FT hr (xv_name 0 rfl) xv_int (hB2.up ((sa.trans sb).trans sc) (Nat.le_refl _)) fun k Hd k0 k1 sBd hBd => ⟨k, rfl, XV.go xv_int fun He se => ⟨5, rfl, by show 3 ≤ sizeLine; decide, fun t ht => ?_⟩⟩))))⟩⟩⟩
      have SBe : SameB bx Hj He := ((sB02.trans (.of ((sa.trans sb).trans sc))).trans sBd).trans (.of se)
      have hle : He lb = some (.lst xs) := SBe _ _ hlbb hI.lst
      have htl : t ≠ lb := fun e => by rw [e, hle] at ht; cases ht
      have htb : t ≠ bx := fun e => by rw [e] at ht; exact (hBd.up se (Nat.le_refl _)).some ht
      have hxl : xs.length < sizeLine := by
        rw [dpa_len hI.its, List.length_map]
        exact Nat.lt_of_lt_of_le (show bs.length < 1000 by omega) (by decide)
      refine ⟨lb, xs, .ref t, rfl, rfl, by rw [upd_ne (Ne.symm htl)]; exact hle, hxl, ?_⟩
      have SBt : SameB bx Hj (upd He t (.tup [.str x, .str y, .int (k - 5)])) := SBe.trans (.of (same_new ht))
      have hBt : BagAt (upd He t (.tup [.str x, .str y, .int (k - 5)])) bx (n + 2 + 3 * (j + 1)) := hBd.up (se.trans (same_new ht)) (by omega)
      have htt : (upd He t (.tup [.str x, .str y, .int (k - 5)])) t = some (.tup [.str x, .str y, .int (k - 5)]) := upd_same
      show RB _ _ _ _ (upd (upd He t (.tup [.str x, .str y, .int (k - 5)])) lb (.lst (xs ++ [.ref t])))
      generalize upd He t (.tup [.str x, .str y, .int (k - 5)]) = Hf at SBt hBt htt
      refine rb_nil ⟨bs ++ [(x, y, k - 5)], xs ++ [.ref t], _, _, _, rfl, fun a o na e => ?_, bag_upd hBt (Ne.symm hlbb), ?_, upd_same, ?_, by rw [List.length_append, hl]; rfl, fun bd hbd => ?_⟩
      · rw [upd_ne (fun z => by rw [z, hlb0] at e; cases e)]
        exact SBt a o na (hI.sm a o na e)
      · rw [upd_ne hql]; exact SBt _ _ hqb hI.nms
      · rw [hid_upd_mem (List.mem_cons_self ..), List.map_append]
        refine dpa_app (hI.its.up (SBt.hid hb)) (.cons ?_ .nil)
        exact .tup (SqT.of (by rw [hid_of (by simp [htl, htb])]; exact htt)) (.cons (.str _) (.cons (.str _) (.cons (.int _) .nil)))
      · rcases List.mem_append.mp hbd with z | z
        · exact hI.ok bd z
        · rw [List.mem_singleton.mp z]
          exact ⟨hin x hx, hin y hy⟩
end
end Zn

set_option Elab.async false
set_option linter.all false
set_option maxRecDepth 100000
set_option maxHeartbeats 8000000
namespace Dl
open PySem PySem.Spec PyProof.Rows L2
section
variable {X : Cx} {M : List Addr} {σ : L2.St} {H : Hp} {e a elt tg : Expr} {p1 p2 p3 pos : Pos} {scope : Scope} {own : List (Str × Nat)} {ds : List PyData} {Q : VK}
/-- [.. for tg in range(a)], with what is kept -/
theorem re_lcRg (hm : X.mg "range" = none) (hN : X.N.Nodup) (ok : BlkOk X.N X.env.scope scope own) (h : RE X a σ H fun v H1 => ∃ n : Nat, v = .int (n : Int) ∧ n ≤ 1000 ∧ ∀ p, H1 p = none → ∃ Pv : Nat → List V → Hp → Prop, Pv 0 [] (upd H1 p (.lst [])) ∧
      (∀ i acc H', i < n → Pv i acc H' → BG X scope tg (.int (i : Int)) (wipe σ (own.map (·.2))) H' fun σ2 H2 => wipe σ2 (own.map (·.2)) = wipe σ (own.map (·.2)) ∧ BE X scope elt σ2 H2 fun y H4 => H4 p = some (.lst acc) ∧ acc.length < sizeLine ∧ Pv (i + 1) (acc ++ [y]) (upd H4 p (.lst (acc ++ [y])))) ∧
      ∀ acc H', Pv n acc H' → Q (.ref p) H') (hc : X.calm = true := by rfl) (hg : Gl X "range" := by rfl) (he : starEach [a] X.env = (false, eval a X.env) :: starEach [] X.env := by rfl) (he1 : starEach [a] X.env = [(false, eval a X.env)] := by rfl) (hs : ∀ x, foldedSetIterable (.Call (.Name "range" p1) [a] [] p2) X.env x = pure x := by intro _; rfl) :
    RE X (.ListComp elt [⟨tg, .Call (.Name "range" p1) [a] [] p2, [], 0⟩] scope pos) σ H Q :=
  ⟨_, pe_lc (own := own) hc hN (pi_range1 hg hm ra_ he1) ok (fun _ _ _ _ _ => bg_) (fun _ _ _ _ _ => bt_) (fun _ _ _ _ _ => be_) hs, ra_1 (re_mono h fun v H1 ⟨n, ev, hn, k⟩ => by
    refine ⟨(n : Int), by rw [ev], by omega, by omega, fun p hp => ?_⟩
    obtain ⟨Pv, h0, hst, hd⟩ := k p hp
    refine lc_range (lo := 0) (n := (n : Int).toNat) (fun i H' => ∃ acc, Pv i acc H') ⟨[], h0⟩ (fun i H' hi ⟨acc, w⟩ => ?_) (fun H' ⟨acc, w⟩ => ?_)
    · have e0 : (0 : Int) + (i : Int) = (i : Int) := Int.zero_add _
      rw [e0]
      exact bg_mono (hst i acc H' (by omega) w) fun σ2 H2 ⟨hw, hbe⟩ => ⟨hw, bt_nil (iteT (be_mono hbe fun y H4 ⟨e1, e2, e3⟩ => ⟨acc, e1, e2, acc ++ [y], e3⟩))⟩
    · rw [Int.toNat_natCast] at w
      exact hd acc H' w) he⟩
theorem dpa_rev {K : PySem.W.Frag} : ∀ {es : List PyData} {vs : List V}, DqAll K H vs es → DqAll K H vs.reverse es.reverse
  | _, _, .nil => .nil
  | _, _, .cons a t => by
    rw [List.reverse_cons, List.reverse_cons]
    exact dpa_app (dpa_rev t) (.cons a .nil)
/-- a[::-1] -/
theorem xl_rev {j : _} (L : Live M H) (ha : XD X M σ H a (.list ds)) : XL X M σ H (.Subscript a (.Slice none none (some (.UnaryOp .USub (.Constant (.int 1) j p1) p2)) p3) pos) ds.reverse := fun H1 s Q q =>
  ⟨_, pe_revL re_, ha H1 s _ fun v H2 s2 hv => by
    obtain ⟨p, xs, rfl, hp, hx⟩ := dp_lst hv
    refine ⟨p, xs, rfl, SqL.of (hid_le _ _ hp), fun l hl => q l _ _ (s2.trans (same_new hl)) (s2.free hl) upd_same ?_⟩
    rw [hid_new (L.mono (s.trans s2)) hl]
    exact dpa_rev (hx.up (same_new (hid_free hl)))⟩
end
end Dl
namespace Zn
open PySem PySem.Spec PyProof.Rows L2 Dl
/-! k16: the law's own rows -/
abbrev sRows : Stmt := top 33
abbrev nRows : List Str := ["_law_box_here", "_law_bounds_here", "_law_told", "_law_found", "_law_row", "_law_at", "_law_odd", "_law_lap"]
theorem scRows : FnScope nRows ["_law_box_here", "_law_bounds_here"] (defScope sRows) := ⟨rfl, rfl, rfl, by decide +kernel, rfl, by decide +kernel, by decide +kernel⟩
theorem hid_add {b p : Addr} {H : Hp} (hp : H p = none) : Same (hid [b] H) (hid [p, b] H) := fun a o e => by
  have nb : a ≠ b := fun z => by unfold hid at e; rw [if_pos (by simp [z])] at e; cases e
  have e2 := hid_le _ _ e
  have np : a ≠ p := fun z => by rw [z, hp] at e2; cases e2
  rw [hid_of (by simp [nb, np])]
  exact e2
def ok1 (row : List PyData) : Prop := row.length ≤ 200 ∧ ∀ d ∈ row, flk d = true
theorem ok1_app {a b : List PyData} (ha : ok1 a) (hb : ok1 b) (h : a.length + b.length ≤ 200) : ok1 (a ++ b) := ⟨by rw [List.length_append]; exact h, fun d hd => (List.mem_append.mp hd).elim (ha.2 d) (hb.2 d)⟩
theorem cut_sub {ds : List PyData} {m n : Option Int} : ∀ d ∈ Dl.cutD ds m n, d ∈ ds := fun d hd => List.mem_of_mem_drop (List.mem_of_mem_take hd)
theorem cut_len {ds : List PyData} {m n : Option Int} : (Dl.cutD ds m n).length ≤ ds.length := by
  unfold Dl.cutD
  rw [List.length_take, List.length_drop]
  omega
theorem ok1_cut {ds : List PyData} {m n : Option Int} (h : ok1 ds) : ok1 (Dl.cutD ds m n) := ⟨Nat.le_trans cut_len h.1, fun d hd => h.2 d (cut_sub d hd)⟩
theorem ok1_ints {ns : List Int} (h : ns.length ≤ 200) : ok1 (ns.map PyData.int) := ⟨by rw [List.length_map]; exact h, flk_ints⟩
/-- a row to begin with: whole numbers, not empty -/
def Base1 (d : PyData) : Prop := ∃ ns : List Int, d = .list (ns.map PyData.int) ∧ 1 ≤ ns.length ∧ ns.length ≤ 40
section
variable {P : Program} {w : World} {K : PySem.W.Frag} {mg : Str → Option Value} {base : Heap}
theorem ints_dq {H : Hp} : ∀ ns : List Int, DqAll K H (ns.map V.int) (ns.map PyData.int)
  | [] => .nil
  | n :: ns => .cons (.int n) (ints_dq ns)
structure RwI (K : PySem.W.Frag) (b : Addr) (H0 : Hp) (c : Nat) (k : Nat) (lF : Addr) (rows : List (List PyData)) (xs : List V) (H' : Hp) : Prop where
  sm : SameB b H0 H'
  bag : BagAt H' b c
  ne : lF ≠ b
  lst : H' lF = some (.lst xs)
  its : DqAll K (hid [b] H') xs (rows.map PyData.list)
  ok : ∀ row ∈ rows, ok1 row
  len : rows.length ≤ 2 + 6 * k
def spRows (K : PySem.W.Frag) : Sp := fun vs H Q _ => ∃ (bx : Addr) (vB : V) (n : Nat) (bs : List Bd), vs = [.ref bx, vB] ∧ n ≤ 400000 ∧ BagAt H bx n ∧ Dq K (hid [bx] H) vB (encBs false true bs) ∧ B4 bs ∧ 1 ≤ bs.length ∧
  ∀ rows l xs H1, RwI K bx H (n + 20) 2 l rows xs H1 → Q (.ref l) H1
theorem pick7 {l : Nat} {r0 : Int} {r : Int} (h0 : 0 ≤ r) (h1 : r < 7) : ∃ d, atI [PyData.int (0 - 1), .int (l : Int), .bool true, .none, .str "0", .int (r0 + 0), .int 0] r = some d ∧ flk d = true := by
  have e : r = 0 ∨ r = 1 ∨ r = 2 ∨ r = 3 ∨ r = 4 ∨ r = 5 ∨ r = 6 := by omega
  rcases e with rfl | rfl | rfl | rfl | rfl | rfl | rfl
  · exact ⟨_, rfl, flk_int _⟩
  · exact ⟨_, rfl, flk_int _⟩
  · exact ⟨_, rfl, by decide +kernel⟩
  · exact ⟨_, rfl, by decide +kernel⟩
  · exact ⟨_, rfl, by decide +kernel⟩
  · exact ⟨_, rfl, flk_int _⟩
  · exact ⟨_, rfl, flk_int _⟩
theorem ok_rows {fT fS f : Addr} {gT gS fd : FuncData} (T : Nm mg) (GT : FnOk P w K mg base CX0 1 fT gT ["_law_box_here", "_law_many"] spTake) (FT : Df K mg "_law_take" sTake ["_law_box_here", "_law_many"] fT gT) (hS : Hs P w K mg base CX0 4 "settle" ["bounds"] (spSettle K) fS gS)
    (F : Df K mg "_law_rows" sRows ["_law_box_here", "_law_bounds_here"] f fd) : FnOk P w K mg base CX0 5 f fd ["_law_box_here", "_law_bounds_here"] (spRows K) := by
  refine F.F.ok scRows (fun vs H Q E h => ?_) (fun cdv A outer sh H vs Q E hr h => ?_)
  · obtain ⟨bx, vB, n, bs, rfl, _⟩ := h; rfl
  · obtain ⟨bx, vB, n, bs, rfl, hn, hB, hv, okB, hl1, q⟩ := h
    have hr1 := hr.mono (show 1 ≤ 4 by decide)
    have hb : bx ∈ [bx] := by simp
    have hbl := okB.len
    have Lv : ∀ {Hx : Hp} {m : Nat}, BagAt Hx bx m → Live [bx] Hx := fun h a ha => by rw [List.mem_singleton.mp ha]; exact h.some
    -- what settle told
    have key : ∀ (H2 : Hp) (t r : Addr) (z : Str) (ring : List Int), Same H H2 → H2 t = some (.tup [.str z, .ref r]) → (z = "ring" → r ≠ bx ∧ H2 r = some (.lst (ring.map V.int)) ∧ 1 ≤ ring.length ∧ ring.length ≤ 40) → (z = "ring" ∨ z = "values") →
        RB (cxOf CX0 P w K mg base nRows "_law_rows" (defScope sRows) f cdv A outer sh H E).nox ((defBody sRows).drop 1) { nx := fun _ H1 => Q .non H1, rt := Q } [some (.ref bx), some vB, some (.ref t), none, none, none, none, none] H2 := by
      intro H2 t r z ring s02 ht hz hzz
      have hB2 : BagAt H2 bx n := hB.up s02 (Nat.le_refl _)
      have hv2 := hv.up (hid_mono (M := [bx]) s02)
      refine rb_setR 3 ⟨_, pe_lst ra_, ra_1 (re_lcRg (own := [("_law_lap", 7)]) T.rng scRows.nd (blkOk_by (own := [("_law_lap", 7)]) (N := nRows) (sc := defScope sRows) (by decide +kernel)) (re_addI (XV.go xv_int fun H3 s3 => ⟨1, rfl, re_take (many := 3) (n := n) GT FT hr1 (xv_name 0 rfl) xv_int (hB2.up s3 (Nat.le_refl _)) fun r3 H4 r0 r1 sB4 hB4 => ⟨r3, rfl, (1 + r3).toNat, by rw [Int.toNat_of_nonneg (by omega)], by omega, fun p hp => ⟨fun i acc H' => SameB bx H2 H' ∧ BagAt H' bx (n + 1 + i) ∧ H' p = some (.lst acc) ∧ ∃ ns : List Int, acc = ns.map V.int ∧ ns.length = i, ?p0, fun i acc H' hi w => ?pst, fun acc H' w => ?pd⟩⟩⟩)))⟩ scRows.nd
      case p0 => exact ⟨((SameB.of s3).trans sB4).trans (.of (same_new hp)), hB4.up (same_new hp) (Nat.le_refl _), upd_same, [], rfl, rfl⟩
      case pst =>
        obtain ⟨sX, hBX, hpX, ns, ea, el⟩ := w
        have hpb : p ≠ bx := fun e => by rw [e] at hp; exact hB4.some hp
        intro s0 H0 C0 cl fp
        refine rg_name 7 ⟨rfl, fun s0 H0 C0 cl fp => ?_⟩ scRows.nd
        refine re_take (many := (bs.length : Int)) (n := n + 1 + i) GT FT hr1 (xv_name 0 rfl) (XD.vint (M := [bx]) ((xd_lenQ (k := false) T.len (xd_name 1 rfl (hv2.up (sX.hid hb)))).to (by rw [List.length_map]))) hBX (fun r5 H5 r50 r51 sB5 hB5 => ⟨sB5 _ _ hpb hpX, ?_, fun a o na e => ?_, bag_upd hB5 (Ne.symm hpb), upd_same, ns ++ [r5], by rw [ea, List.map_append]; rfl, by rw [List.length_append, el]; rfl⟩) (by omega) (by omega)
        · rw [ea, List.length_map, el]
          exact Nat.lt_trans (show i < 1000 by omega) (by decide)
        · have hp2 : H2 p = none := by
            cases z : H2 p with
            | none => rfl
            | some o => rw [sB4 p o hpb (s3 _ _ z)] at hp; cases hp
          rw [upd_ne (fun z => by rw [z, hp2] at e; cases e)]
          exact sB5 a o na (sX a o na e)
      case pd =>
        obtain ⟨sX, hBX, hpX, ns, ea, el⟩ := w
        refine ⟨by show 1 ≤ sizeLine; decide, fun l0 hl0 => ?_⟩
        have hpb : p ≠ bx := fun e => by rw [e] at hp; exact hB4.some hp
        have hlb : l0 ≠ bx := fun e => by rw [e] at hl0; exact hBX.some hl0
        have hlp : p ≠ l0 := fun e => by rw [← e, hpX] at hl0; cases hl0
        have SB6 : SameB bx H2 (upd H' l0 (.lst [.ref p])) := sX.trans (.of (same_new hl0))
        have hB6 : BagAt (upd H' l0 (.lst [.ref p])) bx (n + 4) := hBX.up (same_new hl0) (by omega)
        have hD6 : Dq K (hid [bx] (upd H' l0 (.lst [.ref p]))) (.ref l0) (.list [.list (ns.map PyData.int)]) := .lst (by rw [hid_of (by simp [hlb])]; exact upd_same) (.cons (.lst (by rw [hid_of (by simp [hpb]), upd_ne hlp]; rw [hpX, ea]) (ints_dq ns)) .nil)
        have hnl : 1 ≤ ns.length ∧ ns.length ≤ 3 := by omega
        show RB _ _ _ _ (upd H' l0 (.lst [.ref p]))
        generalize upd H' l0 (.lst [.ref p]) = H6 at SB6 hB6 hD6
        have ht6 : H6 t = some (.tup [.str z, .ref r]) := SB6 t _ (fun e => by obtain ⟨_, _, _, e1, _⟩ := hB2; rw [e, e1] at ht; cases ht) ht
        have hv6 := hv2.up (SB6.hid hb)
        -- the loop
        have loop : ∀ (nss : List (List Int)) (l1 : Addr) (xs1 : List V) (H7 : Hp), (∀ ns ∈ nss, 1 ≤ ns.length ∧ ns.length ≤ 40) → nss.length ≤ 2 → SameB bx H H7 → BagAt H7 bx (n + 4) → l1 ≠ bx → H7 l1 = some (.lst xs1) → DqAll K (hid [bx] H7) xs1 (nss.map fun ns => .list (ns.map PyData.int)) →
            RB (cxOf CX0 P w K mg base nRows "_law_rows" (defScope sRows) f cdv A outer sh H E).nox ((defBody sRows).drop 3) { nx := fun _ H1 => Q .non H1, rt := Q } [some (.ref bx), some vB, some (.ref t), some (.ref l1), none, none, none, none] H7 := by
          intro nss l1 xs1 H7 hns hnl2 SB7 hB7 ne7 hl7 hx7
          have hD7 : Dq K (hid [bx] H7) (.ref l1) (.list (nss.map fun ns => .list (ns.map PyData.int))) := .lst (by rw [hid_of (by simp [ne7])]; exact hl7) hx7
          refine rb_for (M := [bx]) (XL.dd (xl_listL T.lst (Lv hB7) (xd_name 3 rfl hD7)) (Lv hB7)) fun H8 s8 => ⟨fun k σ' H' => SameB bx H8 H' ∧ ∃ lF xs rows v4 v5 v6, σ' = [some (.ref bx), some vB, some (.ref t), some (.ref lF), v4, v5, v6, none] ∧ RwI K bx H (n + 4 + 2 * k) k lF rows xs H', ?b0, fun k σ' H' w => w.1.hid hb, fun k d hd σ' H' v w hv' => ?bst, fun σ' H' w => ?bd⟩
          case b0 =>
            refine ⟨.of (Same.refl _), l1, xs1, nss.map fun ns => ns.map PyData.int, _, _, _, rfl, SB7.trans (.of s8), hB7.up s8 (by omega), ne7, s8 _ _ hl7, ?_, fun row hrow => ?_, by rw [List.length_map]; omega⟩
            · rw [List.map_map]
              exact hx7.up (hid_mono s8)
            · obtain ⟨ns, hm, rfl⟩ := List.mem_map.mp hrow
              exact ok1_ints (by have := hns ns hm; omega)
          case bd =>
            obtain ⟨sX, lF, xs, rows, v4, v5, v6, rfl, hI⟩ := w
            refine rb_retR (XV.go (xv_name 3 rfl) fun Hc sc => q rows lF xs Hc ⟨hI.sm.trans (.of sc), hI.bag.up sc (by rw [List.length_map]; omega), hI.ne, sc _ _ hI.lst, hI.its.up (hid_mono sc), hI.ok, ?_⟩)
            have := hI.len
            rw [List.length_map] at this
            omega
          case bst =>
            obtain ⟨sX, lF, xs, rows, v4, v5, v6, rfl, hI⟩ := w
            have hk2 : k < nss.length := by
              have := (List.getElem?_eq_some_iff.mp hd).1
              rwa [List.length_map] at this
            rw [List.getElem?_map] at hd
            obtain ⟨ns, hns1, rfl⟩ := Option.map_eq_some_iff.mp hd
            obtain ⟨ln1, ln2⟩ := hns ns (List.mem_of_getElem? hns1)
            have hbag := hI.bag
            have hvB : Dq K (hid [bx] H') vB (encBs false true bs) := hv.up (hI.sm.hid hb)
            refine rg_name 4 ?_ scRows.nd
            refine rb_setR 5 (re_take (many := (ns.length : Int)) (n := n + 4 + 2 * k) GT FT hr1 (xv_name 0 rfl) (XD.vint (M := [bx]) ((xd_len T.len (xd_name 4 rfl hv')).to (by rw [List.length_map]))) hbag (fun at_ Ha a0 a1 sBa hBa => ?_) (by omega) (by omega)) scRows.nd
            have hva := hv'.up (sBa.hid hb)
            have hvBa := hvB.up (sBa.hid hb)
            have hat : atI (ns.map PyData.int) at_ = some (.int (ns[at_.toNat]'(by omega))) := by
              rw [at_any' a0 (by rw [List.length_map]; omega), List.getElem_map]
            have hat0 : atI (ns.map PyData.int) 0 = some (.int (ns[0]'(by omega))) := by
              rw [at_any' (Int.le_refl 0) (by rw [List.length_map]; show 0 < ns.length; omega)]
              simp
            refine rb_setR 6 ⟨_, pe_ix ix_list re_ re_ (fun _ _ => rfl), XL.go (xl_lst (Lv hBa) (xa_cons (xd_sub xd_int xd_int) (xa_cons ((xd_lenQ (k := false) T.len (xd_name 1 rfl hvBa)).to (by rw [List.length_map])) (xa_cons xd_bl (xa_cons xd_non (xa_cons xd_str (xa_cons (xd_add (xd_ixL (fun _ _ => rfl) (xd_name 4 rfl hva) (xv_name 5 rfl).int hat) xd_int) (xa_cons xd_int xa_nil))))))) (by show 7 ≤ 100000; decide)) fun p7 xs7 Hb sb hp7 h7 hx7' => re_take (many := 7) (n := n + 4 + 2 * k + 1) GT FT hr1 (xv_name 0 rfl) xv_int (hBa.up sb (Nat.le_refl _)) fun r Hc r0 r1 sBc hBc => ?_⟩ scRows.nd
            obtain ⟨d, hd7, hfd⟩ := pick7 (l := bs.length) (r0 := ns[at_.toNat]'(by omega)) r0 r1
            have hx7c := hx7'.up (sBc.hid hb)
            obtain ⟨u, hu, hdu⟩ := atI_map (dpa_len hx7c) (fun i y h => dpa_get hx7c h) hd7
            have hp7b : p7 ≠ bx := fun e => by rw [e] at hp7; exact hBa.some hp7
            refine ⟨p7, xs7, r, u, rfl, rfl, SqL.of (sBc _ _ hp7b h7), hu, ?_⟩
            have sBac : SameB bx H' Hc := (sBa.trans (.of sb)).trans sBc
            have hvc := hv'.up (sBac.hid hb)
            have hlc : Hc lF = some (.lst xs) := sBac _ _ hI.ne hI.lst
            have hic := hI.its.up (sBac.hid hb)
            have Lc := Lv hBc
            have lnI : (ns.map PyData.int).length ≤ 40 := by rw [List.length_map]; exact ln2
            -- five rows more
            refine rb_setR 3 (re_bin op_cat (XV.go (xv_name 3 rfl) fun Hd sd => XL.go (xl_lst (Lc.mono sd) (xa_cons (XL.dd (xl_cat (Lc.mono sd) (xd_name 4 rfl (hvc.up (hid_mono sd))) (xd_name 4 rfl (hvc.up (hid_mono sd))) (by omega)) (Lc.mono sd))
              (xa_cons (XL.dd (xl_cat (Lc.mono sd) (XL.dd (xl_cut (Lc.mono sd) (xd_name 4 rfl (hvc.up (hid_mono sd))) (xo_some (M := [bx]) xd_int) xo_none) (Lc.mono sd)) (XL.dd (xl_cut (Lc.mono sd) (xd_name 4 rfl (hvc.up (hid_mono sd))) xo_none (xo_some (M := [bx]) xd_int)) (Lc.mono sd)) ?z1) (Lc.mono sd))
              (xa_cons (XL.dd (xl_cat (Lc.mono sd) (XL.dd (xl_cut (Lc.mono sd) (xd_name 4 rfl (hvc.up (hid_mono sd))) xo_none (xo_some (M := [bx]) (xv_name 5 rfl).int)) (Lc.mono sd)) (XL.dd (xl_cut (Lc.mono sd) (xd_name 4 rfl (hvc.up (hid_mono sd))) (xo_some (M := [bx]) (xd_add (xv_name 5 rfl).int xd_int)) xo_none) (Lc.mono sd)) ?z2) (Lc.mono sd))
              (xa_cons (XL.dd (xl_rev (Lc.mono sd) (xd_name 4 rfl (hvc.up (hid_mono sd)))) (Lc.mono sd))
              (xa_cons (XL.dd (xl_cat (Lc.mono sd) (xd_name 4 rfl (hvc.up (hid_mono sd))) (xd_lst (Lc.mono sd) (xa_cons (xd_ixL (fun _ _ => rfl) (xd_name 4 rfl (hvc.up (hid_mono sd))) xd_int hat0) xa_nil)) ?z3) (Lc.mono sd)) xa_nil))))) (by show 5 ≤ 100000; decide)) fun l2 xs2 He se hl2 h2 hx2 => ⟨lF, l2, xs, xs2, rfl, rfl, se _ _ (sd _ _ hlc), h2, ?z4, fun p hp => ?_⟩)) scRows.nd
            case z1 => have h1 := cut_len (ds := ns.map PyData.int) (m := some 1) (n := none); have h2 := cut_len (ds := ns.map PyData.int) (m := none) (n := some 1); omega
            case z2 => have h1 := cut_len (ds := ns.map PyData.int) (m := none) (n := some at_); have h2 := cut_len (ds := ns.map PyData.int) (m := some (at_ + 1)) (n := none); omega
            case z3 => show (ns.map PyData.int).length + 1 ≤ 100000; omega
            case z4 =>
              have e1 := dpa_len hI.its
              have e2 := dpa_len hx2
              have e3 := hI.len
              rw [List.length_map] at e1
              have e4 : xs2.length = 5 := e2
              exact small_sz (by omega)
            have sce := sd.trans se
            have SBe : SameB bx H' He := sBac.trans (.of sce)
            have hBe : BagAt He bx (n + 4 + 2 * k + 1 + 1) := hBc.up sce (Nat.le_refl _)
            have hpb : p ≠ bx := fun e => by rw [e] at hp; exact hBe.some hp
            have hup : Same (hid [bx] Hc) (hid [p, bx] (upd He p (.lst (xs ++ xs2)))) := fun a o e => by
              rw [hid_upd_mem (List.mem_cons_self ..)]
              exact hid_add hp _ _ (hid_mono sce _ _ e)
            have hup2 : Same (hid [bx] He) (hid [p, bx] (upd He p (.lst (xs ++ xs2)))) := fun a o e => by
              rw [hid_upd_mem (List.mem_cons_self ..)]
              exact hid_add hp _ _ e
            have hv9 : Dq K (hid [p, bx] (upd He p (.lst (xs ++ xs2)))) v (.list (ns.map PyData.int)) := hvc.up hup
            have hu9 : Dq K (hid [p, bx] (upd He p (.lst (xs ++ xs2)))) u d := hdu.up hup
            have hit9 : DqAll K (hid [p, bx] (upd He p (.lst (xs ++ xs2)))) (xs ++ xs2) (rows.map PyData.list ++ [.list (ns.map PyData.int ++ ns.map PyData.int), .list (Dl.cutD (ns.map PyData.int) (some 1) none ++ Dl.cutD (ns.map PyData.int) none (some 1)), .list (Dl.cutD (ns.map PyData.int) none (some at_) ++ Dl.cutD (ns.map PyData.int) (some (at_ + 1)) none), .list (ns.map PyData.int).reverse, .list (ns.map PyData.int ++ [.int (ns[0]'(by omega))])]) := dpa_app (hic.up hup) (hx2.up hup2)
            have hp9 : (upd He p (.lst (xs ++ xs2))) p = some (.lst (xs ++ xs2)) := upd_same
            have sE9 : Same He (upd He p (.lst (xs ++ xs2))) := same_new hp
            have SB9 : SameB bx H' (upd He p (.lst (xs ++ xs2))) := SBe.trans (.of sE9)
            have hB9 : BagAt (upd He p (.lst (xs ++ xs2))) bx (n + 4 + 2 * (k + 1)) := hBe.up sE9 (by omega)
            have hpH : H p = none := by
              cases z : H p with
              | none => rfl
              | some o => rw [SBe p o hpb (hI.sm p o hpb z)] at hp; cases hp
            have hpH8 : H8 p = none := by
              cases z : H8 p with
              | none => rfl
              | some o => rw [SBe p o hpb (sX p o hpb z)] at hp; cases hp
            show RB _ _ _ _ (upd He p (.lst (xs ++ xs2)))
            generalize upd He p (.lst (xs ++ xs2)) = H9 at hv9 hu9 hit9 hp9 SB9 hB9
            have L9 : Live [p, bx] H9 := fun a ha => by
              simp only [List.mem_cons, List.not_mem_nil, or_false] at ha
              rcases ha with e | e
              · rw [e, hp9]; simp
              · rw [e]; exact hB9.some
            refine rb_exprR ⟨_, pe_bm PySem.F.plainAttrs_list PySem.F.slot_list_append PySem.F.type_list_append mt_append re_ ra_ rfl rfl rfl rfl rfl, XV.go (xv_name 3 rfl) fun Hf sf => ⟨.inl ⟨rfl, xs ++ xs2, SqL.of (sf _ _ hp9)⟩, ra_1 (XL.go (xl_cat (L9.mono sf) (XL.dd (xl_cat (L9.mono sf) (XL.dd (xl_cut (L9.mono sf) (xd_name 4 rfl (hv9.up (hid_mono sf))) xo_none (xo_some (M := [p, bx]) (xv_name 5 rfl).int)) (L9.mono sf)) (xd_lst (L9.mono sf) (xa_cons (xd_name 6 rfl (hu9.up (hid_mono sf))) xa_nil)) ?y1) (L9.mono sf)) (XL.dd (xl_cut (L9.mono sf) (xd_name 4 rfl (hv9.up (hid_mono sf))) (xo_some (M := [p, bx]) (xd_add (xv_name 5 rfl).int xd_int)) xo_none) (L9.mono sf)) ?y2) fun l6 xs6 Hg sg hl6 h6 hx6 => ⟨p, xs ++ xs2, .ref l6, rfl, rfl, (sf.trans sg) _ _ hp9, ?y3, ?_⟩)⟩⟩
            case y1 => have h1 := cut_len (ds := ns.map PyData.int) (m := none) (n := some at_); show _ + 1 ≤ 100000; omega
            case y2 => have h1 := cut_len (ds := ns.map PyData.int) (m := none) (n := some at_); have h2 := cut_len (ds := ns.map PyData.int) (m := some (at_ + 1)) (n := none); rw [List.length_append]; show _ + 1 + _ ≤ 100000; omega
            case y3 =>
              have e1 := dpa_len hit9
              have e3 := hI.len
              simp only [List.length_append, List.length_map, List.length_cons, List.length_nil] at e1 ⊢
              exact Nat.lt_of_le_of_lt (show xs.length + xs2.length ≤ 1000 by omega) (by decide)
            have sfg := sf.trans sg
            have hl6p : l6 ≠ p := fun e => by rw [e, sf _ _ hp9] at hl6; cases hl6
            have hl6b : l6 ≠ bx := fun e => by rw [e] at hl6; exact (hB9.up sf (Nat.le_refl _)).some hl6
            have SBg : SameB bx H' (upd Hg p (.lst (xs ++ xs2 ++ [.ref l6]))) := fun a o na e => by
              rw [upd_ne (fun z => by rw [z] at e; rw [SBe p o hpb e] at hp; cases hp)]
              exact sfg _ _ (SB9 a o na e)
            refine rb_nil ⟨sX.trans SBg, p, xs ++ xs2 ++ [.ref l6], rows ++ [ns.map PyData.int ++ ns.map PyData.int, Dl.cutD (ns.map PyData.int) (some 1) none ++ Dl.cutD (ns.map PyData.int) none (some 1), Dl.cutD (ns.map PyData.int) none (some at_) ++ Dl.cutD (ns.map PyData.int) (some (at_ + 1)) none, (ns.map PyData.int).reverse, ns.map PyData.int ++ [.int (ns[0]'(by omega))]] ++ [Dl.cutD (ns.map PyData.int) none (some at_) ++ [d] ++ Dl.cutD (ns.map PyData.int) (some (at_ + 1)) none], _, _, _, rfl, hI.sm.trans SBg, bag_upd (hB9.up sfg (Nat.le_refl _)) (Ne.symm hpb), hpb, upd_same, ?_, fun row hrow => ?_, ?_⟩
            · rw [List.map_append, List.map_append]
              refine dpa_app (hit9.up fun a o e => ?_) (.cons (.lst ?_ (hx6.up fun a o e => ?_)) .nil)
              · have := hid_mono (M := [p, bx]) sfg _ _ e
                rw [← hid_upd_mem (M := [p, bx]) (H := Hg) (p := p) (o := .lst (xs ++ xs2 ++ [.ref l6])) (List.mem_cons_self ..)] at this
                exact hid_less (by simp) _ _ this
              · rw [hid_of (by simp [hl6b]), upd_ne hl6p]; exact h6
              · rw [← hid_upd_mem (M := [p, bx]) (H := Hg) (p := p) (o := .lst (xs ++ xs2 ++ [.ref l6])) (List.mem_cons_self ..)] at e
                exact hid_less (by simp) _ _ e
            · have oR : ok1 (ns.map PyData.int) := ok1_ints (by omega)
              have c1 := cut_len (ds := ns.map PyData.int) (m := some 1) (n := none)
              have c2 := cut_len (ds := ns.map PyData.int) (m := none) (n := some 1)
              have c3 := cut_len (ds := ns.map PyData.int) (m := none) (n := some at_)
              have c4 := cut_len (ds := ns.map PyData.int) (m := some (at_ + 1)) (n := none)
              simp only [List.mem_append, List.mem_cons, List.not_mem_nil, or_false] at hrow
              rcases hrow with (hrow | rfl | rfl | rfl | rfl | rfl) | rfl
              · exact hI.ok row hrow
              · exact ok1_app oR oR (by omega)
              · exact ok1_app (ok1_cut oR) (ok1_cut oR) (by omega)
              · exact ok1_app (ok1_cut oR) (ok1_cut oR) (by omega)
              · exact ⟨by rw [List.length_reverse]; omega, fun d hd => oR.2 d (List.mem_reverse.mp hd)⟩
              · exact ok1_app oR ⟨by simp, by simp [flk_int]⟩ (by show _ + 1 ≤ 200; omega)
              · exact ok1_app (ok1_app (ok1_cut oR) ⟨by simp, by simp [hfd]⟩ (by show _ + 1 ≤ 200; omega)) (ok1_cut oR) (by rw [List.length_append]; show _ + 1 + _ ≤ 200; omega)
            · rw [List.length_append, List.length_append]
              have := hI.len
              show rows.length + 5 + 1 ≤ _
              omega
        have L6 := Lv hB6
        have SB06 : SameB bx H H6 := (SameB.of s02).trans SB6
        rcases hzz with rfl | rfl
        · obtain ⟨hrb, hring, g1, g2⟩ := hz rfl
          have hr6 : H6 r = some (.lst (ring.map V.int)) := SB6 r _ hrb hring
          have hD7 : Dq K (hid [bx] H6) (.ref r) (.list (ring.map PyData.int)) := .lst (by rw [hid_of (by simp [hrb])]; exact hr6) (ints_dq ring)
          refine rb_setR 3 (XL.go (xl_cat L6 (xd_name 3 rfl hD6) (ds2 := [.list (ring.map PyData.int)]) (xd_ifT ((xt_eqS (M := [bx]) (x := "ring") (y := "ring") ((xv_ixT (fun _ _ => rfl) (xv_name 2 rfl) (SqT.of ht6) xv_int rfl).dd (.str _)) xd_str).to (by decide +kernel)) (xd_lst L6 (xa_cons (XL.dd (xl_listL T.lst L6 (XV.dd (xv_ixT (fun _ _ => rfl) (xv_name 2 rfl) (SqT.of ht6) xv_int rfl) hD7)) L6) xa_nil))) (by simp)) fun l1 xs1 H7 s7 hl7 h7 hx7 => ?_) scRows.nd
          exact loop [ns, ring] l1 xs1 H7 (fun x hx => by
            simp only [List.mem_cons, List.not_mem_nil, or_false] at hx
            rcases hx with rfl | rfl
            · omega
            · exact ⟨g1, g2⟩) (by simp) (SB06.trans (.of s7)) (hB6.up s7 (Nat.le_refl _)) (fun e => by rw [e] at hl7; exact hB6.some hl7) h7 hx7
        · refine rb_setR 3 (XL.go (xl_cat L6 (xd_name 3 rfl hD6) (ds2 := []) (xd_ifF ((xt_eqS (M := [bx]) (x := "values") (y := "ring") ((xv_ixT (fun _ _ => rfl) (xv_name 2 rfl) (SqT.of ht6) xv_int rfl).dd (.str _)) xd_str).to (by decide +kernel)) (xd_lst L6 xa_nil)) (by simp)) fun l1 xs1 H7 s7 hl7 h7 hx7 => ?_) scRows.nd
          exact loop [ns] l1 xs1 H7 (fun x hx => by
            rw [List.mem_singleton.mp hx]; omega) (by simp) (SB06.trans (.of s7)) (hB6.up s7 (Nat.le_refl _)) (fun e => by rw [e] at hl7; exact hB6.some hl7) h7 hx7
    refine rb_setR 2 (re_call hS.G hr hS.g hS.kp hS.b (ra_1 (XV.go (xv_name 1 rfl) fun H1 s1 => ⟨vB, [bx], false, true, bs, rfl, (Lv hB).mono s1, hv.up (hid_mono s1), okB.ok, fun g H2 t W s2 ht hW h2 dW hh => ?_, fun c ring H2 t r s2 ht hr2 h2 h3 hz hR hno => ?_⟩))) scRows.nd
    · exact key H2 t W "values" [] (s1.trans s2) h2 (fun z => absurd z (by decide +kernel)) (.inr rfl)
    · refine key H2 t r "ring" ring (s1.trans s2) h2 (fun _ => ⟨fun e => ?_, h3, hR.pos, ?_⟩) (.inl rfl)
      · rw [e] at hr2; exact (hB.up s1 (Nat.le_refl _)).some hr2
      · have := names_len bs bs.length
        rw [List.take_length] at this
        omega
end
end Zn

set_option Elab.async false
set_option linter.all false
set_option maxRecDepth 100000
set_option maxHeartbeats 8000000
namespace Zn
open PySem PySem.Spec PyProof.Rows L2 Dl
/-! k16: rules for the law -/
theorem shows_eq {bs : List Bd} {ds : List PyData} : showsB bs ds = isRingB bs ds := by
  unfold showsB isRingB
  by_cases hn : ds = []
  · subst hn
    simp [founds, sumN]
  · rw [decide_eq_false hn]
    cases hin : ds.all (inB bs.length) with
    | false => rfl
    | true =>
      obtain ⟨fl, _⟩ := founds_at (bs := bs) (List.all_eq_true.mp hin)
      rw [fl]
      have hp : 0 < ds.length := List.length_pos_iff.mpr hn
      generalize founds bs ds = fs at fl
      have e : (List.range ds.length).all (linkB fs) = (List.range ds.length).all (link2 fs) := by
        rw [Bool.eq_iff_iff, List.all_eq_true, List.all_eq_true]
        constructor
        · intro h k hk
          rw [List.mem_range] at hk
          have := h ((k + 1) % ds.length) (List.mem_range.mpr (Nat.mod_lt _ hp))
          unfold linkB at this
          unfold link2
          rw [fl]
          by_cases z : k + 1 = ds.length
          · rw [z, Nat.mod_self] at this ⊢
            rw [if_pos rfl, List.getLast?_eq_getElem?, fl, show ds.length - 1 = k by omega] at this
            exact this
          · rw [Nat.mod_eq_of_lt (by omega)] at this ⊢
            rw [if_neg (by omega), show k + 1 - 1 = k by omega] at this
            exact this
        · intro h p hp2
          rw [List.mem_range] at hp2
          unfold linkB
          by_cases z : p = 0
          · subst z
            have := h (ds.length - 1) (List.mem_range.mpr (by omega))
            unfold link2 at this
            rw [fl, show ds.length - 1 + 1 = ds.length by omega, Nat.mod_self] at this
            rw [if_pos rfl, List.getLast?_eq_getElem?, fl]
            exact this
          · have := h (p - 1) (List.mem_range.mpr (by omega))
            unfold link2 at this
            rw [fl, show p - 1 + 1 = p by omega, Nat.mod_eq_of_lt hp2] at this
            rw [if_neg z]
            exact this
      rw [e]
      rfl
section
variable {X : Cx} {M : List Addr} {σ : L2.St} {H : Hp} {a b e : Expr} {pos p1 p2 pa pb : Pos} {f : Addr} {fd : FuncData} {bs : List Bd} {row : List PyData} {d : PyData} {W : Addr} {ks : List Str} {F : Str → V} {g : Str → Int} {v : V}
theorem call_reprB : CallR X (.builtin "repr") (fun xs H Q => ∃ b : Bool, xs = [.bl b] ∧ Q (.str (if b then "True" else "False")) H) := by
  intro pins s σ H xs us Q I r h
  obtain ⟨b, rfl, q⟩ := h
  obtain ⟨u, rfl, rx⟩ := vals1 r
  cases rx
  exact PySem.P.repr_of_bool ⟨.str _, H, I.tok _, ⟨_, rfl⟩, q⟩
theorem xd_reprB {k : Bool} (hm : X.mg "repr" = none) (h : XD X M σ H e (.bool k)) (hg : Gl X "repr" := by rfl) (z1 : starEach [e] X.env = (false, eval e X.env) :: starEach [] X.env := by rfl) (z2 : (backTo p2 (starEach [] X.env)).any (·.1) = false := by rfl) : XD X M σ H (.Call (.Name "repr" p1) [e] [] p2) (.str (if k then "True" else "False")) := fun H1 s Q q =>
  re_B call_reprB (ra_1 (h H1 s _ fun v H2 s2 hv => ⟨k, by rw [dp_bl hv], q _ H2 s2 (.str _)⟩) z1) hm (by decide +kernel) hg (by decide) (by decide) z1 z2
theorem xt_reprNeB {k : Bool} (hm : X.mg "repr" = none) (ha : XD X M σ H a (.bool k)) (hb : XD X M σ H b (.bool k)) (hg : Gl X "repr" := by rfl)
    (he : starEach [a] X.env = (false, eval a X.env) :: starEach [] X.env := by rfl) (hpl : (backTo pa (starEach [] X.env)).any (·.1) = false := by rfl) (he2 : starEach [b] X.env = (false, eval b X.env) :: starEach [] X.env := by rfl) (hpl2 : (backTo pb (starEach [] X.env)).any (·.1) = false := by rfl) :
    XT X σ H (.Compare (.Call (.Name "repr" p1) [a] [] pa) [.NotEq] [.Call (.Name "repr" p2) [b] [] pb] pos) false := (xt_neS (xd_reprB hm ha hg he hpl) (xd_reprB hm hb hg he2 hpl2)).to (by rw [decide_eq_true rfl]; rfl)
theorem xd_shows (hSh : Hs X.prog X.w X.K X.mg X.base CX0 4 "shows_ring" ["bounds", "ring"] (spShows X.K) f fd) (hr : Room 4 X.A) (L : Live M H) (ha : XD X M σ H a (encBs false true bs)) (ok : OkB bs) (hb : XD X M σ H b (.list row)) (h1 : ok1 row) (hg : Gl X "shows_ring" := by rfl)
    (he : starEach [a, b] X.env = (false, eval a X.env) :: starEach [b] X.env := by rfl) (he2 : starEach [b] X.env = (false, eval b X.env) :: starEach [] X.env := by rfl) (hpl : (backTo pos (starEach [b] X.env)).any (·.1) = false := by rfl) : XD X M σ H (.Call (.Name "shows_ring" p1) [a, b] [] pos) (.bool (isRingB bs row)) := fun H1 s Q q =>
  re_call hSh.G hr hSh.g hSh.kp hSh.b (ra_cons (ha H1 s _ fun v H2 s2 hv => ra_1 (hb H2 (s.trans s2) _ fun u H3 s3 hu => ⟨v, u, M, false, true, bs, "list", rfl, L.mono ((s.trans s2).trans s3), hv.up (hid_mono s3), ok, th_dq hu, fun n => absurd rfl n, fun _ => ⟨row, hu, fun d hd => flk_flat (h1.2 d hd), by have := h1.1; omega, fun H4 s4 => by
    rw [shows_eq]; exact q _ H4 ((s2.trans s3).trans s4) (.bl _)⟩⟩) he2) he) hg (by decide) he hpl
theorem xd_showsF (hSh : Hs X.prog X.w X.K X.mg X.base CX0 4 "shows_ring" ["bounds", "ring"] (spShows X.K) f fd) (hr : Room 4 X.A) (L : Live M H) (ha : XD X M σ H a (encBs false true bs)) (ok : OkB bs) (hb : XD X M σ H b d) (h1 : tyN d ≠ "list") (hg : Gl X "shows_ring" := by rfl)
    (he : starEach [a, b] X.env = (false, eval a X.env) :: starEach [b] X.env := by rfl) (he2 : starEach [b] X.env = (false, eval b X.env) :: starEach [] X.env := by rfl) (hpl : (backTo pos (starEach [b] X.env)).any (·.1) = false := by rfl) : XD X M σ H (.Call (.Name "shows_ring" p1) [a, b] [] pos) (.bool false) := fun H1 s Q q =>
  re_call hSh.G hr hSh.g hSh.kp hSh.b (ra_cons (ha H1 s _ fun v H2 s2 hv => ra_1 (hb H2 (s.trans s2) _ fun u H3 s3 hu => ⟨v, u, M, false, true, bs, tyN d, rfl, L.mono ((s.trans s2).trans s3), hv.up (hid_mono s3), ok, th_dq hu, fun _ H4 s4 => q _ H4 ((s2.trans s3).trans s4) (.bl _), fun z => absurd z h1⟩) he2) he) hg (by decide) he hpl
/-- shows_ring(bounds, e), e a thing -/
theorem xd_showsZ (hSh : Hs X.prog X.w X.K X.mg X.base CX0 4 "shows_ring" ["bounds", "ring"] (spShows X.K) f fd) (hr : Room 4 X.A) (L : Live M H) (ha : XD X M σ H a (encBs false true bs)) (ok : OkB bs) (hb : XV X σ H b v) (hv : Dz H v d) (h1 : ∀ ds, d = .list ds → (∀ x ∈ ds, flat x = true) ∧ ds.length ≤ 1000 ∧ showsB bs ds = false ∧ Dq X.K (hid M H) v d) (hg : Gl X "shows_ring" := by rfl)
    (he : starEach [a, b] X.env = (false, eval a X.env) :: starEach [b] X.env := by rfl) (he2 : starEach [b] X.env = (false, eval b X.env) :: starEach [] X.env := by rfl) (hpl : (backTo pos (starEach [b] X.env)).any (·.1) = false := by rfl) : XD X M σ H (.Call (.Name "shows_ring" p1) [a, b] [] pos) (.bool false) := fun H1 s Q q =>
  re_call hSh.G hr hSh.g hSh.kp hSh.b (ra_cons (ha H1 s _ fun u H2 s2 hu => ra_1 (hb H2 (s.trans s2) _ fun H3 s3 => ⟨u, v, M, false, true, bs, tyN d, rfl, L.mono ((s.trans s2).trans s3), hu.up (hid_mono s3), ok, th_dz (Dz.up ((s.trans s2).trans s3) hv), fun _ H4 s4 => q _ H4 ((s2.trans s3).trans s4) (.bl _), fun z => by
    obtain ⟨ds, rfl⟩ : ∃ ds, d = .list ds := by
      cases d with
      | list ds => exact ⟨ds, rfl⟩
      | none => exact absurd z (by decide)
      | bool b => exact absurd (show ("bool" : String) = "list" from z) (by decide)
      | int b => exact absurd (show ("int" : String) = "list" from z) (by decide)
      | str b => exact absurd (show ("str" : String) = "list" from z) (by decide)
      | tuple b => exact absurd (show ("tuple" : String) = "list" from z) (by decide)
      | dict b => exact absurd (show ("dict" : String) = "list" from z) (by decide)
    obtain ⟨k1, k2, k3, k4⟩ := h1 ds rfl
    exact ⟨ds, k4.up (hid_mono ((s.trans s2).trans s3)), k1, k2, fun H4 s4 => by rw [k3]; exact q _ H4 ((s2.trans s3).trans s4) (.bl _)⟩⟩) he2) he) hg (by decide) he hpl
theorem xd_lring (hR : Hs X.prog X.w X.K X.mg X.base CX0 1 "_law_is_ring" ["_law_bounds_here", "_law_ring"] (spLRing X.K) f fd) (hr : Room 1 X.A) (L : Live M H) (ha : XD X M σ H a (encBs false true bs)) (ok : OkB bs) (hb : XD X M σ H b (.list row)) (h1 : ∀ d ∈ row, flk d = true) (hl : row.length ≤ 1000) (hg : Gl X "_law_is_ring" := by rfl)
    (he : starEach [a, b] X.env = (false, eval a X.env) :: starEach [b] X.env := by rfl) (he2 : starEach [b] X.env = (false, eval b X.env) :: starEach [] X.env := by rfl) (hpl : (backTo pos (starEach [b] X.env)).any (·.1) = false := by rfl) : XD X M σ H (.Call (.Name "_law_is_ring" p1) [a, b] [] pos) (.bool (isRingB bs row)) := fun H1 s Q q =>
  re_call hR.G hr hR.g hR.kp hR.b (ra_cons (ha H1 s _ fun v H2 s2 hv => ra_1 (hb H2 (s.trans s2) _ fun u H3 s3 hu => ⟨v, u, M, false, true, bs, "list", rfl, L.mono ((s.trans s2).trans s3), hv.up (hid_mono s3), ok, th_dq hu, fun n => absurd rfl n, fun _ => ⟨row, hu, h1, hl, fun H4 s4 => q _ H4 ((s2.trans s3).trans s4) (.bl _)⟩⟩) he2) he) hg (by decide) he hpl
theorem xd_holds (hH : Hs X.prog X.w X.K X.mg X.base CX0 4 "holds" ["bounds", "values"] (spHolds X.K) f fd) (hr : Room 4 X.A) (L : Live M H) (ha : XD X M σ H a (encBs false true bs)) (ok : OkB bs) (hb : XV X σ H b (.ref W)) (dW : DM H W ks F) (hk : ∀ x ∈ namesOf bs, x ∈ ks ∧ F x = .int (g x)) (hg : Gl X "holds" := by rfl)
    (he : starEach [a, b] X.env = (false, eval a X.env) :: starEach [b] X.env := by rfl) (he2 : starEach [b] X.env = (false, eval b X.env) :: starEach [] X.env := by rfl) (hpl : (backTo pos (starEach [b] X.env)).any (·.1) = false := by rfl) : XD X M σ H (.Call (.Name "holds" p1) [a, b] [] pos) (.bool (holdsB bs g)) := fun H1 s Q q =>
  re_call hH.G hr hH.g hH.kp hH.b (ra_cons (ha H1 s _ fun v H2 s2 hv => ra_1 (hb H2 (s.trans s2) _ fun H3 s3 => ⟨v, W, M, false, true, bs, ks, F, g, rfl, L.mono ((s.trans s2).trans s3), hv.up (hid_mono s3), ok, dW.up ((s.trans s2).trans s3), hk, fun H4 s4 => q _ H4 ((s2.trans s3).trans s4) (.bl _)⟩) he2) he) hg (by decide) he hpl
theorem xd_lhold (hH : Hs X.prog X.w X.K X.mg X.base CX0 1 "_law_bounds_hold" ["_law_bounds_here", "_law_given"] (spLHold X.K) f fd) (hr : Room 1 X.A) (L : Live M H) (ha : XD X M σ H a (encBs false true bs)) (ok : OkB bs) (hb : XV X σ H b (.ref W)) (dW : DM H W ks F) (hk : ∀ x ∈ namesOf bs, x ∈ ks ∧ F x = .int (g x)) (hg : Gl X "_law_bounds_hold" := by rfl)
    (he : starEach [a, b] X.env = (false, eval a X.env) :: starEach [b] X.env := by rfl) (he2 : starEach [b] X.env = (false, eval b X.env) :: starEach [] X.env := by rfl) (hpl : (backTo pos (starEach [b] X.env)).any (·.1) = false := by rfl) : XD X M σ H (.Call (.Name "_law_bounds_hold" p1) [a, b] [] pos) (.bool (holdsB bs g)) := fun H1 s Q q =>
  re_call hH.G hr hH.g hH.kp hH.b (ra_cons (ha H1 s _ fun v H2 s2 hv => ra_1 (hb H2 (s.trans s2) _ fun H3 s3 => ⟨v, W, M, false, true, bs, ks, F, g, rfl, L.mono ((s.trans s2).trans s3), hv.up (hid_mono s3), ok, dW.up ((s.trans s2).trans s3), hk, fun H4 s4 => q _ H4 ((s2.trans s3).trans s4) (.bl _)⟩) he2) he) hg (by decide) he hpl
theorem xd_odd (GO : FnG X.prog X.w X.K X.mg X.base 7 f fd ["_law_bounds_here"] (spOdd X.K)) (FO : Df X.K X.mg "_law_odd_right" sOdd ["_law_bounds_here"] f fd) (hA : X.A.guards = some []) (hr : Room 7 X.A) (ha : XD X [] σ H a (encBs false true bs)) (ok : OkB bs) (hg : Gl X "_law_odd_right" := by rfl)
    (he : starEach [a] X.env = (false, eval a X.env) :: starEach [] X.env := by rfl) (hpl : (backTo pos (starEach [] X.env)).any (·.1) = false := by rfl) : XD X [] σ H (.Call (.Name "_law_odd_right" p1) [a] [] pos) (.bool true) := fun H1 s Q q =>
  re_callG GO hA hr FO.g FO.F.kp FO.b (ra_1 (ha H1 s _ fun v H2 s2 hv => ⟨v, [], bs, rfl, hv, ok, fun H3 s3 => q _ H3 (s2.trans s3) (.bl _)⟩) he) hg (by decide) he hpl
end
/-! the drawn values, and these with a note -/
def fiveN : List Str := ["a", "b", "c1", "z", "more"]
def sixK : List Str := ["a", "b", "c1", "z", "more", "note"]
theorem five_nd : fiveN.Nodup := by decide +kernel
theorem six_nd : sixK.Nodup := by decide +kernel
theorem four_five : ∀ x ∈ fourN, x ∈ fiveN := by decide +kernel
def noteF (g : Str → Int) (z : Str) : V := if z = "note" then .non else .int (g z)
theorem note_dm {g : Str → Int} : dmap fiveN (fun z => V.int (g z)) ++ [(.inr "note", V.non)] = dmap sixK (noteF g) := by
  have e : sixK = fiveN ++ [("note" : Str)] := rfl
  rw [e]
  unfold dmap
  rw [List.map_append]
  congr 1
theorem note_merge {g : Str → Int} : mergeK [] (dmap fiveN (fun z => V.int (g z)) ++ [(.inr "note", V.non)]) = dmap sixK (noteF g) := by
  rw [note_dm]
  exact merge_dmap (s := []) six_nd
theorem note_at {g : Str → Int} {x : Str} (h : x ∈ fourN) : x ∈ sixK ∧ noteF g x = .int (g x) := by
  have hn : ∀ z ∈ fourN, z ≠ "note" := by decide +kernel
  have h6 : ∀ z ∈ fourN, z ∈ sixK := by decide +kernel
  refine ⟨h6 x h, ?_⟩
  unfold noteF
  rw [if_neg (hn x h)]
end Zn

set_option Elab.async false
set_option linter.all false
set_option maxRecDepth 100000
set_option maxHeartbeats 16000000
namespace Zn
open PySem PySem.Spec PyProof.Rows L2 Dl
/-! k16: the law -/
abbrev sLaw : Stmt := top 36
abbrev nLaw : List Str := ["_law_script", "_law_k", "_law_box_here", "_law_bounds_here", "_law_row", "_law_thing", "_law_given", "_law_more", "_law_lap", "_law_found", "_law_name"]
theorem scLaw : FnScope nLaw ["_law_script"] (defScope sLaw) := ⟨rfl, rfl, rfl, by decide +kernel, rfl, by decide +kernel, by decide +kernel⟩
def spLaw (K : PySem.W.Frag) : Sp := fun vs H Q _ => ∃ (a : Addr) (ns : List Int), vs = [.ref a] ∧ SqL K H a (ns.map V.int) ∧ ∀ H1, Same H H1 → Q (.bl true) H1
def thgL : List PyData := [.none, .int 3, .bool true, .str "ring", .dict [], .list [], .list [.none]]
theorem thg_no {bs : List Bd} : ∀ d ∈ thgL, ∀ ds, d = .list ds → (∀ x ∈ ds, flat x = true) ∧ ds.length ≤ 1000 ∧ showsB bs ds = false ∧ noD d = true := by
  intro d hd ds e
  subst e
  simp only [thgL, List.mem_cons, List.not_mem_nil, or_false] at hd
  rcases hd with h | h | h | h | h | h | h <;> cases h
  · exact ⟨by simp, by decide, by simp [showsB, founds, sumN], rfl⟩
  · exact ⟨by simp [flat], by decide, by simp [showsB, inB], rfl⟩
section
variable {P : Program} {w : World} {K : PySem.W.Frag} {mg : Str → Option Value} {base : Heap} {CP CB : Addr}
theorem ok_law {fC fB fT fLB fRw fSh fR fH fLH fCa fS fO f : Addr} {gC gB gT gLB gRw gSh gR gH gLH gCa gS gO fd : FuncData} (T : Nm mg) (hC : Hs P w K mg base CX0 1 "_law_cell" ["_law_script", "_law_k"] (spCell K) fC gC) (hB : Hs P w K mg base CX0 1 "_law_box" ["_law_cell_here"] spBag fB gB)
    (GT : FnOk P w K mg base CX0 1 fT gT ["_law_box_here", "_law_many"] spTake) (FT : Df K mg "_law_take" sTake ["_law_box_here", "_law_many"] fT gT)
    (hLB : Hs P w K mg base CX0 2 "_law_bounds" ["_law_box_here"] (spLBs K) fLB gLB) (hRw : Hs P w K mg base CX0 5 "_law_rows" ["_law_box_here", "_law_bounds_here"] (spRows K) fRw gRw)
    (hSh : Hs P w K mg base CX0 4 "shows_ring" ["bounds", "ring"] (spShows K) fSh gSh) (hR : Hs P w K mg base CX0 1 "_law_is_ring" ["_law_bounds_here", "_law_ring"] (spLRing K) fR gR)
    (hH : Hs P w K mg base CX0 4 "holds" ["bounds", "values"] (spHolds K) fH gH) (hLH : Hs P w K mg base CX0 1 "_law_bounds_hold" ["_law_bounds_here", "_law_given"] (spLHold K) fLH gLH)
    (hCa : Hs P w K mg base CX0 6 "_law_caught" ["_law_way", "_law_things"] (spCaught K CP CB) fCa gCa) (hS : Hs P w K mg base CX0 4 "settle" ["bounds"] (spSettle K) fS gS)
    (GO : FnG P w K mg base 7 fO gO ["_law_bounds_here"] (spOdd K)) (FO : Df K mg "_law_odd_right" sOdd ["_law_bounds_here"] fO gO)
    (F : Fun K "law" "law" sLaw f fd) : FnG P w K mg base 8 f fd ["_law_script"] (spLaw K) := by
  refine fn_g F scLaw (fun vs H Q E h => ?_) (fun cdv A outer s H vs Q E hA hr h => ?_)
  · obtain ⟨a, ns, rfl, _⟩ := h; rfl
  · obtain ⟨a, ns, rfl, hS0, q⟩ := h
    have hr6 := hr.mono (show 6 ≤ 7 by decide)
    have hr5 := hr.mono (show 5 ≤ 7 by decide)
    have hr4 := hr.mono (show 4 ≤ 7 by decide)
    have hr2 := hr.mono (show 2 ≤ 7 by decide)
    have hr1 := hr.mono (show 1 ≤ 7 by decide)
    have hu := hr.units
    have hu1 := hu_of hr
    refine rb_range T.rng (XD.go (M := []) (xd_max T.max (xa_cons xd_int (xa_cons (xd_min T.min (xa_cons xd_int (xa_cons (xv_lenS T.len (xv_name 0 rfl) hS0).int xa_nil))) xa_nil))) fun v H0 s0 hv => ?_)
    have ev := dp_int hv
    subst ev
    generalize hnn : (if (if ((ns.map V.int).length : Int) < 8 then ((ns.map V.int).length : Int) else 8) > 2 then (if ((ns.map V.int).length : Int) < 8 then ((ns.map V.int).length : Int) else 8) else 2) = nn
    have hn2 : 0 ≤ nn ∧ nn ≤ 100 := by
      rw [← hnn]
      split <;> split <;> omega
    refine ⟨nn.toNat, by rw [Int.toNat_of_nonneg hn2.1], by omega, fun i σ' H' => Same H H' ∧ ∃ u1 u2 u3 u4 u5 u6 u7 u8 u9 u10, σ' = [some (.ref a), u1, u2, u3, u4, u5, u6, u7, u8, u9, u10], ⟨s0, none, none, none, none, none, none, none, none, none, none, rfl⟩, fun i σ' H' hi w => ?_, fun σ' H' w => ?_⟩
    · obtain ⟨sH0, u1, u2, u3, u4, u5, u6, u7, u8, u9, u10, rfl⟩ := w
      refine rg_name 1 ?_ scLaw.nd
      refine rb_setR 2 (re_call hB.G hr1 hB.g hB.kp hB.b (ra_1 (re_call hC.G hr1 hC.g hC.kp hC.b (ra_cons (XV.go (xv_name 0 rfl) fun Ha sa => ra_1 (XV.go (xv_name 1 rfl) fun Hb sb => ⟨a, ns, i, rfl, ((sH0.trans sa).trans sb).seq hS0, fun nc Hc sc => ⟨nc, rfl, fun b H1 s1 hb hBg => ?_⟩⟩)))))) scLaw.nd
      have s01 : Same H' H1 := ((sa.trans sb).trans sc).trans s1
      have hb0 : H' b = none := ((sa.trans sb).trans sc).free hb
      -- the bounds
      refine rb_setR 3 (re_call hLB.G hr2 hLB.g hLB.kp hLB.b (ra_1 (XV.go (xv_name 2 rfl) fun H2 s2 => ⟨b, 0, rfl, by omega, hBg.up s2 (Nat.le_refl _), fun bs l xsB H3 sB3 hB3 hl0 hlb h3 hx3 okB hl1 => ?_⟩))) scLaw.nd
      have S03 : Same H' H3 := same_of_B hb0 ((SameB.of (s01.trans s2)).trans sB3)
      have ok := okB.ok
      have hD3 : Dq K (hid [b] H3) (.ref l) (encBs false true bs) := .lst (by rw [hid_of (by simp [hlb])]; exact h3) hx3
      have Lv : ∀ {Hx : Hp} {m : Nat}, BagAt Hx b m → Live [b] Hx := fun h a ha => by rw [List.mem_singleton.mp ha]; exact h.some
      have hbm : b ∈ [b] := by simp
      have h4n : ∀ x ∈ namesOf bs, x ∈ fourN := fun x hx => okB.nm hx
      -- rows
      refine rb_forE (M := [b]) (re_call hRw.G hr5 hRw.g hRw.kp hRw.b (ra_cons (XV.go (xv_name 2 rfl) fun H4 s4 => ra_1 (XV.go (xv_name 3 rfl) fun H5 s5 => ⟨b, .ref l, 30, bs, rfl, by omega, hB3.up (s4.trans s5) (by omega), hD3.up (hid_mono (s4.trans s5)), okB, hl1, fun rows lr xr H6 hI => ⟨rows.map PyData.list, .lst (by rw [hid_of (by simp [hI.ne])]; exact hI.lst) hI.its, fun k σ' Hx => Same H6 Hx ∧ ∃ u4, σ' = [some (.ref a), some (.int i), some (.ref b), some (.ref l), u4, u5, u6, u7, u8, u9, u10], ⟨Same.refl _, _, rfl⟩, fun k σ' Hx w => hid_mono w.1, fun k d hd σ' Hx v w hv => ?rst, fun σ' Hx w => ?rdone⟩⟩))))
      case rst =>
        obtain ⟨sX, u4, rfl⟩ := w
        rw [List.getElem?_map] at hd
        obtain ⟨row, hrow, rfl⟩ := Option.map_eq_some_iff.mp hd
        have o1 := hI.ok row (List.mem_of_getElem? hrow)
        have hBx : BagAt Hx b (30 + 20) := hI.bag.up sX (Nat.le_refl _)
        have hDx : Dq K (hid [b] Hx) (.ref l) (encBs false true bs) := (hD3.up (((SameB.of (s4.trans s5)).trans hI.sm).hid hbm)).up (hid_mono sX)
        have L := Lv hBx
        have ho1 : row.length ≤ 1000 := by have := o1.1; omega
        refine rg_name 4 ?_ scLaw.nd
        refine rb_ifF ((xt_or2 (k1 := false) (k2 := false) (xt_reprNeB (M := [b]) T.rep (xd_shows hSh hr4 L (xd_name 3 rfl hDx) ok (xd_name 4 rfl hv) o1) (xd_lring hR hr1 L (xd_name 3 rfl hDx) ok (xd_name 4 rfl hv) o1.2 ho1)) fun _ => xt_val (M := [b]) (xd_showsF (d := .tuple row) hSh hr4 L (xd_name 3 rfl hDx) ok (xd_tupleL T.tup L (xd_name 4 rfl hv)) (show ("tuple" : String) ≠ "list" by decide))).to rfl) fun Hy sy => rb_nil ⟨sX.trans sy, _, rfl⟩
      case rdone =>
        obtain ⟨sX, u4, rfl⟩ := w
        have hB7 : BagAt Hx b (30 + 20) := hI.bag.up sX (Nat.le_refl _)
        have SB7 : SameB b H3 Hx := ((SameB.of (s4.trans s5)).trans hI.sm).trans (.of sX)
        have S07 : Same H' Hx := fun x o e => SB7 x o (fun z => by rw [z, hb0] at e; cases e) (S03 x o e)
        have hD7 : Dq K (hid [b] Hx) (.ref l) (encBs false true bs) := hD3.up (SB7.hid hbm)
        have hl7 : Hx l = some (.lst xsB) := SB7 l _ hlb h3
        clear hI sX SB7
        -- things
        refine rb_forZ (ds := thgL) (xz_lst (xz_cons xz_non (xz_cons xz_int (xz_cons xz_bl (xz_cons xz_str (xz_cons xz_dic (xz_cons (xz_lst xz_nil (by decide)) (xz_cons (xz_lst (xz_cons xz_non xz_nil) (by decide)) xz_nil))))))) (by decide)) fun H8 s8 => ⟨fun k σ' Hy => Same H8 Hy ∧ ∃ u5, σ' = [some (.ref a), some (.int i), some (.ref b), some (.ref l), u4, u5, u6, u7, u8, u9, u10], ⟨Same.refl _, _, rfl⟩, fun k σ' Hy h => h.1, fun k d hk σ' Hy v hp hv => ?tst, fun σ' Hy hp => ?tdone⟩
        case tst =>
          obtain ⟨sY, u5, rfl⟩ := hp
          have hm := List.mem_of_getElem? hk
          have s7y := s8.trans sY
          have hD0 : Dq K (hid [] Hy) (.ref l) (encBs false true bs) := (hD7.up (hid_mono s7y)).up (hid_less (by simp))
          refine rg_name 5 ?_ scLaw.nd
          refine rb_ifF ((xt_neS (M := []) (xd_reprB T.rep (xd_showsZ hSh hr4 Live.nil (xd_name 3 rfl hD0) ok (xv_name 5 rfl) hv fun ds e => ?_)) xd_str).to (by decide +kernel)) fun Hz sz => rb_nil ⟨sY.trans sz, _, rfl⟩
          obtain ⟨k1, k2, k3, k4⟩ := thg_no (bs := bs) d hm ds e
          exact ⟨k1, k2, k3, Dz.dq hv k4⟩
        case tdone =>
          obtain ⟨sY, u5, rfl⟩ := hp
          have sx9 := s8.trans sY
          have hB9 : BagAt Hy b (30 + 20) := hB7.up sx9 (Nat.le_refl _)
          have S09 : Same H' Hy := S07.trans sx9
          have hD9 : Dq K (hid [b] Hy) (.ref l) (encBs false true bs) := hD7.up (hid_mono sx9)
          have hl9 : Hy l = some (.lst xsB) := sx9 _ _ hl7
          clear sY sx9
          -- the drawn values
          refine rb_setR 6 (re_Ty (call_dictP rfl) (ra_1 (re_lcP (own := [("_law_name", 10)]) scLaw.nd (blkOk_by (own := [("_law_name", 10)]) (N := nLaw) (sc := defScope sLaw) (by decide +kernel)) (XL.go (M := []) (xl_lst Live.nil (xa_cons xd_str (xa_cons xd_str (xa_cons xd_str (xa_cons xd_str (xa_cons xd_str xa_nil)))))) fun p0 xs0 Ha sa hp0 ha0 hx0 => ⟨p0, fiveN.map V.str, rfl, SqL.of ?five, fun p hp => ⟨DrawI K b p fiveN 50 Ha, ?d0, ?dl, ?ds, ?dd⟩⟩))) T.dct (by decide +kernel)) scLaw.nd
          case five => rw [← strs_va (ss := fiveN) hx0]; exact ha0
          case d0 => exact ⟨.of (same_new hp), (hB9.up sa (Nat.le_refl _)).up (same_new hp) (by omega), upd_same, [], fun _ => 0, rfl, fun _ => Nat.zero_le _, .nil⟩
          case dl =>
            intro k acc Hx hI
            have h0b : p0 ≠ b := fun e => by rw [e] at hp0; exact hB9.some hp0
            rw [← strs_va (ss := fiveN) hx0]
            exact SqL.of (hI.sm p0 _ h0b ha0)
          case ds =>
            intro k acc z Hi hz hI
            have hpb : p ≠ b := fun e => by rw [e] at hp; exact (hB9.up sa (Nat.le_refl _)).some hp
            rw [List.getElem?_map] at hz
            obtain ⟨x, hx, rfl⟩ := Option.map_eq_some_iff.mp hz
            have hk : k < fiveN.length := (List.getElem?_eq_some_iff.mp hx).1
            have hk5 : k < 5 := hk
            have hbag := hI.bag
            intro s0 H0 C0 cl fp
            refine rg_name 10 ⟨rfl, fun s0 H0 C0 cl fp => ?_⟩ scLaw.nd
            refine ⟨_, pe_tup ra_, ra_cons (XV.go (xv_name 10 rfl) fun Hb sb => ra_1 (re_take (many := 9) (n := 50 + 2 * k) GT FT hr1 (xv_name 2 rfl) xv_int (hbag.up sb (Nat.le_refl _)) fun r Hc r0 r1 sBc hBc => ⟨by show 2 ≤ sizeLine; decide, fun t ht => ?fin⟩))⟩
            case fin =>
              have sBe : SameB b Hi Hc := (SameB.of sb).trans sBc
              have hti : Hi t = none := by
                cases z : Hi t with
                | none => rfl
                | some o =>
                  by_cases e : t = b
                  · rw [e] at ht; exact absurd ht hBc.some
                  · rw [sBe t o e z] at ht; cases ht
              obtain ⟨d1, d2⟩ := draw_step (t := t) (x := x) (n := r) (Hf := upd Hc t (.tup [.str x, .int r])) hI hx five_nd hp hpb (sBe.trans (.of (same_new ht))) hti upd_same (by omega) (hBc.up (same_new ht) (by omega))
              refine ⟨d1, ?_, d2⟩
              obtain ⟨ps, g, ea, _, pr⟩ := hI.pr
              have := pr.length
              rw [ea, List.length_map, this, dmap_len, List.length_take]
              exact Nat.lt_of_le_of_lt (show min k fiveN.length ≤ 1000 by omega) (by decide)
          case dd =>
            intro acc Hx hI
            rw [List.length_map] at hI
            have hBx := hI.bag
            obtain ⟨ps, g, ea, hg, pr⟩ := draw_done hI
            refine ⟨p, ps, dmap fiveN (fun z => .int (g z)), rfl, by rw [← ea]; exact SqL.of hI.at', pr, fun D hD => ?_⟩
            rw [show mergeK [] (dmap fiveN fun z => V.int (g z)) = dmap fiveN (fun z => .int (g z)) from merge_dmap (s := []) five_nd]
            have SBx : SameB b Hy (upd Hx D (.dK (dmap fiveN (fun z => .int (g z))))) := ((SameB.of sa).trans hI.sm).trans (.of (same_new hD))
            have hBw : BagAt (upd Hx D (.dK (dmap fiveN (fun z => .int (g z))))) b 60 := hBx.up (same_new hD) (by show 50 + 2 * 5 ≤ 60; omega)
            have dW : DM (upd Hx D (.dK (dmap fiveN (fun z => .int (g z))))) D fiveN (fun z => .int (g z)) := upd_same
            have hDb : D ≠ b := fun e => by rw [e] at hD; exact hBx.some hD
            have hD0 : H' D = none := by
              cases z : H' D with
              | none => rfl
              | some o => rw [((SameB.of sa).trans hI.sm) D o hDb (S09 _ _ z)] at hD; cases hD
            show RB _ _ _ _ (upd Hx D (.dK (dmap fiveN (fun z => .int (g z)))))
            generalize upd Hx D (.dK (dmap fiveN (fun z => .int (g z)))) = Hw at SBx hBw dW
            have hDy : Hy D = none := by
              cases z : Hy D with
              | none => rfl
              | some o => rw [((SameB.of sa).trans hI.sm) D o hDb z] at hD; cases hD
            have hDw2 : Dq K (hid [b, D] Hw) (.ref l) (encBs false true bs) := hD9.up (fun x o e => by
              have nb : x ≠ b := fun z => by unfold hid at e; rw [if_pos (by simp [z])] at e; cases e
              have e2 := hid_le _ _ e
              have nD : x ≠ D := fun z => by rw [z, hDy] at e2; cases e2
              rw [hid_of (by simp [nb, nD])]
              exact SBx x o nb e2)
            have S0w : Same H' Hw := fun x o e => SBx x o (fun z => by rw [z, hb0] at e; cases e) (S09 x o e)
            have hDw : Dq K (hid [b] Hw) (.ref l) (encBs false true bs) := hD9.up (SBx.hid hbm)
            have hlw : Hw l = some (.lst xsB) := SBx l _ hlb hl9
            clear SBx hI
            -- with a note
            refine rb_setR 7 (re_Ty (call_dictP rfl) (ra_1 (re_bin op_cat ⟨_, LiI.pe_listItems rfl re_ rfl T.lst (by decide +kernel), XV.go (xv_name 6 rfl) fun H1 s1 => ⟨D, dmap fiveN (fun z => .int (g z)), rfl, dW.up s1, fun H2 pI ts s2 hpI hts hpt h2 pr2 =>
              ⟨_, pe_lst ra_, ra_1 ⟨_, pe_tup ra_, ra_cons (XV.go xv_str fun Ha sa => ra_1 (XD.go (M := []) xd_non fun vn Hb sb hvn => ⟨by show 2 ≤ sizeLine; decide, fun tn htn => ⟨by show 1 ≤ sizeLine; decide, fun ln hln => ⟨pI, ln, ts.map V.ref, [.ref tn], rfl, rfl, ?i1, upd_same, ?i2, fun c hc => ⟨c, ts ++ [tn], dmap fiveN (fun z => .int (g z)) ++ [(.inr "note", .non)], rfl, ?i3, ?i4, fun D2 hD2 => ?more⟩⟩⟩⟩))⟩⟩⟩⟩)) T.dct (by decide +kernel)) scLaw.nd
            case i1 => exact (((sa.trans sb).trans (same_new htn)).trans (same_new hln)) _ _ h2
            case i2 =>
              have := pr2.length
              rw [List.length_map, this]
              exact Nat.le_trans (show (dmap fiveN fun z => V.int (g z)).length + 1 ≤ 6 from Nat.le_refl _) (by decide)
            case i3 => rw [List.map_append]; exact SqL.of upd_same
            case i4 =>
              have sx := (((sa.trans sb).trans (same_new htn)).trans (same_new hln)).trans (same_new (o := .lst (ts.map V.ref ++ [.ref tn])) hc)
              refine Paired.snoc (paired_mono pr2 fun u kv h => SqT.of (sx _ _ h)) (SqT.of (((same_new hln).trans (same_new hc)) _ _ ?_))
              rw [dp_non hvn]
              exact upd_same
            case more =>
              rw [note_merge]
              have sxm : Same Hw (upd (upd (upd (upd Hb tn (.tup [.str "note", vn])) ln (.lst [.ref tn])) c (.lst (ts.map V.ref ++ [.ref tn]))) D2 (.dK (dmap sixK (noteF g)))) := ((((s1.trans s2).trans (sa.trans sb)).trans (same_new htn)).trans (same_new hln)).trans ((same_new hc).trans (same_new hD2))
              have dM : DM (upd (upd (upd (upd Hb tn (.tup [.str "note", vn])) ln (.lst [.ref tn])) c (.lst (ts.map V.ref ++ [.ref tn]))) D2 (.dK (dmap sixK (noteF g)))) D2 sixK (noteF g) := upd_same
              show RB _ _ _ _ (upd (upd (upd (upd Hb tn (.tup [.str "note", vn])) ln (.lst [.ref tn])) c (.lst (ts.map V.ref ++ [.ref tn]))) D2 (.dK (dmap sixK (noteF g))))
              generalize upd (upd (upd (upd Hb tn (.tup [.str "note", vn])) ln (.lst [.ref tn])) c (.lst (ts.map V.ref ++ [.ref tn]))) D2 (.dK (dmap sixK (noteF g))) = Hm at sxm dM
              have hDm0 : Dq K (hid [] Hm) (.ref l) (encBs false true bs) := (hDw.up (hid_mono sxm)).up (hid_less (by simp))
              refine rb_ifF (xt_reprNeB (M := []) T.rep (xd_holds (g := g) hH hr4 Live.nil (xd_name 3 rfl hDm0) ok (xv_name 7 rfl) dM (fun x hx => note_at (h4n x hx))) (xd_lhold (g := g) hLH hr1 Live.nil (xd_name 3 rfl hDm0) ok (xv_name 6 rfl) (dW.up sxm) (fun x hx => ⟨four_five x (h4n x hx), rfl⟩))) fun Hn sn => ?_
              -- values that are refused
              refine rb_ifF ((xt_neD (M := []) (d1 := .list [.str "values", .none]) (d2 := .list [.str "values", .none]) hu (fun H4 s4 R qR => ?cval) (xd_lst Live.nil (xa_cons xd_str (xa_cons xd_non xa_nil))) (by decide +kernel) (by decide +kernel)).to (by decide +kernel)) fun Ho so => ?_
              case cval =>
                refine re_caught hCa hr6 xv_int (by decide) (by decide) fun H5 s5 R2 qR2 => ra_cons (XD.go (M := []) (xd_lst Live.nil xa_nil) fun v1 H6 s6 hv1 => ra_cons (XD.go (M := []) xd_non fun v2 H7 s7 hv2 => ra_1 (XV.go xv_int fun H8 s8 => qR2 _ _ _ H8 fun H9 s9 => ?_)))
                have s69 := (s7.trans s8).trans s9
                rw [dp_non hv2]
                exact .vals ⟨[], false, true, [], Live.nil, hv1.up (hid_mono (M := []) s69), ⟨by decide, by simp⟩, .inl ⟨"NoneType", th_dq (M := []) .non, by decide⟩⟩ fun p' Hb' sb' hp' hn' e => qR _ Hb' (((s5.trans s6).trans s69).trans sb') (.lst (hid_nil e) (.cons (.str _) (.cons .non .nil)))
              have swo := (sxm.trans sn).trans so
              -- changed values
              refine rb_range T.rng (XD.go (M := []) xd_int fun v4 Hpp spp hv4 => ⟨4, dp_int hv4, by omega, fun j σ' Hj => ∃ (g' : Str → Int) (u8 : Option V), σ' = [some (.ref a), some (.int i), some (.ref b), some (.ref l), u4, u5, some (.ref D), some (.ref D2), u8, u9, u10] ∧ Same H' Hj ∧ BagAt Hj b (60 + 2 * j) ∧ Hj l = some (.lst xsB) ∧ Dq K (hid [b, D] Hj) (.ref l) (encBs false true bs) ∧ DM Hj D fiveN (fun z => .int (g' z)), ?l0, fun j σ' Hj hj w => ?lst, fun σ' Hj w => ?ld⟩)
              case l0 =>
                have sx := swo.trans spp
                exact ⟨g, _, rfl, S0w.trans sx, hBw.up sx (by omega), sx _ _ hlw, hDw2.up (hid_mono sx), dW.up sx⟩
              case lst =>
                obtain ⟨g', u8', rfl, S0j, hBj, hlj, hDj, dWj⟩ := w
                refine rg_name 8 ?_ scLaw.nd
                refine ⟨_, pss_cons (ps_dput hu1 re_ re_ re_ rfl) rb_, re_take (many := 12) (n := 60 + 2 * j) GT FT hr1 (xv_name 2 rfl) xv_int hBj fun r Hq r0 r1 sBq hBq => XV.go (xv_name 6 rfl) fun Hr sr => re_menuS (ss := fourN) (n := 60 + 2 * j + 1) GT FT hr1 (xa_cons xd_str (xa_cons xd_str (xa_cons xd_str (xa_cons xd_str xa_nil)))) (xv_name 2 rfl) (hBq.up sr (Nat.le_refl _)) fun y hy Hs sBs hBs => ?_⟩
                have SBs : SameB b Hj Hs := (sBq.trans (.of sr)).trans sBs
                have dWs : Hs D = some (.dK (dmap fiveN (fun z => .int (g' z)))) := SBs D _ hDb dWj
                refine ⟨D, _, rfl, DPut.k (k := .inr y) dWs (by rw [dmap_len]; decide), ?_⟩
                rw [put_dmap, show Bf.ins fiveN y = fiveN from if_pos (four_five y hy), up_int]
                have hls : Hs l = some (.lst xsB) := SBs l _ hlb hlj
                have hlD : l ≠ D := fun e => by rw [e, dWs] at hls; cases hls
                have SDs : Same H' (upd Hs D (.dK (dmap fiveN (fun z => .int (Bf.up g' y r z))))) := fun x o e => by
                  rw [upd_ne (fun z => by rw [z, hD0] at e; cases e)]
                  exact SBs x o (fun z => by rw [z, hb0] at e; cases e) (S0j _ _ e)
                have hBu : BagAt (upd Hs D (.dK (dmap fiveN (fun z => .int (Bf.up g' y r z))))) b (60 + 2 * (j + 1)) := bag_upd (hBs.up (Same.refl _) (by omega)) (Ne.symm hDb)
                have hlu : (upd Hs D (.dK (dmap fiveN (fun z => .int (Bf.up g' y r z))))) l = some (.lst xsB) := by rw [upd_ne hlD]; exact hls
                have hDu : Dq K (hid [b, D] (upd Hs D (.dK (dmap fiveN (fun z => .int (Bf.up g' y r z)))))) (.ref l) (encBs false true bs) := by
                  rw [hid_upd_mem (by simp)]
                  exact hDj.up (SBs.hid (by simp))
                have dWu : DM (upd Hs D (.dK (dmap fiveN (fun z => .int (Bf.up g' y r z))))) D fiveN (fun z => .int (Bf.up g' y r z)) := upd_same
                show RB _ _ _ _ (upd Hs D (.dK (dmap fiveN (fun z => .int (Bf.up g' y r z)))))
                generalize upd Hs D (.dK (dmap fiveN (fun z => .int (Bf.up g' y r z)))) = Hu at SDs hBu hlu hDu dWu
                have Lu : Live [b, D] Hu := fun x hx => by
                  simp only [List.mem_cons, List.not_mem_nil, or_false] at hx
                  rcases hx with e | e
                  · rw [e]; exact hBu.some
                  · rw [e]; unfold DM at dWu; rw [dWu]; simp
                refine rb_ifF (xt_reprNeB (M := [b, D]) T.rep (xd_holds (g := Bf.up g' y r) hH hr4 Lu (xd_name 3 rfl hDu) ok (xv_name 6 rfl) dWu (fun x hx => ⟨four_five x (h4n x hx), rfl⟩)) (xd_lhold (g := Bf.up g' y r) hLH hr1 Lu (xd_name 3 rfl hDu) ok (xv_name 6 rfl) dWu (fun x hx => ⟨four_five x (h4n x hx), rfl⟩))) fun Hv sv => rb_nil ⟨_, _, rfl, SDs.trans sv, hBu.up sv (Nat.le_refl _), sv _ _ hlu, hDu.up (hid_mono sv), dWu.up sv⟩
              case ld =>
                obtain ⟨g', u8', rfl, S0j, hBj, hlj, hDj, dWj⟩ := w
                have hD0j : Dq K (hid [] Hj) (.ref l) (encBs false true bs) := hDj.up (hid_less (by simp))
                obtain ⟨fb, hfb⟩ : ∃ fb : Bool, fb = true ↔ ∃ h, Bf.Holds bs h := by
                  by_cases z : ∃ h, Bf.Holds bs h
                  · exact ⟨true, fun _ => z, fun _ => rfl⟩
                  · exact ⟨false, fun y => Bool.noConfusion y, fun y => absurd y z⟩
                cases fb with
                | true =>
                  refine rb_ifF ((xt_eqS (M := []) (xd_set0 (b := true) hS hr4 Live.nil (xd_name 3 rfl hD0j) ok hfb) xd_str).to (by decide +kernel)) fun Hz sz => ?_
                  have hD0z := hD0j.up (hid_mono (M := []) sz)
                  refine rb_ifF ((xt_not (xt_val (M := []) (k := true) (xd_odd GO FO hA hr (xd_name 3 rfl hD0z) ok))).to rfl) fun Hy' sy' => rb_nil ⟨((sH0.trans S0j).trans sz).trans sy', _, _, _, _, _, _, _, _, _, _, rfl⟩
                | false =>
                  have hno : ¬ ∃ h, Bf.Holds bs h := fun z => Bool.noConfusion (hfb.mpr z)
                  refine rb_ifT ((xt_eqS (M := []) (xd_set0 (b := false) hS hr4 Live.nil (xd_name 3 rfl hD0j) ok hfb) xd_str).to (by decide +kernel)) fun Hz sz => ?_
                  have hD0z := hD0j.up (hid_mono (M := []) sz)
                  refine rb_setR 9 (re_caught hCa hr6 xv_int (by decide) (by decide) fun H2 s2 R2 qR2 => ra_cons (XV.go (xv_name 3 rfl) fun H3 s3 => ra_cons (XV.go xv_str fun H4 s4 => ra_1 (XV.go xv_str fun H5 s5 => qR2 _ _ _ H5 fun H6 s6 => ?c1)))) scLaw.nd
                  case c1 =>
                  have s26 := (((s2.trans s3).trans s4).trans s5).trans s6
                  refine .name [] false true bs (.str "a") (.str "b") Live.nil (hD0z.up (hid_mono (M := []) s26)) ok (.str _) (.str _) (by decide +kernel) (by decide +kernel) (fun c => absurd c (by decide +kernel)) (fun _ c => absurd c (by decide +kernel)) (fun _ _ => ⟨hno, fun c ring r H7 s7 hr0 h7 hRi hz p' H8 s8 hp' hn' e => ?_⟩)
                  have sz8 := ((sz.trans s26).trans s7).trans s8
                  have hD08 := hD0j.up (hid_mono (M := []) sz8)
                  have hF8 : Dq K (hid [] H8) (.ref p') (.list [.str "not", .list (ring.map PyData.int)]) := .lst (hid_nil e) (.cons (.str _) (.cons (.lst (hid_nil (s8 _ _ h7)) (ints_dq ring)) .nil))
                  refine rb_setR 7 (re_caught hCa hr6 xv_int (by decide) (by decide) fun H2 s2 R2 qR2 => ra_cons (XV.go (xv_name 3 rfl) fun H3 s3 => ra_cons (XV.go xv_str fun H4 s4 => ra_1 (XV.go xv_str fun H5 s5 => qR2 _ _ _ H5 fun H6 s6 => ?c2)))) scLaw.nd
                  case c2 =>
                  have t26 := (((s2.trans s3).trans s4).trans s5).trans s6
                  refine .name [] false true bs (.str "zz") (.str "zz") Live.nil (hD08.up (hid_mono (M := []) t26)) ok (.str _) (.str _) (by decide +kernel) (by decide +kernel) (fun c => absurd c (by decide +kernel)) (fun _ c => absurd c (by decide +kernel)) (fun _ _ => ⟨hno, fun c' ring' r' H9 s9 hr0' h9 hRi' hz' p'' H10 s10 hp'' hn'' e' => ?_⟩)
                  have sz10 := ((sz8.trans t26).trans s9).trans s10
                  have hD10 := hD0j.up (hid_mono (M := []) sz10)
                  have hF10 := hF8.up (hid_mono (M := []) ((t26.trans s9).trans s10))
                  have hM10 : Dq K (hid [] H10) (.ref p'') (.list [.str "not", .list (ring'.map PyData.int)]) := .lst (hid_nil e') (.cons (.str _) (.cons (.lst (hid_nil (s10 _ _ h9)) (ints_dq ring')) .nil))
                  have hrl : (ring.map PyData.int).length ≤ 1000 := by
                    have := names_len bs bs.length
                    rw [List.take_length] at this
                    have := okB.len
                    rw [List.length_map]
                    omega
                  refine rb_ifF (xt_or3F ((xt_neS (M := []) (x := "not") (y := "not") (xd_ixL (fun _ _ => rfl) (xd_name 9 rfl hF10) xd_int (atI_nat (j := 0) rfl)) xd_str).to (by decide +kernel)) ((xt_neS (M := []) (x := "not") (y := "not") (xd_ixL (fun _ _ => rfl) (xd_name 7 rfl hM10) xd_int (atI_nat (j := 0) rfl)) xd_str).to (by decide +kernel))
                    ((xt_not (xt_val (M := []) (k := true) ((xd_lring hR hr1 Live.nil (xd_name 3 rfl hD10) ok (xd_ixL (fun _ _ => rfl) (xd_name 9 rfl hF10) xd_int (atI_nat (j := 1) rfl)) flk_ints hrl).to (by rw [(ring_true hRi).1])))).to rfl)) fun H11 s11 => ?_
                  have hD11 := hD10.up (hid_mono (M := []) s11)
                  refine rb_ifF ((xt_neD (M := []) (d1 := .list [.list [.str "name", .str "A"], .list [.str "name", .str "B"]]) (d2 := .list [.list [.str "name", .str "A"], .list [.str "name", .str "B"]]) hu (xd_lst Live.nil (xa_cons (fun H4 s4 R qR => ?k1) (xa_cons (fun H4 s4 R qR => ?k2) xa_nil))) (xd_lst Live.nil (xa_cons (xd_lst Live.nil (xa_cons xd_str (xa_cons xd_str xa_nil))) (xa_cons (xd_lst Live.nil (xa_cons xd_str (xa_cons xd_str xa_nil))) xa_nil))) (by decide +kernel) (by decide +kernel)).to (by decide +kernel)) fun H12 s12 => rb_nil ?_
                  case k1 =>
                    refine re_caught hCa hr6 xv_int (by decide) (by decide) fun H5 s5 R2 qR2 => ra_cons (XV.go (xv_name 3 rfl) fun H6 s6 => ra_cons (XV.go xv_str fun H7 s7 => ra_1 (XV.go xv_int fun H8 s8 => qR2 _ _ _ H8 fun H9 s9 => ?_)))
                    have s59 := (((s5.trans s6).trans s7).trans s8).trans s9
                    exact .name [] false true bs (.str "A") (.int 3) Live.nil (hD11.up (hid_mono (M := []) (s4.trans s59))) ok (.str _) (.int _) (by decide +kernel) (by decide +kernel) (fun _ p' Ha sa hp' hn' e => qR _ Ha (s59.trans sa) (.lst (hid_nil e) (.cons (.str _) (.cons (.str _) .nil)))) (fun c => absurd c (by decide +kernel)) (fun c => absurd c (by decide +kernel))
                  case k2 =>
                    refine re_caught hCa hr6 xv_int (by decide) (by decide) fun H5 s5 R2 qR2 => ra_cons (XV.go (xv_name 3 rfl) fun H6 s6 => ra_cons (XV.go xv_str fun H7 s7 => ra_1 (XV.go xv_str fun H8 s8 => qR2 _ _ _ H8 fun H9 s9 => ?_)))
                    have s59 := (((s5.trans s6).trans s7).trans s8).trans s9
                    exact .name [] false true bs (.str "a") (.str "B") Live.nil (hD11.up (hid_mono (M := []) (s4.trans s59))) ok (.str _) (.str _) (by decide +kernel) (by decide +kernel) (fun c => absurd c (by decide +kernel)) (fun _ _ p' Ha sa hp' hn' e => qR _ Ha (s59.trans sa) (.lst (hid_nil e) (.cons (.str _) (.cons (.str _) .nil)))) (fun _ c => absurd c (by decide +kernel))
                  have hD12 := hD11.up (hid_mono (M := []) s12)
                  refine rb_ifF ((xt_not (xt_val (M := []) (k := true) (xd_odd GO FO hA hr (xd_name 3 rfl hD12) ok))).to rfl) fun Hy' sy' => rb_nil ⟨((((sH0.trans S0j).trans sz10).trans s11).trans s12).trans sy', _, _, _, _, _, _, _, _, _, _, rfl⟩
    · obtain ⟨sH0, u1, u2, u3, u4, u5, u6, u7, u8, u9, u10, rfl⟩ := w
      refine rb_ret (M := []) xd_bl fun v1 H1 s1 hv1 => ?_
      rw [dp_bl hv1]
      exact q H1 (sH0.trans s1)
end
end Zn

set_option Elab.async false
set_option linter.all false
set_option maxRecDepth 100000
set_option maxHeartbeats 8000000
namespace Zn
open PySem PySem.Spec PyProof.Rows L2 Dl
/-! ### the law called behind the top -/
section
variable {P : Program} {w : World} {K : PySem.W.Frag} {mg mb : Str → Option Value} {fa a : Addr} {fd : FuncData} {t : Shared} {us : List Value} {ns : List Int}
/-- from a heap H that tells of the script at most -/
theorem head_from {H : Hp} (KX : K.In t.heap) (hg : t.heap.Ns mainGlobals mg) (hb : t.heap.Ns builtinsNs mb) (hbb : ∀ x : Str, x ≠ "__name__" → mb x = bootBuiltins x) (hlim : t.heap.NoLimit) (gens : t.gens = #[])
    (hobj : t.heap.get? a = some { cls := .type "list", data := .seq us.toArray })
    (F : ∀ base : Heap, K.In base → base.Ns mainGlobals mg → FnG P w K mg base 8 fa fd ["_law_script"] (spLaw K)) (hbd : ∀ (s : Shared) (u : Value), BindsTo s fd ⟨[u], []⟩ [("_law_script", u)])
    (only : Only H) (hS : SqL K H a (ns.map V.int)) (hok : HOk P w H t.heap) (at1 : ∀ b, H b ≠ none → b = a) (nk : H a ≠ none → K.lookup a = none) :
    codeAny (model P w) callerA (.call (.ref fa) ⟨[.ref a], []⟩) (fun r s => r = .ok (.ret (.bool true)) ∧ OldK t.heap s.heap ∧ s.os = t.os ∧ AllBare s.gens) t := by
  have kept : ∀ {b : Addr} {o : Obj}, t.heap.get? b = some o → H b = none → (hidT t.heap H).get? b = some o := fun p q => hidT_get p q
  have free : ∀ {b : Addr} {o : Obj}, t.heap.get? b = some o → (b = a → False) → H b = none := fun {b o} _ nb => Classical.byContradiction fun z => nb (at1 b z)
  have spaces : ∀ {b : Addr} {m : Str → Option Value}, t.heap.Ns b m → (hidT t.heap H).Ns b m := fun {b m} z => by
    obtain ⟨o, es, ep, p, q, r⟩ := z
    refine ⟨o, es, ep, kept p (free p fun e => ?_), q, r⟩
    rw [e, hobj] at p
    injection p with p
    rw [← p] at q
    injection q
  have kin : K.In (hidT t.heap H) := fun b o e => kept (KX b o e) (Classical.byContradiction fun z => by
    have eb := at1 b z
    rw [eb] at z e
    rw [nk z] at e
    cases e)
  obtain ⟨mc, hl1, hl2⟩ := hlim
  have md : Mod K mg (hidT t.heap H) := ⟨kin, spaces hg, ⟨mb, spaces hb, hbb⟩, mc, spaces hl1, hl2⟩
  have env : Env0 P w K mg (hidT t.heap H) callerA [] t H := { frames := rfl, mod := md, bs := fun b o e => of_hidT e, bsz := Nat.le_of_eq (hidT_size _ _), funs := trivial, frf := fun b z => absurd z List.not_mem_nil, hok := hok, bare := .of_eq gens }
  have run := (F _ kin (spaces hg)).run callerA rfl ⟨rfl, by decide, by decide⟩ [] t H ⟨[.ref a], []⟩ [.ref a] [.ref a] (fun v _ => v = .bl true) (fun _ _ _ => False) env (hbd t (.ref a)) (.cons rfl .nil) ⟨a, ns, rfl, hS, fun _ _ => rfl⟩
  refine codeAny_mono run fun r s z => ?_
  match r, z with
  | .error e, z => exact z.elim
  | .ok .next, z => exact z.elim
  | .ok .brk, z => exact z.elim
  | .ok .cont, z => exact z.elim
  | .ok (.ret u), z =>
    obtain ⟨v, H2, os, bare, un, hok2, rv, ev⟩ := z
    have ev' : v = .bl true := ev
    rw [ev'] at rv
    have eu : u = Value.bool true := rv
    rw [eu]
    refine ⟨rfl, OldK.of_keep fun b o e => ?_, os, bare⟩
    rcases only b with n | ⟨ob, xs, fz⟩
    · exact un.keep b o e n (fun q => absurd (show b ∈ ([] : List Addr) from q) List.not_mem_nil) (by simp)
    · have p1 := (hok b _ fz).1
      have p2 := (hok2 b _ (un.frzs b ob _ fz)).1
      rw [e] at p1
      injection p1 with p1
      rw [p1]
      exact p2
/-- the law, called with a script -/
theorem head_g (KX : K.In t.heap) (hg : t.heap.Ns mainGlobals mg) (hb : t.heap.Ns builtinsNs mb) (hbb : ∀ x : Str, x ≠ "__name__" → mb x = bootBuiltins x) (hlim : t.heap.NoLimit) (gens : t.gens = #[])
    (hobj : t.heap.get? a = some { cls := .type "list", data := .seq us.toArray }) (hi : IntsAre us ns) (hl : ns.length ≤ sizeLine)
    (F : ∀ base : Heap, K.In base → base.Ns mainGlobals mg → FnG P w K mg base 8 fa fd ["_law_script"] (spLaw K)) (hbd : ∀ (s : Shared) (u : Value), BindsTo s fd ⟨[u], []⟩ [("_law_script", u)]) :
    codeAny (model P w) callerA (.call (.ref fa) ⟨[.ref a], []⟩) (fun r s => r = .ok (.ret (.bool true)) ∧ OldK t.heap s.heap ∧ s.os = t.os ∧ AllBare s.gens) t := by
  have vi := vals_ints hi
  have el := hi.length
  rcases lk : K.lookup a with _ | o
  · have e1 : ∀ b, b ≠ a → (if b = a then some (HO.frz { cls := .type "list", data := .seq us.toArray } (.lst (ns.map V.int))) else none) = none := fun b n => if_neg n
    refine head_from (H := fun b => if b = a then some (.frz { cls := .type "list", data := .seq us.toArray } (.lst (ns.map V.int))) else none) (ns := ns) KX hg hb hbb hlim gens hobj F hbd (fun b => ?_) (.inl (.inr ⟨_, if_pos rfl⟩)) (fun b u z => ?_) (fun b z => Classical.byContradiction fun n => z (e1 b n)) fun _ => lk
    · exact (Classical.em (b = a)).elim (fun z => .inr ⟨_, _, if_pos z⟩) fun z => .inl (e1 b z)
    · rcases Classical.em (b = a) with e | e
      · rw [e] at z ⊢
        have z' := (if_pos rfl).symm.trans z
        injection z' with z'
        rw [← z']
        exact ⟨hobj, by rw [List.length_map]; exact hl, us, _, vi, hobj⟩
      · exact absurd ((e1 b e).symm.trans z) (fun q => nomatch q)
  · have e := KX a o lk
    rw [hobj] at e
    injection e with e
    rw [← e] at lk
    exact head_from (H := fun _ => none) (ns := ns) KX hg hb hbb hlim gens hobj F hbd (fun _ => .inl rfl) (.inr ⟨_, us.toArray, _, lk, rfl, rfl, rfl, by rw [List.size_toArray, el]; exact hl, by simpa using vi⟩) (fun _ _ z => nomatch z) (fun _ z => absurd rfl z) (fun z => absurd rfl z)
end
theorem walk_g {l : PySem.W.OpenLaw} {q : Program} {loose : List Str} {XP : (Str → Option Value) → Heap → Prop} {YP : World → Heap → Prop} {d : DefRec} {K : Params → PySem.W.Frag} (hn : l.most = some 63) (hdf : d.params.defaults = [])
    (hY : ∀ (w : World) (h : Heap), YP w h → (K w.params).In h)
    (F : ∀ (w : World) (mg : Str → Option Value) (fa : Addr) (h : Heap), (K w.params).In h → h.Ns mainGlobals mg → mg d.name = some (.ref fa) →
      ∃ fd : FuncData, (∀ (s : Shared) (u : Value), BindsTo s fd ⟨[u], []⟩ [("_law_script", u)]) ∧ ∀ base : Heap, (K w.params).In base → base.Ns mainGlobals mg → FnG l.prog w (K w.params) mg base 8 fa fd ["_law_script"] (spLaw (K w.params))) :
    PySem.W.WalkO q loose XP YP l.row.toRowW d [] (fun f vs => PySem.call f vs) :=
  Att.attach_call hn hdf fun w _ s1 mg _ fa _ _ _ _ a us ns G Y _ _ _ hm hobj hi hl hg => by
    have KX := hY w _ Y
    obtain ⟨fd, hb, hF⟩ := F w mg fa _ KX G.T.g hm
    exact head_g KX G.T.g G.T.b G.T.builtins G.T.nolimit hg hobj hi (Nat.le_trans hl (by decide)) hF hb
end Zn

set_option Elab.async false
set_option linter.all false
set_option maxRecDepth 100000
set_option maxHeartbeats 8000000
namespace Zn
open PySem PySem.Spec PyProof.Rows L2 Dl
/-! k16: what the start has written, put together -/
def DfE (K : PySem.W.Frag) (mg : Str → Option Value) (x : Str) (st : Stmt) (ps : List Str) : Prop := ∃ f fd, Df K mg x st ps f fd
theorem df_mk {K : PySem.W.Frag} {h : Heap} {mg : Str → Option Value} {x : Str} {st : Stmt} {ps : List Str} {f : Addr} {od an : Option Addr} {osl : Array (Option Value)} {oc kV dc pm cd ct : Value} (X : K.In h) (G : h.Ns mainGlobals mg)
    (a : PySem.W.nsIn K mainGlobals x = some (some (.ref f))) (l : K.lookup f = some ⟨oc, od, .func (PySem.W.fnOf x x (defArgs st) (defBody st) (defScope st) .none kV dc pm an cd ct), osl⟩) (c : PySem.W.codeIn K cd x = true) (k : PySem.W.keepIn K (.ref f) = true)
    (hb : ∀ (us : List Value), us.length = ps.length → bindArgs (PySem.W.fnOf x x (defArgs st) (defBody st) (defScope st) .none kV dc pm an cd ct) ⟨us, []⟩ = pure (ps.zip us)) : DfE K mg x st ps :=
  ⟨f, _, fun_mk l c k, PySem.W.mg_of X G a, .all hb⟩
def GlI (K : PySem.W.Frag) (x : Str) (n : Int) : Prop := ∃ t, PySem.W.nsIn K mainGlobals x = some (some (.int n t))
theorem gi_mk {K : PySem.W.Frag} {x : Str} {n : Int} {t : Tok} (h : PySem.W.nsIn K mainGlobals x = some (some (.int n t))) : GlI K x n := ⟨t, h⟩
def GlS (K : PySem.W.Frag) (x : Str) (n : Str) : Prop := ∃ t, PySem.W.nsIn K mainGlobals x = some (some (.str n t))
theorem gs_mk {K : PySem.W.Frag} {x : Str} {n : Str} {t : Tok} (h : PySem.W.nsIn K mainGlobals x = some (some (.str n t))) : GlS K x n := ⟨t, h⟩
structure Gls (K : PySem.W.Frag) : Prop where
  g4 : GlI K "LONGEST_NAME" 8
  g5 : GlS K "LETTERS" letS
  g6 : GlS K "DIGITS" digS
/-- a class of exceptions with one field, as the start has laid it -/
structure XcE (K : PySem.W.Frag) (x qn : Str) (st : Stmt) (C : Addr) : Prop where
  aC : PySem.W.nsIn K mainGlobals x = some (some (.ref C))
  T : OexC K C
  xf : XfC K C
  no : PySem.W.findIn K (.ref C) "value" = some none
  isC : PySem.W.isClsIn K C = true
  te : PySem.W.exmOne K (.ref C) (.ref C) = some true
  fn : ∃ fI fd, PySem.W.findIn K (.ref C) "__init__" = some (some (.ref fI)) ∧ PySem.W.typeIn K (.ref fI) = some (.type "function") ∧ Fun K "__init__" qn st fI fd ∧ Binds K fd ["self", "value"] []
theorem exm_any {K : PySem.W.Frag} {D S : Addr} {r : Bool} (h1 : PySem.W.subIn K (.ref S) (.type "BaseException") = some true) (h2 : PySem.W.isClsIn K S = true) (h3 : PySem.W.typeIn K (.ref S) = some (.type "type")) (h4 : PySem.W.subIn K (.ref D) (.ref S) = some r) : PySem.W.exmOne K (.ref D) (.ref S) = some r := by
  unfold PySem.W.exmOne
  have h2' : (PySem.W.clsIn K S).isSome = true := h2
  have e2 : ((PySem.W.clsIn K S).isSome && PySem.W.typeIn K (.ref S) == some (.type "type")) = true := by
    rw [h2', h3] <;> rfl
  rw [h1, if_pos (by rfl)]
  show (if ((PySem.W.clsIn K S).isSome && PySem.W.typeIn K (.ref S) == some (.type "type")) = true then PySem.W.subIn K (.ref D) (.ref S) else none) = some r
  rw [if_pos e2, h4]
theorem xc_mk {K : PySem.W.Frag} {x qn : Str} {st : Stmt} {C fI N : Addr} {nm q : Str} {bs bm : List Value} {sn : List Str} {sub : List Value} {ab : Bool} {col : Option Bool} {dd : Option Addr} {m0 m1 m2 m3 m5 : Option Value} {od an : Option Addr} {osl : Array (Option Value)} {oc kV dc pm cd ct : Value}
    (aC : PySem.W.nsIn K mainGlobals x = some (some (.ref C))) (xL : K.lookup C = some (excClassObj nm q C N bs bm true sn sub ab col dd m0 m1 m2 m3 m5 "ValueError.__new__")) (ve : PySem.HandSPX.refsVE bm = true)
    (sa : PySem.W.findIn K (.ref C) "__setattr__" = some (some (.builtin "object.__setattr__"))) (ga : PySem.W.findIn K (.ref C) "__getattribute__" = some (some (.builtin "BaseException.__getattribute__"))) (gg : PySem.W.findIn K (.ref C) "__getattr__" = some none) (nb : PySem.W.findIn K (.ref C) "value" = some none)
    (kC : PySem.W.keepIn K (.ref C) = true) (eC : PySem.W.subIn K (.ref C) (.type "BaseException") = some true) (tC : PySem.W.typeIn K (.ref C) = some (.type "type")) (hC : PySem.W.hasDictIn K C = true) (iC : PySem.W.isClsIn K C = true) (sC : PySem.W.subIn K (.ref C) (.ref C) = some true)
    (a1 : PySem.W.findIn K (.ref C) "__init__" = some (some (.ref fI))) (t1 : PySem.W.typeIn K (.ref fI) = some (.type "function")) (l : K.lookup fI = some ⟨oc, od, .func (PySem.W.fnOf "__init__" qn (defArgs st) (defBody st) (defScope st) .none kV dc pm an cd ct), osl⟩) (c : PySem.W.codeIn K cd qn = true) (k : PySem.W.keepIn K (.ref fI) = true)
    (hb : ∀ (us : List Value), us.length = 2 → bindArgs (PySem.W.fnOf "__init__" qn (defArgs st) (defBody st) (defScope st) .none kV dc pm an cd ct) ⟨us, []⟩ = pure ((["self", "value"] : List Str).zip us)) : XcE K x qn st C :=
  ⟨aC, ⟨⟨nm, q, N, bs, bm, sn, sub, ab, col, dd, m0, m1, m2, m3, m5, xL, ve⟩, sa, eC, tC, kC⟩, ⟨ga, gg, eC, hC⟩, nb, iC, exm_any eC iC tC sC, fI, _, a1, t1, fun_mk l c k, .all hb⟩
structure XcG (K : PySem.W.Frag) (x qn : Str) (st : Stmt) (C : Addr) : Prop where
  aC : PySem.W.nsIn K mainGlobals x = some (some (.ref C))
  T : OexG K C SLx.leTl "LookupError.__new__"
  xf : XfC K C
  no : PySem.W.findIn K (.ref C) "value" = some none
  isC : PySem.W.isClsIn K C = true
  te : PySem.W.exmOne K (.ref C) (.ref C) = some true
  fn : ∃ fI fd, PySem.W.findIn K (.ref C) "__init__" = some (some (.ref fI)) ∧ PySem.W.typeIn K (.ref fI) = some (.type "function") ∧ Fun K "__init__" qn st fI fd ∧ Binds K fd ["self", "value"] []
theorem xcg_mk {K : PySem.W.Frag} {x qn : Str} {st : Stmt} {C fI N : Addr} {nm q : Str} {bs bm : List Value} {sn : List Str} {sub : List Value} {ab : Bool} {col : Option Bool} {dd : Option Addr} {m0 m1 m2 m3 m5 : Option Value} {od an : Option Addr} {osl : Array (Option Value)} {oc kV dc pm cd ct : Value}
    (aC : PySem.W.nsIn K mainGlobals x = some (some (.ref C))) (xL : K.lookup C = some (excClassObj nm q C N bs bm true sn sub ab col dd m0 m1 m2 m3 m5 "LookupError.__new__")) (ve : SLx.Tl SLx.leTl bm)
    (sa : PySem.W.findIn K (.ref C) "__setattr__" = some (some (.builtin "object.__setattr__"))) (ga : PySem.W.findIn K (.ref C) "__getattribute__" = some (some (.builtin "BaseException.__getattribute__"))) (gg : PySem.W.findIn K (.ref C) "__getattr__" = some none) (nb : PySem.W.findIn K (.ref C) "value" = some none)
    (kC : PySem.W.keepIn K (.ref C) = true) (eC : PySem.W.subIn K (.ref C) (.type "BaseException") = some true) (tC : PySem.W.typeIn K (.ref C) = some (.type "type")) (hC : PySem.W.hasDictIn K C = true) (iC : PySem.W.isClsIn K C = true) (sC : PySem.W.subIn K (.ref C) (.ref C) = some true)
    (a1 : PySem.W.findIn K (.ref C) "__init__" = some (some (.ref fI))) (t1 : PySem.W.typeIn K (.ref fI) = some (.type "function")) (l : K.lookup fI = some ⟨oc, od, .func (PySem.W.fnOf "__init__" qn (defArgs st) (defBody st) (defScope st) .none kV dc pm an cd ct), osl⟩) (c : PySem.W.codeIn K cd qn = true) (k : PySem.W.keepIn K (.ref fI) = true)
    (hb : ∀ (us : List Value), us.length = 2 → bindArgs (PySem.W.fnOf "__init__" qn (defArgs st) (defBody st) (defScope st) .none kV dc pm an cd ct) ⟨us, []⟩ = pure ((["self", "value"] : List Str).zip us)) : XcG K x qn st C :=
  ⟨aC, ⟨SLx.leTl_ok, ⟨nm, q, N, bs, bm, sn, sub, ab, col, dd, m0, m1, m2, m3, m5, xL, ve⟩, sa, eC, tC, kC⟩, ⟨ga, gg, eC, hC⟩, nb, iC, exm_any eC iC tC sC, fI, _, a1, t1, fun_mk l c k, .all hb⟩
section
variable {P : Program} {w : World} {K : PySem.W.Frag} {mg : Str → Option Value} {base : Heap}
abbrev sXP : Stmt := inClass (top 3) 0
theorem scXP : FnScope ["self", "value"] ["self", "value"] (defScope sXP) := ⟨rfl, rfl, rfl, by decide +kernel, rfl, by decide +kernel, by decide +kernel⟩
theorem ok_xP {f C : Addr} {fd : FuncData} (T : OexC K C) (no : PySem.W.findIn K (.ref C) "value" = some none) (F : Fun K "__init__" "InvalidPart.__init__" sXP f fd) : FnOk P w K mg base CX0 1 f fd ["self", "value"] (spXI C "value") := by
  refine F.ok scXP (fun vs H Q E h => ?_) (fun cdv A outer s H vs Q E hr h => ?_)
  · obtain ⟨a, v, rfl, _⟩ := h; rfl
  · obtain ⟨a, v, rfl, ha, q⟩ := h
    exact rb_ost T no (xv_name 1 rfl) (xv_name 0 rfl) ha fun H2 s2 dx h1 h2 => rb_nil (q H2 s2 dx h1 h2)
abbrev sXN : Stmt := inClass (top 4) 0
theorem scXN : FnScope ["self", "value"] ["self", "value"] (defScope sXN) := ⟨rfl, rfl, rfl, by decide +kernel, rfl, by decide +kernel, by decide +kernel⟩
theorem ok_xN {f C : Addr} {fd : FuncData} (T : OexC K C) (no : PySem.W.findIn K (.ref C) "value" = some none) (F : Fun K "__init__" "InvalidName.__init__" sXN f fd) : FnOk P w K mg base CX0 1 f fd ["self", "value"] (spXI C "value") := by
  refine F.ok scXN (fun vs H Q E h => ?_) (fun cdv A outer s H vs Q E hr h => ?_)
  · obtain ⟨a, v, rfl, _⟩ := h; rfl
  · obtain ⟨a, v, rfl, ha, q⟩ := h
    exact rb_ost T no (xv_name 1 rfl) (xv_name 0 rfl) ha fun H2 s2 dx h1 h2 => rb_nil (q H2 s2 dx h1 h2)
abbrev sXB : Stmt := inClass (top 5) 0
theorem scXB : FnScope ["self", "value"] ["self", "value"] (defScope sXB) := ⟨rfl, rfl, rfl, by decide +kernel, rfl, by decide +kernel, by decide +kernel⟩
theorem ok_xB {f C : Addr} {fd : FuncData} (T : OexC K C) (no : PySem.W.findIn K (.ref C) "value" = some none) (F : Fun K "__init__" "InvalidBound.__init__" sXB f fd) : FnOk P w K mg base CX0 1 f fd ["self", "value"] (spXI C "value") := by
  refine F.ok scXB (fun vs H Q E h => ?_) (fun cdv A outer s H vs Q E hr h => ?_)
  · obtain ⟨a, v, rfl, _⟩ := h; rfl
  · obtain ⟨a, v, rfl, ha, q⟩ := h
    exact rb_ost T no (xv_name 1 rfl) (xv_name 0 rfl) ha fun H2 s2 dx h1 h2 => rb_nil (q H2 s2 dx h1 h2)
abbrev sXV : Stmt := inClass (top 6) 0
theorem scXV : FnScope ["self", "value"] ["self", "value"] (defScope sXV) := ⟨rfl, rfl, rfl, by decide +kernel, rfl, by decide +kernel, by decide +kernel⟩
theorem ok_xV {f C : Addr} {fd : FuncData} (T : OexC K C) (no : PySem.W.findIn K (.ref C) "value" = some none) (F : Fun K "__init__" "InvalidValues.__init__" sXV f fd) : FnOk P w K mg base CX0 1 f fd ["self", "value"] (spXI C "value") := by
  refine F.ok scXV (fun vs H Q E h => ?_) (fun cdv A outer s H vs Q E hr h => ?_)
  · obtain ⟨a, v, rfl, _⟩ := h; rfl
  · obtain ⟨a, v, rfl, ha, q⟩ := h
    exact rb_ost T no (xv_name 1 rfl) (xv_name 0 rfl) ha fun H2 s2 dx h1 h2 => rb_nil (q H2 s2 dx h1 h2)
abbrev sXQ : Stmt := inClass (top 7) 0
theorem scXQ : FnScope ["self", "value"] ["self", "value"] (defScope sXQ) := ⟨rfl, rfl, rfl, by decide +kernel, rfl, by decide +kernel, by decide +kernel⟩
theorem ok_xQ {f C : Addr} {fd : FuncData} (T : OexG K C SLx.leTl "LookupError.__new__") (no : PySem.W.findIn K (.ref C) "value" = some none) (F : Fun K "__init__" "NotPossible.__init__" sXQ f fd) : FnOk P w K mg base CX0 1 f fd ["self", "value"] (spXI C "value") := by
  refine F.ok scXQ (fun vs H Q E h => ?_) (fun cdv A outer s H vs Q E hr h => ?_)
  · obtain ⟨a, v, rfl, _⟩ := h; rfl
  · obtain ⟨a, v, rfl, ha, q⟩ := h
    exact rb_ostG T no (xv_name 1 rfl) (xv_name 0 rfl) ha fun H2 s2 dx h1 h2 => rb_nil (q H2 s2 dx h1 h2)
theorem hs_of {cx : List Env → Hp → Shared → XK → Value → Shared → Prop} {k : Nat} {x : Str} {st : Stmt} {ps : List Str} {sp : Sp} {f : Addr} {fd : FuncData} (F : Df K mg x st ps f fd) (G : FnOk P w K mg base cx k f fd ps sp) : Hs P w K mg base cx k x ps sp f fd := ⟨G, F.g, F.F.kp, F.b⟩
end
structure NoB (K : PySem.W.Frag) : Prop where
  isi : PySem.W.nsIn K mainGlobals "isinstance" = some none
  int : PySem.W.nsIn K mainGlobals "int" = some none
  bool : PySem.W.nsIn K mainGlobals "bool" = some none
  str : PySem.W.nsIn K mainGlobals "str" = some none
  len : PySem.W.nsIn K mainGlobals "len" = some none
  min : PySem.W.nsIn K mainGlobals "min" = some none
  max : PySem.W.nsIn K mainGlobals "max" = some none
  rep : PySem.W.nsIn K mainGlobals "repr" = some none
  rng : PySem.W.nsIn K mainGlobals "range" = some none
  all : PySem.W.nsIn K mainGlobals "all" = some none
  lst : PySem.W.nsIn K mainGlobals "list" = some none
  tup : PySem.W.nsIn K mainGlobals "tuple" = some none
  dct : PySem.W.nsIn K mainGlobals "dict" = some none
  set : PySem.W.nsIn K mainGlobals "set" = some none
  srt : PySem.W.nsIn K mainGlobals "sorted" = some none
  sum : PySem.W.nsIn K mainGlobals "sum" = some none
  enu : PySem.W.nsIn K mainGlobals "enumerate" = some none
  rvs : PySem.W.nsIn K mainGlobals "reversed" = some none
  abs : PySem.W.nsIn K mainGlobals "abs" = some none
structure DfA (K : PySem.W.Frag) (mg : Str → Option Value) : Prop where
  d0 : DfE K mg "is_whole" sWhole ["value"]
  d1 : DfE K mg "is_integer" sIsInt ["value", "low", "high"]
  d2 : DfE K mg "is_name" sIsName ["value"]
  d3 : DfE K mg "settle" sSettle ["bounds"]
  d4 : DfE K mg "lower_all" sLower ["bounds", "worth", "lowered_by"]
  d5 : DfE K mg "ring_behind" sRing ["bounds", "lowered_by", "name"]
  d6 : DfE K mg "holds" sHolds ["bounds", "values"]
  d7 : DfE K mg "shows_ring" sShows ["bounds", "ring"]
  d8 : DfE K mg "tightest" sTight ["bounds", "x", "y"]
  d9 : DfE K mg "names_in" sNames ["bounds"]
  d10 : DfE K mg "need_bounds" sNeedB ["bounds"]
  d11 : DfE K mg "is_bound" sIsB ["value"]
  d12 : DfE K mg "_law_cell" sCell ["_law_script", "_law_k"]
  d13 : DfE K mg "_law_box" sBag ["_law_cell_here"]
  d14 : DfE K mg "_law_take" sTake ["_law_box_here", "_law_many"]
  d15 : DfE K mg "_law_bounds_hold" sLHold ["_law_bounds_here", "_law_given"]
  d16 : DfE K mg "_law_is_ring" sLRing ["_law_bounds_here", "_law_ring"]
  d17 : DfE K mg "_law_bounds" sLBs ["_law_box_here"]
  d18 : DfE K mg "_law_rows" sRows ["_law_box_here", "_law_bounds_here"]
  d19 : DfE K mg "_law_caught" sCaught ["_law_way", "_law_things"]
  d20 : DfE K mg "_law_odd_right" sOdd ["_law_bounds_here"]
  d21 : DfE K mg "law" sLaw ["_law_script"]
structure SubA (K : PySem.W.Frag) (CP CN CB CV CQ : Addr) : Prop where
  s0 : PySem.W.subIn K (.ref CB) (.ref CP) = some false
  s1 : PySem.W.subIn K (.ref CV) (.ref CP) = some false
  s2 : PySem.W.subIn K (.ref CV) (.ref CB) = some false
  s3 : PySem.W.subIn K (.ref CN) (.ref CP) = some false
  s4 : PySem.W.subIn K (.ref CN) (.ref CB) = some false
  s5 : PySem.W.subIn K (.ref CN) (.ref CV) = some false
  s6 : PySem.W.subIn K (.ref CQ) (.ref CP) = some false
  s7 : PySem.W.subIn K (.ref CQ) (.ref CB) = some false
  s8 : PySem.W.subIn K (.ref CQ) (.ref CV) = some false
  s9 : PySem.W.subIn K (.ref CQ) (.ref CN) = some false
theorem al_of {P : Program} {w : World} {K : PySem.W.Frag} {h : Heap} {mg : Str → Option Value} {base : Heap} {CP CN CB CV CQ f : Addr} {fd : FuncData} (X : K.In h) (G : h.Ns mainGlobals mg) (hGl : Gls K) (B : NoB K) (D : DfA K mg) (EP : XcE K "InvalidPart" "InvalidPart.__init__" sXP CP) (EN : XcE K "InvalidName" "InvalidName.__init__" sXN CN) (EB : XcE K "InvalidBound" "InvalidBound.__init__" sXB CB) (EV : XcE K "InvalidValues" "InvalidValues.__init__" sXV CV) (EQ : XcG K "NotPossible" "NotPossible.__init__" sXQ CQ) (S : SubA K CP CN CB CV CQ)
    (FL : Fun K "law" "law" sLaw f fd) : FnG P w K mg base 8 f fd ["_law_script"] (spLaw K) := by
  have T : Nm mg := ⟨PySem.W.mg_none_of X G B.isi, PySem.W.mg_none_of X G B.int, PySem.W.mg_none_of X G B.bool, PySem.W.mg_none_of X G B.str, PySem.W.mg_none_of X G B.len, PySem.W.mg_none_of X G B.min, PySem.W.mg_none_of X G B.max, PySem.W.mg_none_of X G B.rep, PySem.W.mg_none_of X G B.rng, PySem.W.mg_none_of X G B.all, PySem.W.mg_none_of X G B.lst, PySem.W.mg_none_of X G B.tup, PySem.W.mg_none_of X G B.dct, PySem.W.mg_none_of X G B.set, PySem.W.mg_none_of X G B.srt, PySem.W.mg_none_of X G B.sum, PySem.W.mg_none_of X G B.enu, PySem.W.mg_none_of X G B.rvs, PySem.W.mg_none_of X G B.abs⟩
  obtain ⟨⟨t4, g4⟩, ⟨t5, g5⟩, ⟨t6, g6⟩⟩ := hGl
  have h4 : ∃ t, mg "LONGEST_NAME" = some (.int 8 t) := ⟨t4, PySem.W.mg_of X G g4⟩
  have h5 : ∃ t, mg "LETTERS" = some (.str letS t) := ⟨t5, PySem.W.mg_of X G g5⟩
  have h6 : ∃ t, mg "DIGITS" = some (.str digS t) := ⟨t6, PySem.W.mg_of X G g6⟩
  obtain ⟨f0, fd0, F0⟩ := D.d0
  obtain ⟨f1, fd1, F1⟩ := D.d1
  obtain ⟨f2, fd2, F2⟩ := D.d2
  obtain ⟨f3, fd3, F3⟩ := D.d3
  obtain ⟨f4, fd4, F4⟩ := D.d4
  obtain ⟨f5, fd5, F5⟩ := D.d5
  obtain ⟨f6, fd6, F6⟩ := D.d6
  obtain ⟨f7, fd7, F7⟩ := D.d7
  obtain ⟨f8, fd8, F8⟩ := D.d8
  obtain ⟨f9, fd9, F9⟩ := D.d9
  obtain ⟨f10, fd10, F10⟩ := D.d10
  obtain ⟨f11, fd11, F11⟩ := D.d11
  obtain ⟨f12, fd12, F12⟩ := D.d12
  obtain ⟨f13, fd13, F13⟩ := D.d13
  obtain ⟨f14, fd14, F14⟩ := D.d14
  obtain ⟨f15, fd15, F15⟩ := D.d15
  obtain ⟨f16, fd16, F16⟩ := D.d16
  obtain ⟨f17, fd17, F17⟩ := D.d17
  obtain ⟨f18, fd18, F18⟩ := D.d18
  obtain ⟨f19, fd19, F19⟩ := D.d19
  obtain ⟨f20, fd20, F20⟩ := D.d20
  obtain ⟨xP, dP, xP1, xP2, xP3, xP4⟩ := EP.fn
  have YP : XCls P w K mg base "InvalidPart" "value" CP xP dP := ⟨PySem.W.mg_of X G EP.aC, EP.T, xP1, xP2, ok_xP EP.T EP.no xP3, xP4, EP.xf, EP.no, EP.te⟩
  obtain ⟨xN, dN, xN1, xN2, xN3, xN4⟩ := EN.fn
  have YN : XCls P w K mg base "InvalidName" "value" CN xN dN := ⟨PySem.W.mg_of X G EN.aC, EN.T, xN1, xN2, ok_xN EN.T EN.no xN3, xN4, EN.xf, EN.no, EN.te⟩
  obtain ⟨xB, dB, xB1, xB2, xB3, xB4⟩ := EB.fn
  have YB : XCls P w K mg base "InvalidBound" "value" CB xB dB := ⟨PySem.W.mg_of X G EB.aC, EB.T, xB1, xB2, ok_xB EB.T EB.no xB3, xB4, EB.xf, EB.no, EB.te⟩
  obtain ⟨xV, dV, xV1, xV2, xV3, xV4⟩ := EV.fn
  have YV : XCls P w K mg base "InvalidValues" "value" CV xV dV := ⟨PySem.W.mg_of X G EV.aC, EV.T, xV1, xV2, ok_xV EV.T EV.no xV3, xV4, EV.xf, EV.no, EV.te⟩
  obtain ⟨xQ, dQ, xQ1, xQ2, xQ3, xQ4⟩ := EQ.fn
  have YQ : XClsG P w K mg base SLx.leTl "LookupError.__new__" "LookupError.__init__" "LookupError" "NotPossible" "value" CQ xQ dQ := ⟨PySem.F.excBase_LookupError, PySem.W.mg_of X G EQ.aC, EQ.T, xQ1, xQ2, ok_xQ EQ.T EQ.no xQ3, xQ4, EQ.xf, EQ.no, EQ.te⟩
  have e0 := exm_any EP.T.exC EP.isC EP.T.tyC S.s0
  have e1 := exm_any EP.T.exC EP.isC EP.T.tyC S.s1
  have e2 := exm_any EB.T.exC EB.isC EB.T.tyC S.s2
  have e3 := exm_any EP.T.exC EP.isC EP.T.tyC S.s3
  have e4 := exm_any EB.T.exC EB.isC EB.T.tyC S.s4
  have e5 := exm_any EV.T.exC EV.isC EV.T.tyC S.s5
  have e6 := exm_any EP.T.exC EP.isC EP.T.tyC S.s6
  have e7 := exm_any EB.T.exC EB.isC EB.T.tyC S.s7
  have e8 := exm_any EV.T.exC EV.isC EV.T.tyC S.s8
  have e9 := exm_any EN.T.exC EN.isC EN.T.tyC S.s9
  have GW := ok_whole (P := P) (w := w) (base := base) T F0
  have GI := ok_isInt GW F0 F1
  have GNm := ok_isName (P := P) (w := w) (base := base) T h4 h5 h6 F2
  have GB := ok_isB T GW F0 GNm F2 F11
  have GNB := ok_needB T GB F11 F10
  have GNs := ok_names (P := P) (w := w) (base := base) T F9
  have GL := ok_lower (P := P) (w := w) (base := base) T F4
  have GRg := ok_ring (P := P) (w := w) (base := base) T F5
  have GS := ok_settle T GNB F10 GNs F9 GL F4 GRg F5 F3
  have GH := ok_holds T GNB F10 GNs F9 GW F0 F6
  have GSh := ok_shows T GNB F10 GI F1 F7
  have GTk := ok_take (P := P) (w := w) (base := base) F14
  have GBN := ok_isBN T GW F0 GNm F2 F11
  have GBX := ok_needBX T GB GBN F11 YP YB F10
  have GSX := ok_settleX GBX F10 F3
  have GShX := ok_showsX GBX F10 F7
  have GHX := ok_holdsX T GBX GNB F10 GNs F9 GW F0 YV F6
  have GTX := ok_tightX T GSX GS F3 GNm F2 YN YQ F8
  have hCa := hs_of F19 (ok_caught (hs_of F3 GSX) (hs_of F6 GHX) (hs_of F7 GShX) (hs_of F8 GTX) YP YB YV YN YQ e0 e1 e2 e3 e4 e5 e6 e7 e8 e9 F19)
  have hS := hs_of F3 GS
  have GO := ok_odd T hCa F20
  exact ok_law T (hs_of F12 (ok_cell T F12)) (hs_of F13 (ok_bag T F13)) GTk F14 (hs_of F17 (ok_lbs T GTk F14 F17)) (hs_of F18 (ok_rows T GTk F14 hS F18)) (hs_of F7 GSh) (hs_of F16 (ok_lring T F16)) (hs_of F6 GH) (hs_of F15 (ok_lhold T F15)) hCa hS GO F20 FL
theorem all_g {l : PySem.W.OpenLaw} {w : World} {K : PySem.W.Frag} {h : Heap} {mg : Str → Option Value} {fa CP CN CB CV CQ : Addr} (X : K.In h) (G : h.Ns mainGlobals mg) (hfa : mg "law" = some (.ref fa)) (hGl : Gls K) (B : NoB K) (D : DfA K mg) (EP : XcE K "InvalidPart" "InvalidPart.__init__" sXP CP) (EN : XcE K "InvalidName" "InvalidName.__init__" sXN CN) (EB : XcE K "InvalidBound" "InvalidBound.__init__" sXB CB) (EV : XcE K "InvalidValues" "InvalidValues.__init__" sXV CV) (EQ : XcG K "NotPossible" "NotPossible.__init__" sXQ CQ) (S : SubA K CP CN CB CV CQ) :
    ∃ fd : FuncData, (∀ (s : Shared) (v : Value), BindsTo s fd ⟨[v], []⟩ [("_law_script", v)]) ∧ ∀ base : Heap, K.In base → base.Ns mainGlobals mg → FnG l.prog w K mg base 8 fa fd ["_law_script"] (spLaw K) := by
  obtain ⟨f, fd, F⟩ := D.d21
  have e := hfa.symm.trans F.g
  injection e with e
  injection e with e
  subst e
  obtain ⟨oc, od, kV, dc, pm, an, cdv, ct, osl, rfl, _⟩ := F.F.ex
  exact ⟨_, fun s v => .of_eq rfl, fun base _ _ => al_of X G hGl B D EP EN EB EV EQ S F.F⟩
end Zn

set_option Elab.async false
open PySem PySem.W PyProof.Rows in
set_option maxRecDepth 100000 in
set_option maxHeartbeats 0 in
theorem PySem.Challenge.cw_everyzone_k16_bounds_judged_holds : PySem.Challenge.rw_everyzone_k16_bounds_judged.Holds := by
  w_on; o_law; k_head; (case hw => w_witness2)
  k_fill
  refine Zn.walk_g (l := PySem.Challenge.rw_everyzone_k16_bounds_judged) rfl rfl (fun w h Y => PySem.W.kIn_of Y) ?F
  case F =>
    intro w mg fa h KX G hmg
    refine' Zn.all_g KX G hmg ⟨Zn.gi_mk ?gj4, Zn.gs_mk ?gj5, Zn.gs_mk ?gj6⟩ ?B ?D ?eP ?eN ?eB ?eV ?eQ ⟨?ss0, ?ss1, ?ss2, ?ss3, ?ss4, ?ss5, ?ss6, ?ss7, ?ss8, ?ss9⟩
    case eP =>
      refine' Zn.xc_mk ?aC ?xL ?ve ?sa ?ga ?gg ?nb ?kC ?eC ?tC ?hC ?iC ?sC ?a1 ?t1 ?l ?c ?k ?hb
      (case aC => k_is)
      (case xL => k_is)
      (case ve => decide +kernel)
      (case sa => k_is)
      (case ga => k_is)
      (case gg => k_is)
      (case nb => k_is)
      (case kC => k_is)
      (case eC => k_is)
      (case tC => k_is)
      (case hC => k_is)
      (case iC => k_is)
      (case sC => first | rfl | k_is)
      (case a1 => k_is)
      (case t1 => k_is)
      (case l => k_is)
      (case c => k_is)
      (case k => k_is)
      (case hb => exact fun us hl => match us, hl with | [_, _], _ => rfl)
    case eN =>
      refine' Zn.xc_mk ?aC ?xL ?ve ?sa ?ga ?gg ?nb ?kC ?eC ?tC ?hC ?iC ?sC ?a1 ?t1 ?l ?c ?k ?hb
      (case aC => k_is)
      (case xL => k_is)
      (case ve => decide +kernel)
      (case sa => k_is)
      (case ga => k_is)
      (case gg => k_is)
      (case nb => k_is)
      (case kC => k_is)
      (case eC => k_is)
      (case tC => k_is)
      (case hC => k_is)
      (case iC => k_is)
      (case sC => first | rfl | k_is)
      (case a1 => k_is)
      (case t1 => k_is)
      (case l => k_is)
      (case c => k_is)
      (case k => k_is)
      (case hb => exact fun us hl => match us, hl with | [_, _], _ => rfl)
    case eB =>
      refine' Zn.xc_mk ?aC ?xL ?ve ?sa ?ga ?gg ?nb ?kC ?eC ?tC ?hC ?iC ?sC ?a1 ?t1 ?l ?c ?k ?hb
      (case aC => k_is)
      (case xL => k_is)
      (case ve => decide +kernel)
      (case sa => k_is)
      (case ga => k_is)
      (case gg => k_is)
      (case nb => k_is)
      (case kC => k_is)
      (case eC => k_is)
      (case tC => k_is)
      (case hC => k_is)
      (case iC => k_is)
      (case sC => first | rfl | k_is)
      (case a1 => k_is)
      (case t1 => k_is)
      (case l => k_is)
      (case c => k_is)
      (case k => k_is)
      (case hb => exact fun us hl => match us, hl with | [_, _], _ => rfl)
    case eV =>
      refine' Zn.xc_mk ?aC ?xL ?ve ?sa ?ga ?gg ?nb ?kC ?eC ?tC ?hC ?iC ?sC ?a1 ?t1 ?l ?c ?k ?hb
      (case aC => k_is)
      (case xL => k_is)
      (case ve => decide +kernel)
      (case sa => k_is)
      (case ga => k_is)
      (case gg => k_is)
      (case nb => k_is)
      (case kC => k_is)
      (case eC => k_is)
      (case tC => k_is)
      (case hC => k_is)
      (case iC => k_is)
      (case sC => first | rfl | k_is)
      (case a1 => k_is)
      (case t1 => k_is)
      (case l => k_is)
      (case c => k_is)
      (case k => k_is)
      (case hb => exact fun us hl => match us, hl with | [_, _], _ => rfl)
    case eQ =>
      refine' Zn.xcg_mk ?aC ?xL ?ve ?sa ?ga ?gg ?nb ?kC ?eC ?tC ?hC ?iC ?sC ?a1 ?t1 ?l ?c ?k ?hb
      (case aC => k_is)
      (case xL => k_is)
      (case ve => exact ⟨[_], rfl⟩)
      (case sa => k_is)
      (case ga => k_is)
      (case gg => k_is)
      (case nb => k_is)
      (case kC => k_is)
      (case eC => k_is)
      (case tC => k_is)
      (case hC => k_is)
      (case iC => k_is)
      (case sC => first | rfl | k_is)
      (case a1 => k_is)
      (case t1 => k_is)
      (case l => k_is)
      (case c => k_is)
      (case k => k_is)
      (case hb => exact fun us hl => match us, hl with | [_, _], _ => rfl)
    (case gj4 => k_is)
    (case gj5 => k_is)
    (case gj6 => k_is)
    (case ss0 => k_is)
    (case ss1 => k_is)
    (case ss2 => k_is)
    (case ss3 => k_is)
    (case ss4 => k_is)
    (case ss5 => k_is)
    (case ss6 => k_is)
    (case ss7 => k_is)
    (case ss8 => k_is)
    (case ss9 => k_is)
    case B =>
      refine' ⟨?n0, ?n1, ?n2, ?n3, ?n4, ?n5, ?n6, ?n7, ?n8, ?n9, ?n10, ?n11, ?n12, ?n13, ?n14, ?n15, ?n16, ?n17, ?n18⟩
      (case n0 => k_is)
      (case n1 => k_is)
      (case n2 => k_is)
      (case n3 => k_is)
      (case n4 => k_is)
      (case n5 => k_is)
      (case n6 => k_is)
      (case n7 => k_is)
      (case n8 => k_is)
      (case n9 => k_is)
      (case n10 => k_is)
      (case n11 => k_is)
      (case n12 => k_is)
      (case n13 => k_is)
      (case n14 => k_is)
      (case n15 => k_is)
      (case n16 => k_is)
      (case n17 => k_is)
      (case n18 => k_is)
    case D =>
      refine' ⟨?d0, ?d1, ?d2, ?d3, ?d4, ?d5, ?d6, ?d7, ?d8, ?d9, ?d10, ?d11, ?d12, ?d13, ?d14, ?d15, ?d16, ?d17, ?d18, ?d19, ?d20, ?d21⟩
      case d0 =>
        refine' Zn.df_mk KX G ?a ?l ?c ?k ?b
        (case a => k_is)
        (case l => k_is)
        (case c => k_is)
        (case k => k_is)
        (case b => exact fun us hl => match us, hl with | [_], _ => rfl)
      case d1 =>
        refine' Zn.df_mk KX G ?a ?l ?c ?k ?b
        (case a => k_is)
        (case l => k_is)
        (case c => k_is)
        (case k => k_is)
        (case b => exact fun us hl => match us, hl with | [_, _, _], _ => rfl)
      case d2 =>
        refine' Zn.df_mk KX G ?a ?l ?c ?k ?b
        (case a => k_is)
        (case l => k_is)
        (case c => k_is)
        (case k => k_is)
        (case b => exact fun us hl => match us, hl with | [_], _ => rfl)
      case d3 =>
        refine' Zn.df_mk KX G ?a ?l ?c ?k ?b
        (case a => k_is)
        (case l => k_is)
        (case c => k_is)
        (case k => k_is)
        (case b => exact fun us hl => match us, hl with | [_], _ => rfl)
      case d4 =>
        refine' Zn.df_mk KX G ?a ?l ?c ?k ?b
        (case a => k_is)
        (case l => k_is)
        (case c => k_is)
        (case k => k_is)
        (case b => exact fun us hl => match us, hl with | [_, _, _], _ => rfl)
      case d5 =>
        refine' Zn.df_mk KX G ?a ?l ?c ?k ?b
        (case a => k_is)
        (case l => k_is)
        (case c => k_is)
        (case k => k_is)
        (case b => exact fun us hl => match us, hl with | [_, _, _], _ => rfl)
      case d6 =>
        refine' Zn.df_mk KX G ?a ?l ?c ?k ?b
        (case a => k_is)
        (case l => k_is)
        (case c => k_is)
        (case k => k_is)
        (case b => exact fun us hl => match us, hl with | [_, _], _ => rfl)
      case d7 =>
        refine' Zn.df_mk KX G ?a ?l ?c ?k ?b
        (case a => k_is)
        (case l => k_is)
        (case c => k_is)
        (case k => k_is)
        (case b => exact fun us hl => match us, hl with | [_, _], _ => rfl)
      case d8 =>
        refine' Zn.df_mk KX G ?a ?l ?c ?k ?b
        (case a => k_is)
        (case l => k_is)
        (case c => k_is)
        (case k => k_is)
        (case b => exact fun us hl => match us, hl with | [_, _, _], _ => rfl)
      case d9 =>
        refine' Zn.df_mk KX G ?a ?l ?c ?k ?b
        (case a => k_is)
        (case l => k_is)
        (case c => k_is)
        (case k => k_is)
        (case b => exact fun us hl => match us, hl with | [_], _ => rfl)
      case d10 =>
        refine' Zn.df_mk KX G ?a ?l ?c ?k ?b
        (case a => k_is)
        (case l => k_is)
        (case c => k_is)
        (case k => k_is)
        (case b => exact fun us hl => match us, hl with | [_], _ => rfl)
      case d11 =>
        refine' Zn.df_mk KX G ?a ?l ?c ?k ?b
        (case a => k_is)
        (case l => k_is)
        (case c => k_is)
        (case k => k_is)
        (case b => exact fun us hl => match us, hl with | [_], _ => rfl)
      case d12 =>
        refine' Zn.df_mk KX G ?a ?l ?c ?k ?b
        (case a => k_is)
        (case l => k_is)
        (case c => k_is)
        (case k => k_is)
        (case b => exact fun us hl => match us, hl with | [_, _], _ => rfl)
      case d13 =>
        refine' Zn.df_mk KX G ?a ?l ?c ?k ?b
        (case a => k_is)
        (case l => k_is)
        (case c => k_is)
        (case k => k_is)
        (case b => exact fun us hl => match us, hl with | [_], _ => rfl)
      case d14 =>
        refine' Zn.df_mk KX G ?a ?l ?c ?k ?b
        (case a => k_is)
        (case l => k_is)
        (case c => k_is)
        (case k => k_is)
        (case b => exact fun us hl => match us, hl with | [_, _], _ => rfl)
      case d15 =>
        refine' Zn.df_mk KX G ?a ?l ?c ?k ?b
        (case a => k_is)
        (case l => k_is)
        (case c => k_is)
        (case k => k_is)
        (case b => exact fun us hl => match us, hl with | [_, _], _ => rfl)
      case d16 =>
        refine' Zn.df_mk KX G ?a ?l ?c ?k ?b
        (case a => k_is)
        (case l => k_is)
        (case c => k_is)
        (case k => k_is)
        (case b => exact fun us hl => match us, hl with | [_, _], _ => rfl)
      case d17 =>
        refine' Zn.df_mk KX G ?a ?l ?c ?k ?b
        (case a => k_is)
        (case l => k_is)
        (case c => k_is)
        (case k => k_is)
        (case b => exact fun us hl => match us, hl with | [_], _ => rfl)
      case d18 =>
        refine' Zn.df_mk KX G ?a ?l ?c ?k ?b
        (case a => k_is)
        (case l => k_is)
        (case c => k_is)
        (case k => k_is)
        (case b => exact fun us hl => match us, hl with | [_, _], _ => rfl)
      case d19 =>
        refine' Zn.df_mk KX G ?a ?l ?c ?k ?b
        (case a => k_is)
        (case l => k_is)
        (case c => k_is)
        (case k => k_is)
        (case b => exact fun us hl => match us, hl with | [_, _], _ => rfl)
      case d20 =>
        refine' Zn.df_mk KX G ?a ?l ?c ?k ?b
        (case a => k_is)
        (case l => k_is)
        (case c => k_is)
        (case k => k_is)
        (case b => exact fun us hl => match us, hl with | [_], _ => rfl)
      case d21 =>
        refine' Zn.df_mk KX G ?a ?l ?c ?k ?b
        (case a => k_is)
        (case l => k_is)
        (case c => k_is)
        (case k => k_is)
        (case b => exact fun us hl => match us, hl with | [_], _ => rfl)
