import PyProof.Rows.All
import Wide.All
import OpenK.AllK
import Wide.FinOn
import KE.OsRunLaw
import PySem.Challenge.RW_everyzone_k01_exceptions
import PyProof.EqAt
import PyProof.EqKinds
import PyProof.TupleCall
import PyProof.ReprRoads
import HandS.ForMost
import HandS.IsInst
import HandS.Wide
import PyProof.InstNe
import HandS.Property
import HandS.TryMany
import HandS.ExcInit
import HandS.ExcField
import HandS.ExcOwn
import HandS.WordsExc
import PyProof.Rows.StrIntSpec
import HandS.FStr
import HandS.SetBool
import HandS.Strs
import HandS.RaiseMore
import HandS.Dict
import HandS.Text
import HandS.Steps
import HandS.Iter
import KE.SortData
import HandS.SetFor
import KE.KTupSum
import KE.GoesEnum
import HandS.Star
import PyProof.InstStore
import PyProof.ExcBaseAll.LookupError
import HandS.ExcIs
import HandS.ExcValue
import KE.KExcIs
import HandS.MakeKw
import PyProof.Rows.FactsExc_KeyError
import KE.KExcStr
import PyProof.ReprNest
import PyProof.ReprDict
import HandS.Style
import PyProof.StrLawsRepr
import HandS.HotCalls
import HandS.TryOnly
import PyProof.ExcBaseAll.ValueError
set_option Elab.async false
set_option linter.all false
set_option maxRecDepth 100000
set_option maxHeartbeats 0
namespace Zh
open PySem PySem.W PySem.Calls PyProof.Rows
abbrev R : OpenRow := OpenLaw.row PySem.Challenge.rw_everyzone_k01_exceptions
abbrev Wrap (r : OpenRow) (_ : Hook) : Prop := r.Holds
theorem wrapOf {r : OpenRow} (H : Hook) (h : r.Holds) : Wrap r H := h
def pick {r : OpenRow} (H : Hook) (_ : Wrap r H) : Hook := H
end Zh
section
open PySem PySem.W PySem.Calls PyProof.Rows
local macro_rules
  | `(tactic| o_head $H) => `(tactic| exact Zh.wrapOf $H (by assumption))
/-- the objects that the start leaves, told from outside -/
noncomputable def Zh.Kd (hyp : Zh.R.Holds) : Hook := by
  refine Zh.pick (r := Zh.R) ?H ?h
  case h => k_head
end
namespace Zh
open PySem PySem.W PySem.Calls PyProof.Rows
def names0 : List PySem.Str := ["TimeError", "MissingError", "StateError", "InvalidPart", "InvalidInteger", "InvalidName", "InvalidTime", "InvalidText", "InvalidLine", "InvalidBound", "InvalidValues", "InvalidCase", "InvalidCommand", "InvalidChange", "InvalidJump", "InvalidRule", "InvalidLog", "InvalidEntry", "InvalidWord", "Duplicate"]
def names1 : List PySem.Str := ["NotZone", "NotKind", "NotProgram", "UnlikeStarts", "NoAnswer", "UnknownName", "NoPlace", "NoLine", "NotStart", "NotPossible", "NoProgram", "NothingToUndo", "DAY_LENGTH", "HOUR_LENGTH", "is_whole", "is_integer", "is_time", "need_integer", "need_time", "day_of"]
def names2 : List PySem.Str := ["time_text", "_law_cell", "_law_box", "_law_take", "_law_thing", "_law_made", "_law_named", "_law_field", "_law_kinds", "_law_base_due", "_law_inner", "_law_alike", "_law_right", "_law_bases_right", "_law_raised"]
abbrev names : List PySem.Str := names0 ++ (names1 ++ (names2))
abbrev qv : Program := view R.prog [58]
def as0 : List Addr := [2, 3, 15, 22, 23, 24, 25, 28, 35, 36, 37, 38, 41, 48, 49, 50, 51, 54, 61, 63]
def as1 : List Addr := [64, 66, 67, 68, 69, 70, 73, 80, 82, 83, 85, 86, 87, 88, 89, 92, 99, 101, 102, 104]
def as2 : List Addr := [105, 106, 107, 108, 111, 118, 120, 121, 123, 124, 125, 126, 127, 130, 137, 139, 140, 142, 143, 144]
def as3 : List Addr := [145, 146, 149, 156, 158, 159, 161, 162, 163, 164, 165, 168, 175, 177, 178, 180, 181, 182, 183, 184]
def as4 : List Addr := [187, 194, 196, 197, 199, 200, 201, 202, 203, 206, 213, 215, 216, 218, 219, 220, 221, 222, 225, 232]
def as5 : List Addr := [234, 235, 237, 238, 239, 240, 241, 244, 251, 253, 254, 256, 257, 258, 259, 260, 263, 270, 272, 273]
def as6 : List Addr := [275, 276, 277, 278, 279, 282, 289, 291, 292, 294, 295, 296, 297, 298, 301, 308, 310, 311, 313, 314]
def as7 : List Addr := [315, 316, 317, 320, 327, 329, 330, 332, 333, 334, 335, 336, 339, 346, 348, 349, 351, 352, 353, 354]
def as8 : List Addr := [355, 358, 365, 367, 368, 370, 371, 372, 373, 374, 377, 384, 386, 387, 389, 390, 391, 392, 393, 396]
def as9 : List Addr := [403, 405, 406, 408, 409, 410, 411, 412, 415, 422, 424, 425, 427, 428, 429, 430, 431, 434, 441, 443]
def as10 : List Addr := [444, 446, 447, 448, 449, 450, 453, 460, 462, 463, 465, 466, 467, 468, 469, 472, 479, 481, 482, 484]
def as11 : List Addr := [485, 486, 487, 488, 491, 498, 500, 501, 503, 504, 505, 506, 507, 510, 517, 519, 520, 522, 523, 524]
def as12 : List Addr := [525, 526, 529, 536, 538, 539, 541, 542, 543, 544, 545, 548, 555, 557, 558, 560, 561, 562, 563, 564]
def as13 : List Addr := [567, 574, 575, 576, 579, 586, 587, 588, 591, 593, 594, 596, 597, 598, 600, 601, 603, 604, 605, 607]
def as14 : List Addr := [608, 610, 611, 612, 614, 615, 617, 618, 619, 621, 622, 624, 625, 626, 628, 629, 631, 632, 633, 635]
def as15 : List Addr := [636, 638, 639, 640, 642, 643, 645, 646, 647, 649, 650, 652, 653, 654, 656, 657, 659, 660, 661, 663]
def as16 : List Addr := [664, 666, 667, 668, 670, 671, 673, 674, 675, 677, 678, 680, 681, 682, 684, 685, 687, 688, 689, 691]
def as17 : List Addr := [692, 694, 695, 696, 698, 699, 701, 702, 703, 705, 706, 708, 709, 710, 712, 713, 715, 716, 717, 720]
def as18 : List Addr := [721, 722, 725, 726, 727, 729, 730, 732, 733, 734, 737, 738]
def as : List Addr := as0 ++ (as1 ++ (as2 ++ (as3 ++ (as4 ++ (as5 ++ (as6 ++ (as7 ++ (as8 ++ (as9 ++ (as10 ++ (as11 ++ (as12 ++ (as13 ++ (as14 ++ (as15 ++ (as16 ++ (as17 ++ (as18))))))))))))))))))
theorem asOk : ∀ P, as = (Zh.Kd.heap_1 P).map (fun x => x.1) := fun P => by kernel_rfl
def RunK (w : World) : Prop := ∀ os : OsState, (HeadRun.endF (HeadRun.stepQ (HeadRun.denQ HeadRun.tabQ) R.prog w) 24000 R.prog w os).map (fun s => (HeadRun.looksF R.prog (boot_heap w.params) s.abs, HeadRun.seenQ qv names (importedModules R.prog.main.body) (fun s => xlAt qv [] s && recOk (RowW.records (OpenRow.toRowW R)) s) s.abs, as.map (HeadRun.getT s))) = some (true, openGood qv names, (Zh.Kd.heap_1 w.params).map fun x => some x.2)
theorem run0 (w : World) : RunK (w.withFollow "special-get-raises" false) := by
  unfold RunK
  intro os
  kernel_rfl
theorem run1 (w : World) : RunK (w.withFollow "special-get-raises" true) := by
  unfold RunK
  intro os
  kernel_rfl
theorem run (w : World) : RunK w := byRow2 (P := RunK) "special-get-raises" run0 run1 w
theorem left : LeftO R.prog qv names (fun s => xlAt qv [] s && recOk (RowW.records (OpenRow.toRowW R)) s) (Hook.obs (kHook Zh.Kd.heap_1 as asOk)) (Hook.val (kHook Zh.Kd.heap_1 as asOk)) (24000 + 600) true :=
  HeadRun.left_oneK (M := 24000) (by kernel_rfl) (by rfl) (fun s => by kernel_rfl) (by rfl) fun w os => run w os
end Zh

set_option Elab.async false
set_option linter.all false
set_option maxRecDepth 100000
set_option maxHeartbeats 4000000
/-! Data layer: pure expressions by the data they come to. M: addresses that may change; what is known stands outside of M. -/
namespace Dl
open PySem PySem.Spec PyProof.Rows L2

/-! ### what is known -/
def hid (M : List Addr) (H : Hp) : Hp := fun a => if a ∈ M then none else H a
def Live (M : List Addr) (H : Hp) : Prop := ∀ a ∈ M, H a ≠ none
section
variable {M : List Addr} {H H' : Hp} {a p : Addr} {o : HO}
theorem hid_of (n : a ∉ M) : hid M H a = H a := if_neg n
theorem hid_le : Same (hid M H) H := fun b o e => by
  unfold hid at e
  split at e
  · cases e
  · exact e
theorem hid_mono (s : Same H H') : Same (hid M H) (hid M H') := fun b o e => by
  unfold hid at e ⊢
  split at e
  · cases e
  · rename_i n; rw [if_neg n]; exact s b o e
theorem hid_nil : hid [] H = H := by funext b; unfold hid; rw [if_neg (by simp)]
theorem hid_upd_mem (h : p ∈ M) : hid M (upd H p o) = hid M H := by
  funext b; unfold hid
  split
  · rfl
  · rename_i n; rw [upd_ne (fun z => n (by rw [z]; exact h))]
theorem Live.mono (L : Live M H) (s : Same H H') : Live M H' := fun b hb z => by
  cases e : H b with
  | none => exact L b hb e
  | some o => rw [s b o e] at z; cases z
theorem Live.fresh (L : Live M H) (hp : H p = none) : p ∉ M := fun h => L p h hp
theorem Live.nil : Live [] H := fun _ h => by simp at h
theorem hid_new (L : Live M H) (hp : H p = none) : hid M (upd H p o) = upd (hid M H) p o := by
  funext b; unfold hid upd
  by_cases hb : b = p
  · subst hb; rw [if_neg (L.fresh hp), if_pos rfl, if_pos rfl]
  · rw [if_neg hb, if_neg hb]
theorem hid_free (hp : H p = none) : hid M H p = none := by unfold hid; split <;> first | rfl | exact hp
theorem hid_cons (hp : H p = none) : hid (p :: M) (upd H p o) = hid M H := by
  funext b; unfold hid
  by_cases hb : b = p
  · subst hb
    rw [if_pos (List.mem_cons_self ..)]
    split <;> first | rfl | exact hp.symm
  · by_cases hm : b ∈ M
    · rw [if_pos (List.mem_cons_of_mem _ hm), if_pos hm]
    · rw [if_neg (by simp [hb, hm]), if_neg hm, upd_ne hb]
theorem Live.cons (L : Live M H) (hp : H p = none) : Live (p :: M) (upd H p o) := fun b hb => by
  rcases List.mem_cons.mp hb with e | hb
  · subst e; rw [upd_same]; simp
  · rw [upd_ne (fun z => L b hb (by rw [z]; exact hp))]; exact L b hb
theorem Live.upd (L : Live M H) : Live M (upd H p o) := fun b hb => by
  by_cases e : b = p
  · subst e; rw [upd_same]; simp
  · rw [upd_ne e]; exact L b hb
theorem same_new (hp : H p = none) : Same H (upd H p o) := fun b u e => by rw [upd_ne (ne_of_none e hp)]; exact e
theorem Live.to (L : Live M H) (s : Same (hid [] H) H') : Live M H' := L.mono (by rw [hid_nil] at s; exact s)
theorem hid_hid : hid M (hid M H) = hid M H := by
  funext b; unfold hid; split <;> rfl
end
theorem same_seqT {K : PySem.W.Frag} {H H' : Hp} {a : Addr} {xs : List V} (e : Same H H') (h : SqT K H a xs) : SqT K H' a xs := by
  rcases h with (h | ⟨o, h⟩) | h
  · exact .inl (.inl (e _ _ h))
  · exact .inl (.inr ⟨o, e _ _ h⟩)
  · exact .inr h
mutual
/-- a value is the data (every list is one that is tracked) -/
inductive Dq (K : PySem.W.Frag) (H : Hp) : V → PyData → Prop
  | non : Dq K H .non .none
  | bl (b : Bool) : Dq K H (.bl b) (.bool b)
  | int (i : Int) : Dq K H (.int i) (.int i)
  | str (x : Str) : Dq K H (.str x) (.str x)
  | lst {a : Addr} {xs : List V} {ds : List PyData} : H a = some (.lst xs) → DqAll K H xs ds → Dq K H (.ref a) (.list ds)
  | tup {a : Addr} {xs : List V} {ds : List PyData} : SqT K H a xs → DqAll K H xs ds → Dq K H (.ref a) (.tuple ds)
inductive DqAll (K : PySem.W.Frag) (H : Hp) : List V → List PyData → Prop
  | nil : DqAll K H [] []
  | cons {v : V} {vs : List V} {d : PyData} {ds : List PyData} : Dq K H v d → DqAll K H vs ds → DqAll K H (v :: vs) (d :: ds)
end
mutual
theorem Dq.dp {K : PySem.W.Frag} {H : Hp} : ∀ (d : PyData) (v : V), Dq K H v d → Dp K H v d
  | .none, _, h => by cases h; exact .non
  | .bool b, _, h => by cases h; exact .bl b
  | .int i, _, h => by cases h; exact .int i
  | .str x, _, h => by cases h; exact .str x
  | .list ds, _, h => by
    cases h with
    | lst hs ha => exact .lst (SqL.of hs) (DqAll.dp ds _ ha)
  | .tuple ds, _, h => by
    cases h with
    | tup hs ha => exact .tup hs (DqAll.dp ds _ ha)
  | .dict _, _, h => by cases h
theorem DqAll.dp {K : PySem.W.Frag} {H : Hp} : ∀ (ds : List PyData) (vs : List V), DqAll K H vs ds → DpAll K H vs ds
  | [], _, h => by cases h; exact .nil
  | d :: ds, _, h => by
    cases h with
    | cons h1 h2 => exact .cons (Dq.dp d _ h1) (DqAll.dp ds _ h2)
end
mutual
theorem dp_mono {K : PySem.W.Frag} {H H' : Hp} (e : Same H H') : ∀ (d : PyData) (v : V), Dq K H v d → Dq K H' v d
  | .none, _, h => by cases h; exact .non
  | .bool b, _, h => by cases h; exact .bl b
  | .int i, _, h => by cases h; exact .int i
  | .str x, _, h => by cases h; exact .str x
  | .list ds, _, h => by
    cases h with
    | lst hs ha => exact .lst (e _ _ hs) (dpa_mono e ds _ ha)
  | .tuple ds, _, h => by
    cases h with
    | tup hs ha => exact .tup (same_seqT e hs) (dpa_mono e ds _ ha)
  | .dict _, _, h => by cases h
theorem dpa_mono {K : PySem.W.Frag} {H H' : Hp} (e : Same H H') : ∀ (ds : List PyData) (vs : List V), DqAll K H vs ds → DqAll K H' vs ds
  | [], _, h => by cases h; exact .nil
  | d :: ds, _, h => by
    cases h with
    | cons h1 h2 => exact .cons (dp_mono e d _ h1) (dpa_mono e ds _ h2)
end
section
variable {K : PySem.W.Frag} {H H' : Hp} {v : V} {vs : List V} {ds es : List PyData} {d : PyData}
theorem Dq.up (h : Dq K H v d) (e : Same H H') : Dq K H' v d := dp_mono e d v h
theorem DqAll.up (h : DqAll K H vs ds) (e : Same H H') : DqAll K H' vs ds := dpa_mono e ds vs h
theorem dpa_len : ∀ {vs : List V} {ds : List PyData}, DqAll K H vs ds → vs.length = ds.length
  | _, _, .nil => rfl
  | _, _, .cons _ h => by rw [List.length_cons, List.length_cons, dpa_len h]
theorem dpa_app : ∀ {vs ws : List V} {ds es : List PyData}, DqAll K H vs ds → DqAll K H ws es → DqAll K H (vs ++ ws) (ds ++ es)
  | _, _, _, _, .nil, h => h
  | _, _, _, _, .cons a b, h => .cons a (dpa_app b h)
theorem dpa_get : ∀ {vs : List V} {ds : List PyData} {i : Nat} {d : PyData}, DqAll K H vs ds → ds[i]? = some d → ∃ v, vs[i]? = some v ∧ Dq K H v d
  | _, _, _, _, .nil, e => by simp at e
  | _, _, 0, _, .cons a _, e => by simp at e; subst e; exact ⟨_, rfl, a⟩
  | _, _, i + 1, d, .cons _ b, e => by
    obtain ⟨v, h1, h2⟩ := dpa_get (i := i) (d := d) b (by simpa using e)
    exact ⟨v, by simpa using h1, h2⟩
theorem dpa_get' : ∀ {vs : List V} {ds : List PyData} {i : Nat} {v : V}, DqAll K H vs ds → vs[i]? = some v → ∃ d, ds[i]? = some d ∧ Dq K H v d
  | _, _, _, _, .nil, e => by simp at e
  | _, _, 0, _, .cons a _, e => by simp at e; subst e; exact ⟨_, rfl, a⟩
  | _, _, i + 1, v, .cons _ b, e => by
    obtain ⟨d, h1, h2⟩ := dpa_get' (i := i) (v := v) b (by simpa using e)
    exact ⟨d, by simpa using h1, h2⟩
theorem dpa_drop : ∀ (n : Nat) {vs : List V} {ds : List PyData}, DqAll K H vs ds → DqAll K H (vs.drop n) (ds.drop n)
  | 0, _, _, h => h
  | _ + 1, _, _, .nil => .nil
  | n + 1, _, _, .cons _ b => dpa_drop n b
theorem dpa_take : ∀ (n : Nat) {vs : List V} {ds : List PyData}, DqAll K H vs ds → DqAll K H (vs.take n) (ds.take n)
  | 0, _, _, _ => .nil
  | _ + 1, _, _, .nil => .nil
  | n + 1, _, _, .cons a b => .cons a (dpa_take n b)
theorem dp_int {i : Int} (h : Dq K H v (.int i)) : v = .int i := by cases h; rfl
theorem dp_bl {b : Bool} (h : Dq K H v (.bool b)) : v = .bl b := by cases h; rfl
theorem dp_str {x : Str} (h : Dq K H v (.str x)) : v = .str x := by cases h; rfl
theorem dp_non (h : Dq K H v .none) : v = .non := by cases h; rfl
theorem dp_lst (h : Dq K H v (.list ds)) : ∃ a xs, v = .ref a ∧ H a = some (.lst xs) ∧ DqAll K H xs ds := by
  cases h with
  | lst h1 h2 => exact ⟨_, _, rfl, h1, h2⟩
theorem dp_tup (h : Dq K H v (.tuple ds)) : ∃ a xs, v = .ref a ∧ SqT K H a xs ∧ DqAll K H xs ds := by
  cases h with
  | tup h1 h2 => exact ⟨_, _, rfl, h1, h2⟩
end
/-! ### readings by themselves -/
def RE (X : Cx) (e : Expr) : TE := fun σ H Q => ∃ t, PE X e t ∧ t σ H Q
def RT (X : Cx) (e : Expr) : TT := fun σ H Q => ∃ t, PT X e t ∧ t σ H Q
def RW (X : Cx) (e : Expr) : TT := fun σ H Q => ∃ t, PW X e t ∧ t σ H Q
def RA (X : Cx) (es : List Expr) : TA := fun σ H Q => ∃ t, PA X es t ∧ t σ H Q
def RS (X : Cx) (st : Stmt) : TS := fun D σ H => ∃ t, PS X st t ∧ t D σ H
def RB (X : Cx) (st : List Stmt) : TS := fun D σ H => ∃ t, PSs X st t ∧ t D σ H
def RI (X : Cx) (tg e : Expr) : TI := fun σ H R => ∃ t, PI X tg e t ∧ t σ H R
section
variable {X : Cx} {e tg : Expr} {es : List Expr} {st : Stmt} {sts : List Stmt}
theorem re_ : PE X e (RE X e) := ⟨fun pins s σ H Q I ⟨_, h, q⟩ => h.run pins s σ H Q I q⟩
theorem rt_ : PT X e (RT X e) := ⟨fun pins s σ H Q I ⟨_, h, q⟩ => h.run pins s σ H Q I q⟩
theorem rw_ : PW X e (RW X e) := ⟨fun wh pins s σ H Q I ⟨_, h, q⟩ => h.run wh pins s σ H Q I q⟩
theorem ra_ : PA X es (RA X es) := ⟨fun pos pins s σ H Q I ⟨_, h, q⟩ => h.run pos pins s σ H Q I q⟩
theorem rs_ : PS X st (RS X st) := ⟨fun pins s σ H D I ⟨_, h, q⟩ => h.run pins s σ H D I q⟩
theorem rb_ : PSs X sts (RB X sts) := ⟨fun pins s σ H D I ⟨_, h, q⟩ => h.run pins s σ H D I q⟩
theorem ri_ : PI X tg e (RI X tg e) := ⟨fun pins s σ H R I ⟨_, h, q⟩ => h.run pins s σ H R I q⟩
end
/-! ### what an expression comes to -/
/-- the data d; an exact value v; a new list of the data ds; arguments; a test -/
def XD (X : Cx) (M : List Addr) (σ : L2.St) (H : Hp) (e : Expr) (d : PyData) : Prop := ∀ H1, Same H H1 → ∀ Q : VK, (∀ v H2, Same H1 H2 → Dq X.K (hid M H2) v d → Q v H2) → RE X e σ H1 Q
def XV (X : Cx) (σ : L2.St) (H : Hp) (e : Expr) (v : V) : Prop := ∀ H1, Same H H1 → ∀ Q : VK, (∀ H2, Same H1 H2 → Q v H2) → RE X e σ H1 Q
def XL (X : Cx) (M : List Addr) (σ : L2.St) (H : Hp) (e : Expr) (ds : List PyData) : Prop :=
  ∀ H1, Same H H1 → ∀ Q : VK, (∀ p xs H2, Same H1 H2 → H1 p = none → H2 p = some (.lst xs) → DqAll X.K (hid M H2) xs ds → Q (.ref p) H2) → RE X e σ H1 Q
def XA (X : Cx) (M : List Addr) (σ : L2.St) (H : Hp) (es : List Expr) (ds : List PyData) : Prop := ∀ H1, Same H H1 → ∀ Q : List V → Hp → Prop, (∀ vs H2, Same H1 H2 → DqAll X.K (hid M H2) vs ds → Q vs H2) → RA X es σ H1 Q
def XT (X : Cx) (σ : L2.St) (H : Hp) (e : Expr) (b : Bool) : Prop := ∀ H1, Same H H1 → ∀ Q : Bool → Hp → Prop, (∀ H2, Same H1 H2 → Q b H2) → RT X e σ H1 Q
def XW (X : Cx) (σ : L2.St) (H : Hp) (e : Expr) (b : Bool) : Prop := ∀ H1, Same H H1 → ∀ Q : Bool → Hp → Prop, (∀ H2, Same H1 H2 → Q b H2) → RW X e σ H1 Q
section
variable {X : Cx} {M : List Addr} {σ : L2.St} {H H' : Hp} {e a b c : Expr} {es : List Expr} {d d1 d2 : PyData} {ds es' : List PyData} {i : Nat} {x : Str} {v : V} {pos : Pos}
theorem XD.up (h : XD X M σ H e d) (s : Same H H') : XD X M σ H' e d := fun H1 q => h H1 (s.trans q)
theorem XV.up (h : XV X σ H e v) (s : Same H H') : XV X σ H' e v := fun H1 q => h H1 (s.trans q)
theorem XL.up (h : XL X M σ H e ds) (s : Same H H') : XL X M σ H' e ds := fun H1 q => h H1 (s.trans q)
theorem XA.up (h : XA X M σ H es ds) (s : Same H H') : XA X M σ H' es ds := fun H1 q => h H1 (s.trans q)
theorem XT.up {b : Bool} (h : XT X σ H e b) (s : Same H H') : XT X σ H' e b := fun H1 q => h H1 (s.trans q)
theorem XD.to {d' : PyData} (h : XD X M σ H e d) (q : d = d') : XD X M σ H e d' := q ▸ h
theorem XL.to {ds' : List PyData} (h : XL X M σ H e ds) (q : ds = ds') : XL X M σ H e ds' := q ▸ h
theorem XT.to {k k' : Bool} (h : XT X σ H e k) (q : k = k') : XT X σ H e k' := q ▸ h
theorem XV.dd (h : XV X σ H e v) (hd : Dq X.K (hid M H) v d) : XD X M σ H e d := fun H1 s Q q => h H1 s Q fun H2 s2 => q v H2 s2 (dp_mono (hid_mono (s.trans s2)) d v hd)
theorem XV.int {n : Int} (h : XV X σ H e (.int n)) : XD X M σ H e (.int n) := h.dd (.int n)
theorem XD.vint {n : Int} (h : XD X M σ H e (.int n)) : XV X σ H e (.int n) := fun H1 s Q q => h H1 s Q fun v H2 s2 hv => by rw [dp_int hv]; exact q H2 s2
theorem XD.vbl {k : Bool} (h : XD X M σ H e (.bool k)) : XV X σ H e (.bl k) := fun H1 s Q q => h H1 s Q fun v H2 s2 hv => by rw [dp_bl hv]; exact q H2 s2
theorem XD.vstr {z : Str} (h : XD X M σ H e (.str z)) : XV X σ H e (.str z) := fun H1 s Q q => h H1 s Q fun v H2 s2 hv => by rw [dp_str hv]; exact q H2 s2
theorem XL.dd (h : XL X M σ H e ds) (L : Live M H) : XD X M σ H e (.list ds) := fun H1 s Q q => h H1 s Q fun p xs H2 s2 hp h2 hd =>
  q _ H2 s2 (.lst (by rw [hid_of (fun z => (L.mono s) p z hp)]; exact h2) hd)
/-! names, constants -/
theorem xv_name (i : Nat) {x : Str} {v : V} {pos : Pos} (hv : σ[i]? = some (some v)) (hN : X.N[i]? = some x := by rfl) (hs : Vis X.env.scope x := by first | exact Or.inl rfl | exact Or.inr (Or.inl rfl) | exact Or.inr (Or.inr rfl))
    (hb : (x == ("__debug__" : Str)) = false := by decide) (hc : (x == ("__classdict__" : Str)) = false := by decide) : XV X σ H (.Name x pos) v := fun H1 _ Q q => ⟨_, pe_var hN hs hb hc, v, hv, q H1 (Same.refl _)⟩
theorem xd_name (i : Nat) {x : Str} {v : V} {pos : Pos} (hv : σ[i]? = some (some v)) (hd : Dq X.K (hid M H) v d) (hN : X.N[i]? = some x := by rfl) (hs : Vis X.env.scope x := by first | exact Or.inl rfl | exact Or.inr (Or.inl rfl) | exact Or.inr (Or.inr rfl))
    (hb : (x == ("__debug__" : Str)) = false := by decide) (hc : (x == ("__classdict__" : Str)) = false := by decide) : XD X M σ H (.Name x pos) d := (xv_name i hv hN hs hb hc).dd hd
theorem xv_int {n : Int} {j} : XV X σ H (.Constant (.int n) j pos) (.int n) := fun H1 _ Q q => ⟨_, pe_int, q H1 (Same.refl _)⟩
theorem xd_int {n : Int} {j} : XD X M σ H (.Constant (.int n) j pos) (.int n) := xv_int.int
theorem xv_str {z : Str} {j} : XV X σ H (.Constant (.str z) j pos) (.str z) := fun H1 _ Q q => ⟨_, pe_str, q H1 (Same.refl _)⟩
theorem xd_str {z : Str} {j} : XD X M σ H (.Constant (.str z) j pos) (.str z) := xv_str.dd (.str z)
theorem xd_bl {k : Bool} {j} : XD X M σ H (.Constant (.bool k) j pos) (.bool k) := fun H1 _ Q q => ⟨_, pe_bl, q _ H1 (Same.refl _) (.bl k)⟩
theorem xd_non {j} : XD X M σ H (.Constant .none j pos) .none := fun H1 _ Q q => ⟨_, pe_non, q _ H1 (Same.refl _) .non⟩
theorem xv_glob {u : Value} (hm : X.mg x = some u) (r : RelV v u) (hg : Gl X x := by rfl) (hd : (x == ("__debug__" : Str)) = false := by decide) : XV X σ H (.Name x pos) v := fun H1 _ Q q => ⟨_, pe_glob hg hm r hd, q H1 (Same.refl _)⟩
theorem xv_bltn {u : Value} (hm : X.mg x = none) (hv : bootBuiltins x = some u) (r : RelV v u) (hg : Gl X x := by rfl) (hn : x ≠ "__name__" := by decide) (hd : (x == ("__debug__" : Str)) = false := by decide) : XV X σ H (.Name x pos) v :=
  fun H1 _ Q q => ⟨_, pe_bltn hg hm hv r hn hd, q H1 (Same.refl _)⟩
/-! displays -/
theorem xa_nil : XA X M σ H [] [] := fun H1 _ Q q => ⟨_, pa_nil, q [] H1 (Same.refl _) .nil⟩
theorem xa_cons (ha : XD X M σ H e d) (hr : XA X M σ H es ds) (hs : starEach (e :: es) X.env = (false, eval e X.env) :: starEach es X.env := by rfl) : XA X M σ H (e :: es) (d :: ds) := fun H1 s Q q =>
  ⟨_, pa_cons re_ ra_ hs, ha H1 s _ fun v H2 s2 hv => hr H2 (s.trans s2) _ fun vs H3 s3 hvs => q _ H3 (s2.trans s3) (.cons (hv.up (hid_mono s3)) hvs)⟩
theorem small_sz {n : Nat} (h : n ≤ 100000) : n ≤ sizeLine := Nat.le_trans h (by decide)
theorem xd_tup {x1} (L : Live M H) (h : XA X M σ H es ds) (hl : ds.length ≤ 100000 := by simp) : XD X M σ H (.Tuple es x1 pos) (.tuple ds) := fun H1 s Q q =>
  ⟨_, pe_tup ra_, h H1 s _ fun vs H2 s2 hvs => ⟨by rw [dpa_len hvs]; exact small_sz hl, fun p hp => q _ _ (s2.trans (same_new hp)) (by
    rw [hid_new (L.mono (s.trans s2)) hp]
    exact .tup (SqT.of upd_same) (hvs.up (same_new (hid_free hp))))⟩⟩
theorem xl_lst (L : Live M H) (h : XA X M σ H es ds) (hl : ds.length ≤ 100000 := by simp) : XL X M σ H (.List es pos) ds := fun H1 s Q q =>
  ⟨_, pe_lst ra_, h H1 s _ fun vs H2 s2 hvs => ⟨by rw [dpa_len hvs]; exact small_sz hl, fun p hp => q p vs _ (s2.trans (same_new hp)) (s2.free hp) upd_same (by
    rw [hid_new (L.mono (s.trans s2)) hp]
    exact hvs.up (same_new (hid_free hp)))⟩⟩
theorem xd_lst (L : Live M H) (h : XA X M σ H es ds) (hl : ds.length ≤ 100000 := by simp) : XD X M σ H (.List es pos) (.list ds) := (xl_lst L h hl).dd L
/-! operators -/
theorem xd_bin {op : Operator} {r : R2} (ho : OpR X (binaryOp op) r) (ha : XD X M σ H a d1) (hb : XD X M σ H b d2)
    (hr : ∀ H1 v w, Same H H1 → Dq X.K (hid M H1) v d1 → Dq X.K (hid M H1) w d2 → ∀ Q : VK, (∀ u H2, Same H1 H2 → Dq X.K (hid M H2) u d → Q u H2) → r v w H1 Q) : XD X M σ H (.BinOp a op b pos) d := fun H1 s Q q =>
  ⟨_, pe_op ho re_ re_, ha H1 s _ fun v H2 s2 hv => hb H2 (s.trans s2) _ fun w H3 s3 hw => hr H3 v w ((s.trans s2).trans s3) (hv.up (hid_mono s3)) hw Q fun u H4 s4 hu => q u H4 ((s2.trans s3).trans s4) hu⟩
theorem xd_binI {op : Operator} {C : Int → Int → Prop} {g : Int → Int → Int} {m n : Int} (ho : OpR X (binaryOp op) (rI C fun i j => .int (g i j))) (ha : XD X M σ H a (.int m)) (hb : XD X M σ H b (.int n)) (hc : C m n) : XD X M σ H (.BinOp a op b pos) (.int (g m n)) :=
  xd_bin ho ha hb fun H1 v w s hv hw Q q => ⟨m, n, dp_int hv, dp_int hw, hc, q _ H1 (Same.refl _) (.int _)⟩
theorem xd_binI0 {op : Operator} {g : Int → Int → Int} {m n : Int} (ho : OpR X (binaryOp op) (rI0 fun i j => .int (g i j))) (ha : XD X M σ H a (.int m)) (hb : XD X M σ H b (.int n)) : XD X M σ H (.BinOp a op b pos) (.int (g m n)) :=
  xd_bin ho ha hb fun H1 v w s hv hw Q q => ⟨m, n, dp_int hv, dp_int hw, q _ H1 (Same.refl _) (.int _)⟩
theorem xd_add {m n : Int} (ha : XD X M σ H a (.int m)) (hb : XD X M σ H b (.int n)) : XD X M σ H (.BinOp a .Add b pos) (.int (m + n)) := xd_binI0 op_add ha hb
theorem xd_sub {m n : Int} (ha : XD X M σ H a (.int m)) (hb : XD X M σ H b (.int n)) : XD X M σ H (.BinOp a .Sub b pos) (.int (m - n)) := xd_binI0 op_sub ha hb
theorem xd_mul {m n : Int} (ha : XD X M σ H a (.int m)) (hb : XD X M σ H b (.int n)) (hc : (-(2 ^ 64) < m ∧ m < 2 ^ 64) ∨ (-(2 ^ 64) < n ∧ n < 2 ^ 64)) : XD X M σ H (.BinOp a .Mult b pos) (.int (m * n)) := xd_binI op_mul ha hb hc
theorem xd_neg {m : Int} (ha : XD X M σ H a (.int m)) : XD X M σ H (.UnaryOp .USub a pos) (.int (-m)) := fun H1 s Q q =>
  ⟨_, pe_un un_neg re_, ha H1 s _ fun v H2 s2 hv => ⟨m, dp_int hv, q _ H2 s2 (.int _)⟩⟩
/-! comparisons -/
theorem xd_cmp {op : CmpOp} {r : R2} (ho : OpR X (compareOp op) r) (ha : XD X M σ H a d1) (hb : XD X M σ H b d2)
    (hr : ∀ H1 v w, Same H H1 → Dq X.K (hid M H1) v d1 → Dq X.K (hid M H1) w d2 → ∀ Q : VK, (∀ u H2, Same H1 H2 → Dq X.K (hid M H2) u d → Q u H2) → r v w H1 Q)
    (hm : behindInMarks op b = false := by first | exact nomark _ | rfl) : XD X M σ H (.Compare a [op] [b] pos) d := fun H1 s Q q =>
  ⟨_, pe_cmpR ho re_ re_ hm, ha H1 s _ fun v H2 s2 hv => hb H2 (s.trans s2) _ fun w H3 s3 hw => hr H3 v w ((s.trans s2).trans s3) (hv.up (hid_mono s3)) hw Q fun u H4 s4 hu => q u H4 ((s2.trans s3).trans s4) hu⟩
theorem xt_cmp {k : Bool} {op : CmpOp} {r : R2} (ho : OpR X (compareOp op) r) (ha : XD X M σ H a d1) (hb : XD X M σ H b d2)
    (hr : ∀ H1 v w, Same H H1 → Dq X.K (hid M H1) v d1 → Dq X.K (hid M H1) w d2 → ∀ Q : VK, (∀ H2, Same H1 H2 → Q (.bl k) H2) → r v w H1 Q)
    (hm : behindInMarks op b = false := by first | exact nomark _ | rfl) : XT X σ H (.Compare a [op] [b] pos) k := fun H1 s Q q =>
  ⟨_, pt_cmpR ho re_ re_ hm, ha H1 s _ fun v H2 s2 hv => hb H2 (s.trans s2) _ fun w H3 s3 hw => hr H3 v w ((s.trans s2).trans s3) (hv.up (hid_mono s3)) hw _ fun H4 s4 => ⟨k, rfl, q H4 ((s2.trans s3).trans s4)⟩⟩
theorem xt_cmpI {op : CmpOp} {g : Int → Int → Bool} {m n : Int} (ho : OpR X (compareOp op) (rI0 fun i j => .bl (g i j))) (ha : XD X M σ H a (.int m)) (hb : XD X M σ H b (.int n)) (hm : behindInMarks op b = false := by exact nomark _) : XT X σ H (.Compare a [op] [b] pos) (g m n) :=
  xt_cmp ho ha hb (fun H1 v w s hv hw Q q => ⟨m, n, dp_int hv, dp_int hw, q H1 (Same.refl _)⟩) hm
theorem xd_cmpI {op : CmpOp} {g : Int → Int → Bool} {m n : Int} (ho : OpR X (compareOp op) (rI0 fun i j => .bl (g i j))) (ha : XD X M σ H a (.int m)) (hb : XD X M σ H b (.int n)) (hm : behindInMarks op b = false := by exact nomark _) : XD X M σ H (.Compare a [op] [b] pos) (.bool (g m n)) :=
  xd_cmp ho ha hb (fun H1 v w s hv hw Q q => ⟨m, n, dp_int hv, dp_int hw, q _ H1 (Same.refl _) (.bl _)⟩) hm
theorem dec_int {m n : Int} : decide (V.int m = V.int n) = decide (m = n) := by
  by_cases h : m = n
  · subst h; simp
  · rw [decide_eq_false h, decide_eq_false fun z => h (V.int.inj z)]
theorem xd_eqI {m n : Int} (ha : XD X M σ H a (.int m)) (hb : XD X M σ H b (.int n)) : XD X M σ H (.Compare a [.Eq] [b] pos) (.bool (decide (m = n))) :=
  xd_cmp op_eq ha hb fun H1 v w s hv hw Q q => by
    rw [dp_int hv, dp_int hw]
    exact ⟨rfl, by rw [dec_int]; exact q _ H1 (Same.refl _) (.bl _)⟩
theorem xd_neI {m n : Int} (ha : XD X M σ H a (.int m)) (hb : XD X M σ H b (.int n)) : XD X M σ H (.Compare a [.NotEq] [b] pos) (.bool (!decide (m = n))) :=
  xd_cmp op_ne ha hb fun H1 v w s hv hw Q q => by
    rw [dp_int hv, dp_int hw]
    exact ⟨rfl, by rw [dec_int]; exact q _ H1 (Same.refl _) (.bl _)⟩
theorem xt_eqI {m n : Int} (ha : XD X M σ H a (.int m)) (hb : XD X M σ H b (.int n)) : XT X σ H (.Compare a [.Eq] [b] pos) (decide (m = n)) :=
  xt_cmp op_eq ha hb fun H1 v w s hv hw Q q => by
    rw [dp_int hv, dp_int hw]
    exact ⟨rfl, by rw [dec_int]; exact q H1 (Same.refl _)⟩
theorem xt_neI {m n : Int} (ha : XD X M σ H a (.int m)) (hb : XD X M σ H b (.int n)) : XT X σ H (.Compare a [.NotEq] [b] pos) (!decide (m = n)) :=
  xt_cmp op_ne ha hb fun H1 v w s hv hw Q q => by
    rw [dp_int hv, dp_int hw]
    exact ⟨rfl, by rw [dec_int]; exact q H1 (Same.refl _)⟩
theorem xd_eqD (hu : X.A.units + 64 < cLine) (ha : XD X M σ H a d1) (hb : XD X M σ H b d2) (s1 : SeqAt.shaped d1 = true) (s2 : SeqAt.shaped d2 = true) : XD X M σ H (.Compare a [.Eq] [b] pos) (.bool (PyData.eqv d1 d2)) :=
  xd_cmp (op_eqD hu) ha hb fun H1 v w s hv hw Q q => ⟨d1, d2, (hv.up hid_le).dp, (hw.up hid_le).dp, s1, s2, q _ H1 (Same.refl _) (.bl _)⟩
theorem xd_neD (hu : X.A.units + 64 < cLine) (ha : XD X M σ H a d1) (hb : XD X M σ H b d2) (s1 : SeqAt.shaped d1 = true) (s2 : SeqAt.shaped d2 = true) : XD X M σ H (.Compare a [.NotEq] [b] pos) (.bool (!PyData.eqv d1 d2)) :=
  xd_cmp (op_neD hu) ha hb fun H1 v w s hv hw Q q => ⟨d1, d2, (hv.up hid_le).dp, (hw.up hid_le).dp, s1, s2, q _ H1 (Same.refl _) (.bl _)⟩
theorem xt_eqD (hu : X.A.units + 64 < cLine) (ha : XD X M σ H a d1) (hb : XD X M σ H b d2) (s1 : SeqAt.shaped d1 = true) (s2 : SeqAt.shaped d2 = true) : XT X σ H (.Compare a [.Eq] [b] pos) (PyData.eqv d1 d2) :=
  xt_cmp (op_eqD hu) ha hb fun H1 v w s hv hw Q q => ⟨d1, d2, (hv.up hid_le).dp, (hw.up hid_le).dp, s1, s2, q H1 (Same.refl _)⟩
theorem xt_neD (hu : X.A.units + 64 < cLine) (ha : XD X M σ H a d1) (hb : XD X M σ H b d2) (s1 : SeqAt.shaped d1 = true) (s2 : SeqAt.shaped d2 = true) : XT X σ H (.Compare a [.NotEq] [b] pos) (!PyData.eqv d1 d2) :=
  xt_cmp (op_neD hu) ha hb fun H1 v w s hv hw Q q => ⟨d1, d2, (hv.up hid_le).dp, (hw.up hid_le).dp, s1, s2, q H1 (Same.refl _)⟩
/-! not, and, or -/
theorem xd_not {k : Bool} (ha : XD X M σ H a (.bool k)) : XD X M σ H (.UnaryOp .Not a pos) (.bool (!k)) := fun H1 s Q q =>
  ⟨_, pe_not re_, ha H1 s _ fun v H2 s2 hv => ⟨k, dp_bl hv, q _ H2 s2 (.bl _)⟩⟩
theorem xd_one {op} (ha : XD X M σ H a d) : XD X M σ H (.BoolOp op [a] pos) d := fun H1 s Q q => ⟨_, pe_one re_, ha H1 s Q q⟩
theorem xd_andT {rest : List Expr} (ha : XD X M σ H a (.bool true)) (hb : XD X M σ H (.BoolOp .And (b :: rest) pos) d) : XD X M σ H (.BoolOp .And (a :: b :: rest) pos) d := fun H1 s Q q =>
  ⟨_, pe_and re_ re_, ha H1 s _ fun v H2 s2 hv => ⟨true, dp_bl hv, iteT (hb H2 (s.trans s2) Q fun u H3 s3 hu => q u H3 (s2.trans s3) hu)⟩⟩
theorem xd_andF {rest : List Expr} (ha : XD X M σ H a (.bool false)) : XD X M σ H (.BoolOp .And (a :: b :: rest) pos) (.bool false) := fun H1 s Q q =>
  ⟨_, pe_and re_ re_, ha H1 s _ fun v H2 s2 hv => ⟨false, dp_bl hv, iteF (q _ H2 s2 (.bl _))⟩⟩
theorem xd_and2 {k1 k2 : Bool} (ha : XD X M σ H a (.bool k1)) (hb : k1 = true → XD X M σ H b (.bool k2)) : XD X M σ H (.BoolOp .And [a, b] pos) (.bool (k1 && k2)) := by
  cases k1 with
  | true => exact xd_andT ha (xd_one (hb rfl))
  | false => exact xd_andF ha
theorem xd_orF {rest : List Expr} (ha : XD X M σ H a (.bool false)) (hb : XD X M σ H (.BoolOp .Or (b :: rest) pos) d) : XD X M σ H (.BoolOp .Or (a :: b :: rest) pos) d := fun H1 s Q q =>
  ⟨_, pe_or re_ re_, ha H1 s _ fun v H2 s2 hv => ⟨false, dp_bl hv, iteF (hb H2 (s.trans s2) Q fun u H3 s3 hu => q u H3 (s2.trans s3) hu)⟩⟩
theorem xd_orT {rest : List Expr} (ha : XD X M σ H a (.bool true)) : XD X M σ H (.BoolOp .Or (a :: b :: rest) pos) (.bool true) := fun H1 s Q q =>
  ⟨_, pe_or re_ re_, ha H1 s _ fun v H2 s2 hv => ⟨true, dp_bl hv, iteT (q _ H2 s2 (.bl _))⟩⟩
theorem xt_val {k : Bool} (h : XD X M σ H e (.bool k)) (he : ∀ whole, isTrue e X.env whole = (do let v ← whole; standAt e.pos; holding [v] (truthy v)) := by intro _; rfl) : XT X σ H e k := fun H1 s Q q =>
  ⟨_, pt_val re_ he, h H1 s _ fun v H2 s2 hv => ⟨k, dp_bl hv, q H2 s2⟩⟩
theorem xt_not {k : Bool} (ha : XT X σ H a k) : XT X σ H (.UnaryOp .Not a pos) (!k) := fun H1 s Q q => ⟨_, pt_not rt_, ha H1 s _ q⟩
theorem xw_and1 {k : Bool} (ha : XT X σ H a k) : XW X σ H (.BoolOp .And [a] pos) k := fun H1 s Q q => ⟨_, pw_and1 rt_, ha H1 s _ q⟩
theorem xw_or1 {k : Bool} (ha : XT X σ H a k) : XW X σ H (.BoolOp .Or [a] pos) k := fun H1 s Q q => ⟨_, pw_or1 rt_, ha H1 s _ q⟩
theorem xw_andT {k : Bool} {rest : List Expr} (ha : XT X σ H a true) (hb : XW X σ H (.BoolOp .And (b :: rest) pos) k) : XW X σ H (.BoolOp .And (a :: b :: rest) pos) k := fun H1 s Q q =>
  ⟨_, pw_and rt_ rw_, ha H1 s _ fun H2 s2 => iteT (hb H2 (s.trans s2) Q fun H3 s3 => q H3 (s2.trans s3))⟩
theorem xw_andF {rest : List Expr} (ha : XT X σ H a false) : XW X σ H (.BoolOp .And (a :: b :: rest) pos) false := fun H1 s Q q =>
  ⟨_, pw_and rt_ rw_, ha H1 s _ fun H2 s2 => iteF (q H2 s2)⟩
theorem xw_orF {k : Bool} {rest : List Expr} (ha : XT X σ H a false) (hb : XW X σ H (.BoolOp .Or (b :: rest) pos) k) : XW X σ H (.BoolOp .Or (a :: b :: rest) pos) k := fun H1 s Q q =>
  ⟨_, pw_or rt_ rw_, ha H1 s _ fun H2 s2 => iteF (hb H2 (s.trans s2) Q fun H3 s3 => q H3 (s2.trans s3))⟩
theorem xw_orT {rest : List Expr} (ha : XT X σ H a true) : XW X σ H (.BoolOp .Or (a :: b :: rest) pos) true := fun H1 s Q q =>
  ⟨_, pw_or rt_ rw_, ha H1 s _ fun H2 s2 => iteT (q H2 s2)⟩
theorem XW.t {k : Bool} (h : XW X σ H e k) : XT X σ H e k := fun H1 s Q q => ⟨_, PW.pt rw_, h H1 s Q q⟩
theorem xt_and2 {k1 k2 : Bool} (ha : XT X σ H a k1) (hb : k1 = true → XT X σ H b k2) : XT X σ H (.BoolOp .And [a, b] pos) (k1 && k2) := by
  cases k1 with
  | true => exact (xw_andT ha (xw_and1 (hb rfl))).t
  | false => exact (xw_andF ha).t
theorem xt_or2 {k1 k2 : Bool} (ha : XT X σ H a k1) (hb : k1 = false → XT X σ H b k2) : XT X σ H (.BoolOp .Or [a, b] pos) (k1 || k2) := by
  cases k1 with
  | false => exact (xw_orF ha (xw_or1 (hb rfl))).t
  | true => exact (xw_orT ha).t
theorem xd_ifT {k : Expr} (hc : XT X σ H k true) (ha : XD X M σ H a d) : XD X M σ H (.IfExp k a b pos) d := fun H1 s Q q =>
  ⟨_, pe_ifExp rt_ re_ re_, hc H1 s _ fun H2 s2 => iteT (ha H2 (s.trans s2) Q fun u H3 s3 hu => q u H3 (s2.trans s3) hu)⟩
theorem xd_ifF {k : Expr} (hc : XT X σ H k false) (hb : XD X M σ H b d) : XD X M σ H (.IfExp k a b pos) d := fun H1 s Q q =>
  ⟨_, pe_ifExp rt_ re_ re_, hc H1 s _ fun H2 s2 => iteF (hb H2 (s.trans s2) Q fun u H3 s3 hu => q u H3 (s2.trans s3) hu)⟩
end
end Dl

set_option Elab.async false
set_option linter.all false
set_option maxRecDepth 100000
set_option maxHeartbeats 4000000
/-! Data layer, part 2: statements, subscripts, built-ins, lists, comprehensions, loops. -/
namespace Dl
open PySem PySem.Spec PyProof.Rows L2
section
variable {X : Cx} {M : List Addr} {σ : L2.St} {H H' : Hp} {e a b c o : Expr} {es : List Expr} {d d1 d2 : PyData} {ds es' : List PyData} {i : Nat} {x : Str} {v : V} {pos p1 p2 p3 : Pos} {D : Ends} {rest sts : List Stmt} {st : Stmt}
theorem XD.go {Q : VK} (h : XD X M σ H e d) (k : ∀ v H2, Same H H2 → Dq X.K (hid M H2) v d → Q v H2) : RE X e σ H Q := h H (Same.refl H) Q k
theorem XL.go {Q : VK} (h : XL X M σ H e ds) (k : ∀ p xs H2, Same H H2 → H p = none → H2 p = some (.lst xs) → DqAll X.K (hid M H2) xs ds → Q (.ref p) H2) : RE X e σ H Q := h H (Same.refl H) Q k
theorem XV.go {Q : VK} (h : XV X σ H e v) (k : ∀ H2, Same H H2 → Q v H2) : RE X e σ H Q := h H (Same.refl H) Q k
theorem XA.go {Q : List V → Hp → Prop} (h : XA X M σ H es ds) (k : ∀ vs H2, Same H H2 → DqAll X.K (hid M H2) vs ds → Q vs H2) : RA X es σ H Q := h H (Same.refl H) Q k
/-! ### statements -/
theorem rb_nil (h : D.nx σ H) : RB X [] D σ H := ⟨_, pss_nil, h⟩
theorem rb_cons (h : RS X st { D with nx := RB X rest D } σ H) : RB X (st :: rest) D σ H := ⟨_, pss_cons rs_ rb_, h⟩
/-- x = e, by the raw reading -/
theorem rb_setR (i : Nat) {x : Str} {pos' : Pos} (h : RE X e σ H fun v H1 => RB X rest D (σ.set i (some v)) H1) (hN : X.N.Nodup) (hi : X.N[i]? = some x := by rfl) (hx : Loc X.env.scope x := by first | exact Or.inl rfl | exact Or.inr rfl)
    (hs : swapsWith e (some (.Name x pos')) pos.line X.env = pure false := by rfl) (hf : X.fn x = true ∨ X.env.scope.names.lookup x = some .local := by first | exact .inl rfl | exact .inr rfl) : RB X (.Assign [.Name x pos'] e pos :: rest) D σ H :=
  ⟨_, pss_cons (ps_set hN hi hx re_ hs hf) rb_, h⟩
theorem rb_set (i : Nat) {x : Str} {pos' : Pos} (h : XD X M σ H e d) (k : ∀ v H1, Same H H1 → Dq X.K (hid M H1) v d → RB X rest D (σ.set i (some v)) H1) (hN : X.N.Nodup) (hi : X.N[i]? = some x := by rfl) (hx : Loc X.env.scope x := by first | exact Or.inl rfl | exact Or.inr rfl)
    (hs : swapsWith e (some (.Name x pos')) pos.line X.env = pure false := by rfl) (hf : X.fn x = true ∨ X.env.scope.names.lookup x = some .local := by first | exact .inl rfl | exact .inr rfl) : RB X (.Assign [.Name x pos'] e pos :: rest) D σ H :=
  rb_setR i (h H (Same.refl H) _ fun v H1 s hv => k v H1 s hv) hN hi hx hs hf
theorem rb_setL (i : Nat) {x : Str} {pos' : Pos} (h : XL X M σ H e ds) (k : ∀ p xs H1, Same H H1 → H p = none → H1 p = some (.lst xs) → DqAll X.K (hid M H1) xs ds → RB X rest D (σ.set i (some (.ref p))) H1) (hN : X.N.Nodup) (hi : X.N[i]? = some x := by rfl) (hx : Loc X.env.scope x := by first | exact Or.inl rfl | exact Or.inr rfl)
    (hs : swapsWith e (some (.Name x pos')) pos.line X.env = pure false := by rfl) (hf : X.fn x = true ∨ X.env.scope.names.lookup x = some .local := by first | exact .inl rfl | exact .inr rfl) : RB X (.Assign [.Name x pos'] e pos :: rest) D σ H :=
  rb_setR i (h H (Same.refl H) _ fun p xs H1 s hp h1 hd => k p xs H1 s hp h1 hd) hN hi hx hs hf
theorem rb_setV (i : Nat) {x : Str} {pos' : Pos} (h : XV X σ H e v) (k : ∀ H1, Same H H1 → RB X rest D (σ.set i (some v)) H1) (hN : X.N.Nodup) (hi : X.N[i]? = some x := by rfl) (hx : Loc X.env.scope x := by first | exact Or.inl rfl | exact Or.inr rfl)
    (hs : swapsWith e (some (.Name x pos')) pos.line X.env = pure false := by rfl) (hf : X.fn x = true ∨ X.env.scope.names.lookup x = some .local := by first | exact .inl rfl | exact .inr rfl) : RB X (.Assign [.Name x pos'] e pos :: rest) D σ H :=
  rb_setR i (h H (Same.refl H) _ fun H1 s => k H1 s) hN hi hx hs hf
theorem rb_retR (h : RE X e σ H D.rt) : RB X (.Return (some e) pos :: rest) D σ H := ⟨_, pss_cons (ps_ret re_) rb_, h⟩
theorem rb_ret (h : XD X M σ H e d) (k : ∀ v H1, Same H H1 → Dq X.K (hid M H1) v d → D.rt v H1) : RB X (.Return (some e) pos :: rest) D σ H := rb_retR (h H (Same.refl H) _ fun v H1 s hv => k v H1 s hv)
theorem rb_exprR (h : RE X e σ H fun _ H1 => RB X rest D σ H1) (hs : swapsWith e none pos.line X.env = pure false := by rfl) : RB X (.Expr e pos :: rest) D σ H := ⟨_, pss_cons (ps_expr re_ hs) rb_, h⟩
theorem rb_expr (h : XD X M σ H e d) (k : ∀ H1, Same H H1 → RB X rest D σ H1) (hs : swapsWith e none pos.line X.env = pure false := by rfl) : RB X (.Expr e pos :: rest) D σ H := rb_exprR (h H (Same.refl H) _ fun _ H1 s _ => k H1 s) hs
theorem rb_ifR {t f : List Stmt} (h : RT X c σ H fun k H1 => if k = true then RB X t { D with nx := RB X rest D } σ H1 else RB X f { D with nx := RB X rest D } σ H1) : RB X (.If c t f pos :: rest) D σ H := ⟨_, pss_cons (ps_if rt_ rb_ rb_) rb_, h⟩
theorem rb_if {k : Bool} {t f : List Stmt} (h : XT X σ H c k) (hT : k = true → ∀ H1, Same H H1 → RB X t { D with nx := RB X rest D } σ H1) (hF : k = false → ∀ H1, Same H H1 → RB X f { D with nx := RB X rest D } σ H1) : RB X (.If c t f pos :: rest) D σ H :=
  rb_ifR (h H (Same.refl H) _ fun H1 s => by
    cases k with
    | true => exact iteT (hT rfl H1 s)
    | false => exact iteF (hF rfl H1 s))
/-- if c: .. (no else) with c false -/
theorem rb_ifF {t : List Stmt} (h : XT X σ H c false) (k : ∀ H1, Same H H1 → RB X rest D σ H1) : RB X (.If c t [] pos :: rest) D σ H := rb_if h (fun z => Bool.noConfusion z) fun _ H1 s => rb_nil (k H1 s)
theorem rb_ifT {t f : List Stmt} (h : XT X σ H c true) (k : ∀ H1, Same H H1 → RB X t { D with nx := RB X rest D } σ H1) : RB X (.If c t f pos :: rest) D σ H := rb_if h (fun _ => k) fun z => Bool.noConfusion z
theorem rb_par (i j : Nat) {x y : Str} {px py pt : Pos} {kt k2 pt2} (ha : XA X M σ H [a, b] [d1, d2]) (k : ∀ v w H1, Same H H1 → Dq X.K (hid M H1) v d1 → Dq X.K (hid M H1) w d2 → RB X rest D ((σ.set i (some v)).set j (some w)) H1) (hN : X.N.Nodup)
    (hw : swappedStores [.Tuple [.Name x px, .Name y py] kt pt] (.Tuple [a, b] k2 pt2) X.env = pure (some [x, y]) := by rfl) (hc : X.calm = true := by rfl) (hi : X.N[i]? = some x := by rfl) (hj : X.N[j]? = some y := by rfl) (hij : i ≠ j := by decide)
    (hx : X.env.scope.names.lookup x = some .local := by rfl) (hy : X.env.scope.names.lookup y = some .local := by rfl)
    (hs : swapsWithSole [.Tuple [.Name x px, .Name y py] kt pt] (.Tuple [a, b] k2 pt2) pos.line X.env = pure false := by rfl) : RB X (.Assign [.Tuple [.Name x px, .Name y py] kt pt] (.Tuple [a, b] k2 pt2) pos :: rest) D σ H :=
  ⟨_, pss_cons (ps_par hc hN hi hj hij hx hy ra_ hw hs) rb_, ha H (Same.refl H) _ fun vs H1 s hv => by
    cases hv with
    | cons h1 h2 => cases h2 with
      | cons h2 h3 => cases h3; exact ⟨_, _, rfl, k _ _ H1 s h1 h2⟩⟩
/-- targets: a name; names of a tuple -/
def RG (X : Cx) (tg : Expr) : TG := fun v σ H Q => ∃ g, PG X tg g ∧ g v σ H Q
theorem rg_ {tg : Expr} : PG X tg (RG X tg) := ⟨fun pins s σ H v u Q I r ⟨_, h, q⟩ => h.run pins s σ H v u Q I r q⟩
def RGs (X : Cx) (tg : List Expr) : TGs := fun v σ H Q => ∃ g, PGs X tg g ∧ g v σ H Q
theorem rgs_ {tg : List Expr} : PGs X tg (RGs X tg) := ⟨fun pins s σ H v u Q I r ⟨_, h, q⟩ => h.run pins s σ H v u Q I r q⟩
theorem rg_name (i : Nat) {x : Str} {Q : L2.St → Hp → Prop} (q : Q (σ.set i (some v)) H) (hN : X.N.Nodup) (hi : X.N[i]? = some x := by rfl) (hx : Loc X.env.scope x := by first | exact Or.inl rfl | exact Or.inr rfl) (hf : X.fn x = true ∨ X.env.scope.names.lookup x = some .local := by first | exact .inl rfl | exact .inr rfl) :
    RG X (.Name x pos) v σ H Q := ⟨_, pg_name hN hi hx hf, q⟩
theorem rgs_nil {Q : L2.St → Hp → Prop} (q : Q σ H) : RGs X [] [] σ H Q := ⟨_, pgs_nil, rfl, q⟩
theorem rgs_cons {tg : Expr} {tgs : List Expr} {vs : List V} {Q : L2.St → Hp → Prop} (h : RG X tg v σ H fun σ1 H1 => RGs X tgs vs σ1 H1 Q) (hs : (assignEach (tg :: tgs) X.env).map (·.2) = assign tg X.env :: (assignEach tgs X.env).map (·.2) := by rfl) : RGs X (tg :: tgs) (v :: vs) σ H Q :=
  ⟨_, pgs_cons rg_ rgs_ hs, v, vs, rfl, h⟩
theorem rg_tup {tgs : List Expr} {k : Nat} {xs : List V} {p : Addr} {Q : L2.St → Hp → Prop} (hT : SqT X.K H p xs) (h : RGs X tgs xs σ H Q) (hc : X.calm = true := by rfl)
    (hn : (assignEach tgs X.env).length = xs.length := by rfl) (hst : (assignEach tgs X.env).findIdx? (·.1) = none := by rfl) : RG X (.Tuple tgs k pos) (.ref p) σ H Q := ⟨_, pg_tup (n := xs.length) hc rgs_ hn hst, p, xs, rfl, hT, rfl, h⟩
theorem rb_asgR {tg : Expr} (h : RE X e σ H fun v H1 => RG X tg v σ H1 (RB X rest D)) (hs : swapsWithSole [tg] e pos.line X.env = pure false := by rfl) (hw : swappedStores [tg] e X.env = pure none := by rfl)
    (h1 : (assignEach [tg] X.env).map (·.2) = [assign tg X.env] := by rfl) : RB X (.Assign [tg] e pos :: rest) D σ H := ⟨_, pss_cons (ps_asg re_ rg_ hs hw h1) rb_, h⟩
/-! ### calls of built-ins -/
theorem re_B {id : String} {r : List V → Hp → VK → Prop} {Q : VK} (hc : CallR X (.builtin id) r) (h : RA X (e :: es) σ H fun vs H1 => r vs H1 Q) (hm : X.mg x = none) (hv : bootBuiltins x = some (.builtin id)) (hg : Gl X x := by rfl) (hn : x ≠ "__name__" := by decide) (hdb : (x == ("__debug__" : Str)) = false := by decide)
    (he : starEach (e :: es) X.env = (false, eval e X.env) :: starEach es X.env := by rfl) (hpl : (backTo pos (starEach es X.env)).any (·.1) = false := by rfl) : RE X (.Call (.Name x p1) (e :: es) [] pos) σ H Q := ⟨_, pe_callB hc hg hm hv ra_ hn hdb he hpl, h⟩
theorem re_Ty {T : String} {r : List V → Hp → VK → Prop} {Q : VK} (hc : CallR X (.type T) r) (h : RA X (e :: es) σ H fun vs H1 => r vs H1 Q) (hm : X.mg x = none) (hv : bootBuiltins x = some (.type T)) (hg : Gl X x := by rfl) (hn : x ≠ "__name__" := by decide) (hdb : (x == ("__debug__" : Str)) = false := by decide)
    (he : starEach (e :: es) X.env = (false, eval e X.env) :: starEach es X.env := by rfl) (hpl : (backTo pos (starEach es X.env)).any (·.1) = false := by rfl) : RE X (.Call (.Name x p1) (e :: es) [] pos) σ H Q := ⟨_, pe_callTy hc hg hm hv ra_ hn hdb he hpl, h⟩
theorem ra_nil {Q : List V → Hp → Prop} (q : Q [] H) : RA X [] σ H Q := ⟨_, pa_nil, q⟩
theorem ra_cons {Q : List V → Hp → Prop} (h : RE X e σ H fun v H1 => RA X es σ H1 fun vs H2 => Q (v :: vs) H2) (hs : starEach (e :: es) X.env = (false, eval e X.env) :: starEach es X.env := by rfl) : RA X (e :: es) σ H Q := ⟨_, pa_cons re_ ra_ hs, h⟩
end
end Dl

set_option Elab.async false
set_option linter.all false
set_option maxRecDepth 100000
set_option maxHeartbeats 4000000
/-! Data layer, part 3: built-ins, subscripts, lists, loops, comprehensions. -/
namespace Dl
open PySem PySem.Spec PyProof.Rows L2
section
variable {X : Cx} {M : List Addr} {σ : L2.St} {H H' : Hp} {e a b c o : Expr} {es : List Expr} {d d1 d2 : PyData} {ds ds2 es' : List PyData} {x : Str} {v : V} {pos p1 p2 p3 : Pos} {D : Ends} {rest sts : List Stmt} {st : Stmt}
theorem re_mono {Q Q' : VK} (h : RE X e σ H Q) (k : ∀ v H1, Q v H1 → Q' v H1) : RE X e σ H Q' := by
  obtain ⟨t, ht, q⟩ := h
  exact ⟨fun σ H Q' => ∃ Q, t σ H Q ∧ ∀ v H1, Q v H1 → Q' v H1, ⟨fun pins s σ H Q' I ⟨Q, q, k⟩ => thn (ht.run pins s σ H Q I q) fun u s' ⟨v, H1, I1, r1, q1⟩ => ⟨v, H1, I1, r1, k v H1 q1⟩⟩, Q, q, k⟩
theorem ra_mono {Q Q' : List V → Hp → Prop} (h : RA X es σ H Q) (k : ∀ v H1, Q v H1 → Q' v H1) : RA X es σ H Q' := by
  obtain ⟨t, ht, q⟩ := h
  exact ⟨fun σ H Q' => ∃ Q, t σ H Q ∧ ∀ v H1, Q v H1 → Q' v H1, ⟨fun pos pins s σ H Q' I ⟨Q, q, k⟩ => thn (ht.run pos pins s σ H Q I q) fun u s' ⟨v, H1, I1, r1, q1⟩ => ⟨v, H1, I1, r1, k v H1 q1⟩⟩, Q, q, k⟩
theorem rb_mono {D D' : Ends} (h : RB X sts D σ H) (h1 : ∀ σ H, D.nx σ H → D'.nx σ H) (h2 : ∀ v H, D.rt v H → D'.rt v H) (h3 : ∀ σ H, D.bk σ H → D'.bk σ H) (h4 : ∀ σ H, D.ct σ H → D'.ct σ H) : RB X sts D' σ H := by
  obtain ⟨t, ht, q⟩ := h
  refine ⟨fun D' σ H => ∃ D, t D σ H ∧ (∀ σ H, D.nx σ H → D'.nx σ H) ∧ (∀ v H, D.rt v H → D'.rt v H) ∧ (∀ σ H, D.bk σ H → D'.bk σ H) ∧ (∀ σ H, D.ct σ H → D'.ct σ H), ⟨fun pins s σ H D' I ⟨D, q, h1, h2, h3, h4⟩ => thn (ht.run pins s σ H D I q) fun f s' hs => ?_⟩, D, q, h1, h2, h3, h4⟩
  cases f with
  | next => obtain ⟨σ', H', I', q⟩ := hs; exact ⟨σ', H', I', h1 _ _ q⟩
  | brk => obtain ⟨σ', H', I', q⟩ := hs; exact ⟨σ', H', I', h3 _ _ q⟩
  | cont => obtain ⟨σ', H', I', q⟩ := hs; exact ⟨σ', H', I', h4 _ _ q⟩
  | ret u => obtain ⟨v, σ', H', I', r, q⟩ := hs; exact ⟨v, σ', H', I', r, h2 _ _ q⟩
theorem ra_1 {Q : List V → Hp → Prop} (h : RE X e σ H fun v H1 => Q [v] H1) (hs : starEach [e] X.env = (false, eval e X.env) :: starEach [] X.env := by rfl) : RA X [e] σ H Q := ra_cons (re_mono h fun v H1 q => ra_nil q) hs
/-- a call of a built-in whose reading asks nothing but data -/
theorem xd_B {id : String} {r : List V → Hp → VK → Prop} (hc : CallR X (.builtin id) r) (ha : XA X M σ H (e :: es) ds)
    (hr : ∀ H1 vs, Same H H1 → DqAll X.K (hid M H1) vs ds → ∀ Q : VK, (∀ u H2, Same H1 H2 → Dq X.K (hid M H2) u d → Q u H2) → r vs H1 Q) (hm : X.mg x = none) (hv : bootBuiltins x = some (.builtin id)) (hg : Gl X x := by rfl) (hn : x ≠ "__name__" := by decide) (hdb : (x == ("__debug__" : Str)) = false := by decide)
    (he : starEach (e :: es) X.env = (false, eval e X.env) :: starEach es X.env := by rfl) (hpl : (backTo pos (starEach es X.env)).any (·.1) = false := by rfl) : XD X M σ H (.Call (.Name x p1) (e :: es) [] pos) d := fun H1 s Q q =>
  re_B hc (ha H1 s _ fun vs H2 s2 hvs => hr H2 vs (s.trans s2) hvs Q fun u H3 s3 hu => q u H3 (s2.trans s3) hu) hm hv hg hn hdb he hpl
theorem xd_len (hm : X.mg "len" = none) (ha : XD X M σ H e (.list ds)) (hg : Gl X "len" := by rfl) (he : starEach [e] X.env = (false, eval e X.env) :: starEach [] X.env := by rfl) (hpl : (backTo pos (starEach [] X.env)).any (·.1) = false := by rfl) :
    XD X M σ H (.Call (.Name "len" p1) [e] [] pos) (.int ds.length) :=
  xd_B call_len_seq (xa_cons ha xa_nil he) (fun H1 vs s h Q q => by
    cases h with
    | cons h1 h2 =>
      cases h2
      obtain ⟨p, xs, rfl, hp, hx⟩ := dp_lst h1
      exact ⟨p, xs, rfl, .inl (SqL.of (hid_le _ _ hp)), by rw [dpa_len hx]; exact q _ _ (Same.refl _) (.int _)⟩) hm PySem.boot_len hg (by decide) (by decide) he hpl
theorem xd_lenT (hm : X.mg "len" = none) (ha : XD X M σ H e (.tuple ds)) (hg : Gl X "len" := by rfl) (he : starEach [e] X.env = (false, eval e X.env) :: starEach [] X.env := by rfl) (hpl : (backTo pos (starEach [] X.env)).any (·.1) = false := by rfl) :
    XD X M σ H (.Call (.Name "len" p1) [e] [] pos) (.int ds.length) :=
  xd_B call_len_seq (xa_cons ha xa_nil he) (fun H1 vs s h Q q => by
    cases h with
    | cons h1 h2 =>
      cases h2
      obtain ⟨p, xs, rfl, hp, hx⟩ := dp_tup h1
      exact ⟨p, xs, rfl, .inr (same_seqT hid_le hp), by rw [dpa_len hx]; exact q _ _ (Same.refl _) (.int _)⟩) hm PySem.boot_len hg (by decide) (by decide) he hpl
theorem xd_abs {n : Int} (hm : X.mg "abs" = none) (ha : XD X M σ H e (.int n)) (hg : Gl X "abs" := by rfl) (he : starEach [e] X.env = (false, eval e X.env) :: starEach [] X.env := by rfl) (hpl : (backTo pos (starEach [] X.env)).any (·.1) = false := by rfl) :
    XD X M σ H (.Call (.Name "abs" p1) [e] [] pos) (.int (if n < 0 then -n else n)) :=
  xd_B call_abs (xa_cons ha xa_nil he) (fun H1 vs s h Q q => by
    cases h with
    | cons h1 h2 => cases h2; exact ⟨n, by rw [dp_int h1], q _ _ (Same.refl _) (.int _)⟩) hm (by decide +kernel) hg (by decide) (by decide) he hpl
theorem xd_max {m n : Int} (hm : X.mg "max" = none) (ha : XA X M σ H [a, b] [.int m, .int n]) (hc : X.calm = true := by rfl) (hg : Gl X "max" := by rfl) (he : starEach [a, b] X.env = (false, eval a X.env) :: starEach [b] X.env := by rfl) (hpl : (backTo pos (starEach [b] X.env)).any (·.1) = false := by rfl) :
    XD X M σ H (.Call (.Name "max" p1) [a, b] [] pos) (.int (if n > m then n else m)) :=
  xd_B (call_max2 hc) ha (fun H1 vs s h Q q => by
    cases h with
    | cons h1 h2 => cases h2 with
      | cons h2 h3 => cases h3; exact ⟨m, n, by rw [dp_int h1, dp_int h2], q _ _ (Same.refl _) (.int _)⟩) hm (by decide +kernel) hg (by decide) (by decide) he hpl
theorem xd_min {m n : Int} (hm : X.mg "min" = none) (ha : XA X M σ H [a, b] [.int m, .int n]) (hc : X.calm = true := by rfl) (hg : Gl X "min" := by rfl) (he : starEach [a, b] X.env = (false, eval a X.env) :: starEach [b] X.env := by rfl) (hpl : (backTo pos (starEach [b] X.env)).any (·.1) = false := by rfl) :
    XD X M σ H (.Call (.Name "min" p1) [a, b] [] pos) (.int (if n < m then n else m)) :=
  xd_B (call_min2 hc) ha (fun H1 vs s h Q q => by
    cases h with
    | cons h1 h2 => cases h2 with
      | cons h2 h3 => cases h3; exact ⟨m, n, by rw [dp_int h1, dp_int h2], q _ _ (Same.refl _) (.int _)⟩) hm (by decide +kernel) hg (by decide) (by decide) he hpl
/-- list(x) of a list, of a tuple -/
theorem xl_listT (hm : X.mg "list" = none) (L : Live M H) (ha : XD X M σ H e (.tuple ds)) (hg : Gl X "list" := by rfl) (he : starEach [e] X.env = (false, eval e X.env) :: starEach [] X.env := by rfl) (hpl : (backTo pos (starEach [] X.env)).any (·.1) = false := by rfl) :
    XL X M σ H (.Call (.Name "list" p1) [e] [] pos) ds := fun H1 s Q q =>
  re_Ty call_list_of (ra_1 (ha H1 s _ fun v H2 s2 hv => by
    obtain ⟨p, xs, rfl, hp, hx⟩ := dp_tup hv
    refine ⟨p, xs, rfl, .inr (same_seqT hid_le hp), fun l hl => q l xs _ (s2.trans (same_new hl)) (s2.free hl) upd_same ?_⟩
    rw [hid_new (L.mono (s.trans s2)) hl]
    exact hx.up (same_new (hid_free hl))) he) hm (by decide +kernel) hg (by decide) (by decide) he hpl
theorem xl_listL (hm : X.mg "list" = none) (L : Live M H) (ha : XD X M σ H e (.list ds)) (hg : Gl X "list" := by rfl) (he : starEach [e] X.env = (false, eval e X.env) :: starEach [] X.env := by rfl) (hpl : (backTo pos (starEach [] X.env)).any (·.1) = false := by rfl) :
    XL X M σ H (.Call (.Name "list" p1) [e] [] pos) ds := fun H1 s Q q =>
  re_Ty call_list_of (ra_1 (ha H1 s _ fun v H2 s2 hv => by
    obtain ⟨p, xs, rfl, hp, hx⟩ := dp_lst hv
    refine ⟨p, xs, rfl, .inl (SqL.of (hid_le _ _ hp)), fun l hl => q l xs _ (s2.trans (same_new hl)) (s2.free hl) upd_same ?_⟩
    rw [hid_new (L.mono (s.trans s2)) hl]
    exact hx.up (same_new (hid_free hl))) he) hm (by decide +kernel) hg (by decide) (by decide) he hpl
/-- tuple(x) of a list -/
theorem xd_tupleL (hm : X.mg "tuple" = none) (L : Live M H) (ha : XD X M σ H e (.list ds)) (hg : Gl X "tuple" := by rfl) (he : starEach [e] X.env = (false, eval e X.env) :: starEach [] X.env := by rfl) (hpl : (backTo pos (starEach [] X.env)).any (·.1) = false := by rfl) :
    XD X M σ H (.Call (.Name "tuple" p1) [e] [] pos) (.tuple ds) := fun H1 s Q q =>
  re_Ty call_tuple_of (ra_1 (ha H1 s _ fun v H2 s2 hv => by
    obtain ⟨p, xs, rfl, hp, hx⟩ := dp_lst hv
    refine ⟨p, xs, rfl, .inl ⟨SqL.of (hid_le _ _ hp), fun l hl => q _ _ (s2.trans (same_new hl)) ?_⟩⟩
    rw [hid_new (L.mono (s.trans s2)) hl]
    exact .tup (SqT.of upd_same) (hx.up (same_new (hid_free hl)))) he) hm (by decide +kernel) hg (by decide) (by decide) he hpl
theorem xd_intB {k : Bool} (hm : X.mg "int" = none) (ha : XD X M σ H e (.bool k)) (hg : Gl X "int" := by rfl) (he : starEach [e] X.env = (false, eval e X.env) :: starEach [] X.env := by rfl) (hpl : (backTo pos (starEach [] X.env)).any (·.1) = false := by rfl) :
    XD X M σ H (.Call (.Name "int" p1) [e] [] pos) (.int (if k then 1 else 0)) := fun H1 s Q q =>
  re_Ty call_int1 (ra_1 (ha H1 s _ fun v H2 s2 hv => .inr ⟨k, by rw [dp_bl hv], q _ _ s2 (.int _)⟩) he) hm (by decide +kernel) hg (by decide) (by decide) he hpl
/-! ### subscripts -/
theorem atI_map {α β : Type} {xs : List α} {ys : List β} {P : α → β → Prop} (hl : xs.length = ys.length) (hg : ∀ (i : Nat) (y : β), ys[i]? = some y → ∃ x, xs[i]? = some x ∧ P x y) {n : Int} {y : β} (h : atI ys n = some y) : ∃ x, atI xs n = some x ∧ P x y := by
  unfold atI at h ⊢
  rw [hl]
  cases e : ixN ys.length n with
  | none => rw [e] at h; cases h
  | some j =>
    rw [e] at h
    exact hg j y h
theorem xd_ixL {n : Int} (hs : PlainIx b) (ha : XD X M σ H a (.list ds)) (hb : XD X M σ H b (.int n)) (h : atI ds n = some d) : XD X M σ H (.Subscript a b pos) d := fun H1 s Q q =>
  ⟨_, pe_ix ix_list re_ re_ hs, ha H1 s _ fun v H2 s2 hv => hb H2 (s.trans s2) _ fun w H3 s3 hw => by
    obtain ⟨p, xs, rfl, hp, hx⟩ := dp_lst (hv.up (hid_mono s3))
    obtain ⟨u, hu, hd⟩ := atI_map (dpa_len hx) (fun i y h => dpa_get hx h) h
    exact ⟨p, xs, n, u, rfl, dp_int hw, SqL.of (hid_le _ _ hp), hu, q u H3 (s2.trans s3) hd⟩⟩
theorem xd_ixT {n : Int} (hs : PlainIx b) (ha : XD X M σ H a (.tuple ds)) (hb : XD X M σ H b (.int n)) (h : atI ds n = some d) : XD X M σ H (.Subscript a b pos) d := fun H1 s Q q =>
  ⟨_, pe_ix ix_tup re_ re_ hs, ha H1 s _ fun v H2 s2 hv => hb H2 (s.trans s2) _ fun w H3 s3 hw => by
    obtain ⟨p, xs, rfl, hp, hx⟩ := dp_tup (hv.up (hid_mono s3))
    obtain ⟨u, hu, hd⟩ := atI_map (dpa_len hx) (fun i y h => dpa_get hx h) h
    exact ⟨p, xs, n, u, rfl, dp_int hw, same_seqT hid_le hp, hu, q u H3 (s2.trans s3) hd⟩⟩
/-- xs[lo:hi] of a list -/
def XO (X : Cx) (σ : L2.St) (H : Hp) (e : Option Expr) (n : Option Int) : Prop := ∀ H1, Same H H1 → ∀ Q : Option Int → Hp → Prop, (∀ H2, Same H1 H2 → Q n H2) → ∃ t, PO X e t ∧ t σ H1 Q
theorem xo_none : XO X σ H none none := fun H1 s Q q => ⟨_, po_none, q H1 (Same.refl _)⟩
theorem xo_some {n : Int} (h : XD X M σ H e (.int n)) : XO X σ H (some e) (some n) := fun H1 s Q q => ⟨_, po_some re_, h H1 s _ fun v H2 s2 hv => ⟨n, dp_int hv, q H2 s2⟩⟩
def cutD (xs : List PyData) (lo hi : Option Int) : List PyData := (xs.drop (HT.sIx xs.length 0 lo)).take (HT.sIx xs.length xs.length hi - HT.sIx xs.length 0 lo)
def RO (X : Cx) (e : Option Expr) : L2.St → Hp → (Option Int → Hp → Prop) → Prop := fun σ H Q => ∃ t, PO X e t ∧ t σ H Q
theorem ro_ {e : Option Expr} : PO X e (RO X e) := ⟨fun pins s σ H Q I ⟨_, h, q⟩ => h.run pins s σ H Q I q⟩
theorem xl_cut {lo hi : Option Expr} {m n : Option Int} (L : Live M H) (ha : XD X M σ H a (.list ds)) (hl : XO X σ H lo m) (hu : XO X σ H hi n) : XL X M σ H (.Subscript a (.Slice lo hi none p2) pos) (cutD ds m n) := fun H1 s Q q =>
  ⟨_, pe_slice sl_list re_ ro_ ro_, ha H1 s _ fun v H2 s2 hv => hl H2 (s.trans s2) _ fun H3 s3 => hu H3 ((s.trans s2).trans s3) _ fun H4 s4 => by
    obtain ⟨p, xs, rfl, hp, hx⟩ := dp_lst (hv.up (hid_mono (s3.trans s4)))
    refine ⟨p, xs, rfl, SqL.of (hid_le _ _ hp), fun l hl => q l _ _ ((s2.trans (s3.trans s4)).trans (same_new hl)) ((s2.trans (s3.trans s4)).free hl) upd_same ?_⟩
    rw [hid_new (L.mono (s.trans (s2.trans (s3.trans s4)))) hl]
    have hz := dpa_len hx
    unfold cutV cutD
    rw [hz]
    exact (dpa_take _ (dpa_drop _ hx)).up (same_new (hid_free hl))⟩
/-! ### lists -/
theorem xl_cat (L : Live M H) (ha : XD X M σ H a (.list ds)) (hb : XD X M σ H b (.list ds2)) (hz : ds.length + ds2.length ≤ 100000) : XL X M σ H (.BinOp a .Add b pos) (ds ++ ds2) := fun H1 s Q q =>
  ⟨_, pe_op op_cat re_ re_, ha H1 s _ fun v H2 s2 hv => hb H2 (s.trans s2) _ fun w H3 s3 hw => by
    obtain ⟨p, xs, rfl, hp, hx⟩ := dp_lst (hv.up (hid_mono s3))
    obtain ⟨p', ys, rfl, hp', hy⟩ := dp_lst hw
    refine ⟨p, p', xs, ys, rfl, rfl, hid_le _ _ hp, hid_le _ _ hp', by rw [dpa_len hx, dpa_len hy]; exact small_sz hz, fun l hl => q l _ _ ((s2.trans s3).trans (same_new hl)) ((s2.trans s3).free hl) upd_same ?_⟩
    rw [hid_new (L.mono ((s.trans s2).trans s3)) hl]
    exact (dpa_app hx hy).up (same_new (hid_free hl))⟩
/-- l.append(e), l one of M's lists -/
theorem rb_append {l : Addr} {xs : List V} (hl : l ∈ M) (ho : XV X σ H o (.ref l)) (h1 : H l = some (.lst xs)) (he : XD X M σ H e d) (hz : xs.length < 100000) (k : ∀ v H1, Same H H1 → Dq X.K (hid M H1) v d → RB X rest D σ (upd H1 l (.lst (xs ++ [v]))))
    (hbase : attributeBase o "append" X.env (eval o X.env) = eval o X.env := by rfl)
    (hfew : ((backTo p2 (starEach [e] X.env)).all (fun x => !x.1) && (backToKw p2 (keywordEach [] X.env)).all (fun x => x.1.isSome) && decide ([e].length + ([] : List Keyword).length + (if ([] : List Keyword).isEmpty then 0 else 1) < 30)) = true := by rfl)
    (hline : (p1.endLine == p2.line) = true := by rfl) (hs : starEach [e] X.env = (false, eval e X.env) :: starEach [] X.env := by rfl) (hplain : (backTo p2 (starEach [] X.env)).any (·.1) = false := by rfl)
    (hsw : swapsWith (.Call (.Attribute o "append" p1) [e] [] p2) none pos.line X.env = pure false := by rfl) : RB X (.Expr (.Call (.Attribute o "append" p1) [e] [] p2) pos :: rest) D σ H :=
  rb_exprR ⟨_, pe_bm PySem.F.plainAttrs_list PySem.F.slot_list_append PySem.F.type_list_append mt_append re_ ra_ hbase hfew hline hs hplain,
    ho H (Same.refl H) _ fun H1 s1 => ⟨.inl ⟨rfl, xs, SqL.of (s1 _ _ h1)⟩, ra_1 (he H1 s1 _ fun v H2 s2 hv => ⟨l, xs, v, rfl, rfl, (s1.trans s2) _ _ h1, Nat.lt_of_lt_of_le hz (by decide), k v H2 (s1.trans s2) hv⟩) hs⟩⟩ hsw
/-- l.extend(e) -/
theorem rb_extend {l : Addr} {xs : List V} (hl : l ∈ M) (ho : XV X σ H o (.ref l)) (h1 : H l = some (.lst xs)) (he : XD X M σ H e (.list ds)) (hz : xs.length + ds.length ≤ 100000) (k : ∀ vs H1, Same H H1 → DqAll X.K (hid M H1) vs ds → RB X rest D σ (upd H1 l (.lst (xs ++ vs))))
    (hbase : attributeBase o "extend" X.env (eval o X.env) = eval o X.env := by rfl)
    (hfew : ((backTo p2 (starEach [e] X.env)).all (fun x => !x.1) && (backToKw p2 (keywordEach [] X.env)).all (fun x => x.1.isSome) && decide ([e].length + ([] : List Keyword).length + (if ([] : List Keyword).isEmpty then 0 else 1) < 30)) = true := by rfl)
    (hline : (p1.endLine == p2.line) = true := by rfl) (hs : starEach [e] X.env = (false, eval e X.env) :: starEach [] X.env := by rfl) (hplain : (backTo p2 (starEach [] X.env)).any (·.1) = false := by rfl)
    (hsw : swapsWith (.Call (.Attribute o "extend" p1) [e] [] p2) none pos.line X.env = pure false := by rfl) : RB X (.Expr (.Call (.Attribute o "extend" p1) [e] [] p2) pos :: rest) D σ H :=
  rb_exprR ⟨_, pe_bm PySem.F.plainAttrs_list PySem.F.slot_list_extend PySem.F.type_list_extend mt_extend re_ ra_ hbase hfew hline hs hplain,
    ho H (Same.refl H) _ fun H1 s1 => ⟨.inl ⟨rfl, xs, SqL.of (s1 _ _ h1)⟩, ra_1 (he H1 s1 _ fun v H2 s2 hv => by
      obtain ⟨b, ys, rfl, hb, hy⟩ := dp_lst hv
      exact ⟨l, b, xs, ys, rfl, rfl, (s1.trans s2) _ _ h1, hid_le _ _ hb, by rw [dpa_len hy]; exact small_sz hz, k ys H2 (s1.trans s2) hy⟩) hs⟩⟩ hsw
/-! ### loops -/
/-- for tg in e: .., e a list; Pv: by the turn; the known part must stand -/
theorem rb_for {tg : Expr} {body : List Stmt} (hit : XD X M σ H e (.list ds))
    (h : ∀ H1, Same H H1 → ∃ Pv : Nat → L2.St → Hp → Prop, Pv 0 σ H1 ∧ (∀ k σ' H', Pv k σ' H' → Same (hid M H1) (hid M H')) ∧
      (∀ k d, ds[k]? = some d → ∀ σ' H' v, Pv k σ' H' → Dq X.K (hid M H') v d → RG X tg v σ' H' fun σ2 H2 => RB X body { D with nx := Pv (k + 1), ct := Pv (k + 1), bk := RB X rest D } σ2 H2) ∧ ∀ σ' H', Pv ds.length σ' H' → RB X rest D σ' H')
    (hp : PassesOwn (model X.prog X.w) X.A X.env X.xe := by exact PassesOwn.never) (hc : X.calm = true := by rfl) (hs : ∀ x, foldedSetIterable e X.env x = pure x := by intro _; rfl) : RB X (.For tg e body [] pos :: rest) D σ H :=
  ⟨_, pss_cons (ps_for hp hc (pi_list re_) rg_ rb_ hs) rb_, hit H (Same.refl H) _ fun v H1 s1 hv => by
    obtain ⟨a, xs, rfl, ha, hx⟩ := dp_lst hv
    obtain ⟨Pv, h0, hk, hst, hd⟩ := h H1 s1
    refine ⟨a, rfl, ⟨xs, SqL.of (hid_le _ _ ha)⟩, for_list (xs := xs) Pv h0 (fun i σ' H' _ p => SqL.of (hid_le _ _ (hk i σ' H' p _ _ ha))) (fun i x σ' H' hi p => ?_) (by rw [dpa_len hx]; exact hd)⟩
    obtain ⟨d, h1, h2⟩ := dpa_get' hx hi
    exact hst i d h1 σ' H' x p (h2.up (hk i σ' H' p))⟩
theorem rb_forT {tg : Expr} {body : List Stmt} (hit : XD X M σ H e (.tuple ds))
    (h : ∀ H1, Same H H1 → ∃ Pv : Nat → L2.St → Hp → Prop, Pv 0 σ H1 ∧ (∀ k σ' H', Pv k σ' H' → Same (hid M H1) (hid M H')) ∧
      (∀ k d, ds[k]? = some d → ∀ σ' H' v, Pv k σ' H' → Dq X.K (hid M H') v d → RG X tg v σ' H' fun σ2 H2 => RB X body { D with nx := Pv (k + 1), ct := Pv (k + 1), bk := RB X rest D } σ2 H2) ∧ ∀ σ' H', Pv ds.length σ' H' → RB X rest D σ' H')
    (hp : PassesOwn (model X.prog X.w) X.A X.env X.xe := by exact PassesOwn.never) (hc : X.calm = true := by rfl) (hs : ∀ x, foldedSetIterable e X.env x = pure x := by intro _; rfl) : RB X (.For tg e body [] pos :: rest) D σ H :=
  ⟨_, pss_cons (ps_for hp hc (pi_tup re_) rg_ rb_ hs) rb_, hit H (Same.refl H) _ fun v H1 s1 hv => by
    obtain ⟨a, xs, rfl, ha, hx⟩ := dp_tup hv
    obtain ⟨Pv, h0, hk, hst, hd⟩ := h H1 s1
    refine ⟨a, rfl, ⟨xs, same_seqT hid_le ha⟩, for_tup (xs := xs) Pv h0 (fun i σ' H' _ p => same_seqT hid_le (same_seqT (hk i σ' H' p) ha)) (fun i x σ' H' hi p => ?_) (by rw [dpa_len hx]; exact hd)⟩
    obtain ⟨d, h1, h2⟩ := dpa_get' hx hi
    exact hst i d h1 σ' H' x p (h2.up (hk i σ' H' p))⟩
/-- for tg in range(e): .. -/
theorem rb_range {tg : Expr} {body : List Stmt} (hm : X.mg "range" = none) (hit : RE X e σ H fun v H1 => ∃ n : Nat, v = .int (n : Int) ∧ n < 2 ^ 61 ∧ ∃ Pv : Nat → L2.St → Hp → Prop, Pv 0 σ H1 ∧
      (∀ k σ' H', k < n → Pv k σ' H' → RG X tg (.int (k : Int)) σ' H' fun σ2 H2 => RB X body { D with nx := Pv (k + 1), ct := Pv (k + 1), bk := RB X rest D } σ2 H2) ∧ ∀ σ' H', Pv n σ' H' → RB X rest D σ' H')
    (hg : Gl X "range" := by rfl) (he : starEach [e] X.env = [(false, eval e X.env)] := by rfl) (hp : PassesOwn (model X.prog X.w) X.A X.env X.xe := by exact PassesOwn.never) (hc : X.calm = true := by rfl)
    (hs : ∀ x, foldedSetIterable (.Call (.Name "range" p1) [e] [] p2) X.env x = pure x := by intro _; rfl) : RB X (.For tg (.Call (.Name "range" p1) [e] [] p2) body [] pos :: rest) D σ H :=
  ⟨_, pss_cons (ps_for hp hc (pi_range1 hg hm ra_ he) rg_ rb_ hs) rb_, ra_1 (re_mono hit fun v H1 ⟨n, ev, hn, Pv, h0, hst, hd⟩ => by
    refine ⟨(n : Int), by rw [ev], by omega, by omega, ?_⟩
    rw [Int.toNat_natCast]
    refine for_range Pv h0 (fun i σ' H' hi p => ?_) hd
    rw [Int.zero_add]
    exact hst i σ' H' hi p) he⟩
end
/-! ### comprehensions -/
/-- what is read within a comprehension -/
def BE (X : Cx) (scope : Scope) (e : Expr) : TE := fun σ H Q => ∀ (s : Shared) (H0 : Hp) (C : Addr) (cl : List (Str × Addr)) (fp : List Addr), RE (X.blk s H0 scope (compEnvC scope cl C X.env) fp) e σ H Q
def BG (X : Cx) (scope : Scope) (e : Expr) : TG := fun v σ H Q => ∀ (s : Shared) (H0 : Hp) (C : Addr) (cl : List (Str × Addr)) (fp : List Addr), RG (X.blk s H0 scope (compEnvC scope cl C X.env) fp) e v σ H Q
def BT (X : Cx) (scope : Scope) (es : List Expr) : TT := fun σ H Q => ∀ (s : Shared) (H0 : Hp) (C : Addr) (cl : List (Str × Addr)) (fp : List Addr), ∃ t, PTs (X.blk s H0 scope (compEnvC scope cl C X.env) fp) es t ∧ t σ H Q
section
variable {X : Cx} {M : List Addr} {σ : L2.St} {H H' : Hp} {e a b c o elt tg iter : Expr} {ifs : List Expr} {scope : Scope} {own : List (Str × Nat)} {es : List Expr} {d d1 d2 : PyData} {ds ds2 es' : List PyData} {x : Str} {v : V} {pos p1 p2 p3 : Pos}
theorem be_ {s : Shared} {H0 : Hp} {C : Addr} {cl : List (Str × Addr)} {fp : List Addr} : PE (X.blk s H0 scope (compEnvC scope cl C X.env) fp) e (BE X scope e) := ⟨fun pins s' σ H Q I h => by
  obtain ⟨_, ht, q⟩ := h s H0 C cl fp
  exact ht.run pins s' σ H Q I q⟩
theorem bg_ {s : Shared} {H0 : Hp} {C : Addr} {cl : List (Str × Addr)} {fp : List Addr} : PG (X.blk s H0 scope (compEnvC scope cl C X.env) fp) e (BG X scope e) := ⟨fun pins s' σ H v u Q I r h => by
  obtain ⟨_, ht, q⟩ := h s H0 C cl fp
  exact ht.run pins s' σ H v u Q I r q⟩
theorem bt_ {s : Shared} {H0 : Hp} {C : Addr} {cl : List (Str × Addr)} {fp : List Addr} : PTs (X.blk s H0 scope (compEnvC scope cl C X.env) fp) es (BT X scope es) := ⟨fun pins s' σ H Q I h => by
  obtain ⟨_, ht, q⟩ := h s H0 C cl fp
  exact ht.run pins s' σ H Q I q⟩
theorem bt_nil {Q : Bool → Hp → Prop} (q : Q true H) : BT X scope [] σ H Q := fun _ _ _ _ _ => ⟨_, pts_nil, q⟩
theorem bt_one {k : Bool} {Q : Bool → Hp → Prop} (h : ∀ (s : Shared) (H0 : Hp) (C : Addr) (cl : List (Str × Addr)) (fp : List Addr), XT (X.blk s H0 scope (compEnvC scope cl C X.env) fp) σ H c k) (q : ∀ H2, Same H H2 → Q k H2) : BT X scope [c] σ H Q := fun s H0 C cl fp =>
  ⟨_, pts_one rt_, h s H0 C cl fp H (Same.refl H) _ q⟩
theorem rg_mono {Q Q' : L2.St → Hp → Prop} (h : RG X tg v σ H Q) (k : ∀ σ1 H1, Q σ1 H1 → Q' σ1 H1) : RG X tg v σ H Q' := by
  obtain ⟨g, hg, q⟩ := h
  exact ⟨fun v σ H Q' => ∃ Q, g v σ H Q ∧ ∀ σ1 H1, Q σ1 H1 → Q' σ1 H1, ⟨fun pins s σ H v u Q' I r ⟨Q, q, k⟩ => thn (hg.run pins s σ H v u Q I r q) fun _ s' ⟨σ', H', I', q'⟩ => ⟨σ', H', I', k _ _ q'⟩⟩, Q, q, k⟩
theorem bg_mono {Q Q' : L2.St → Hp → Prop} (h : BG X scope tg v σ H Q) (k : ∀ σ1 H1, Q σ1 H1 → Q' σ1 H1) : BG X scope tg v σ H Q' := fun s H0 C cl fp => rg_mono (h s H0 C cl fp) k
theorem be_mono {Q Q' : VK} (h : BE X scope e σ H Q) (k : ∀ v H1, Q v H1 → Q' v H1) : BE X scope e σ H Q' := fun s H0 C cl fp => re_mono (h s H0 C cl fp) k
theorem bt_mono {Q Q' : Bool → Hp → Prop} (h : BT X scope es σ H Q) (k : ∀ v H1, Q v H1 → Q' v H1) : BT X scope es σ H Q' := fun s H0 C cl fp => by
  obtain ⟨t, ht, q⟩ := h s H0 C cl fp
  exact ⟨fun σ H Q' => ∃ Q, t σ H Q ∧ ∀ v H1, Q v H1 → Q' v H1, ⟨fun pins s σ H Q' I ⟨Q, q, k⟩ => thn (ht.run pins s σ H Q I q) fun u s' ⟨H1, I1, q1⟩ => ⟨H1, I1, k u H1 q1⟩⟩, Q, q, k⟩
theorem hid_step {p : Addr} {H1 : Hp} (hp : H p = none) (s : Same H H1) : Same (hid M H) (hid (p :: M) H1) := fun b o e => by
  have nM : b ∉ M := fun z => by unfold hid at e; rw [if_pos z] at e; cases e
  have e' := hid_le _ _ e
  have np : b ≠ p := ne_of_none e' hp
  rw [hid_of (by simp [np, nM])]
  exact s _ _ e'
theorem hid_upd_ne {p : Addr} {o : HO} {H1 : Hp} : hid (p :: M) (upd H1 p o) = hid (p :: M) H1 := hid_upd_mem (List.mem_cons_self ..)
/-- [elt for tg in iter if ..]: f gives what an item comes to, none where it is left out -/
theorem xl_comp (f : PyData → Option PyData) (L : Live M H) (hN : X.N.Nodup) (hit : XD X M σ H iter (.list ds)) (ok : BlkOk X.N X.env.scope scope own) (hz : ds.length ≤ 100000)
    (hst : ∀ p d v H1, d ∈ ds → H p = none → Same H H1 → Live (p :: M) H1 → Dq X.K (hid (p :: M) H1) v d → BG X scope tg v (wipe σ (own.map (·.2))) H1 fun σ2 H2 => wipe σ2 (own.map (·.2)) = wipe σ (own.map (·.2)) ∧ BT X scope ifs σ2 H2 fun k H3 =>
      Same H1 H3 ∧ ((k = true ∧ ∃ d', f d = some d' ∧ BE X scope elt σ2 H3 fun y H4 => Same H3 H4 ∧ Dq X.K (hid (p :: M) H4) y d') ∨ (k = false ∧ f d = none)))
    (hc : X.calm = true := by rfl) (hs : ∀ x, foldedSetIterable iter X.env x = pure x := by intro _; rfl) : XL X M σ H (.ListComp elt [⟨tg, iter, ifs, 0⟩] scope pos) (ds.filterMap f) := fun H1 s1 Q q =>
  ⟨_, pe_lc (own := own) hc hN (pi_list re_) ok (fun _ _ _ _ _ => bg_) (fun _ _ _ _ _ => bt_) (fun _ _ _ _ _ => be_) hs, hit H1 s1 _ fun v H2 s2 hv => by
    obtain ⟨a, xs, rfl, ha, hx⟩ := dp_lst hv
    have L2' : Live M H2 := L.mono (s1.trans s2)
    refine ⟨a, rfl, ⟨xs, SqL.of (hid_le _ _ ha)⟩, fun p hp => ?_⟩
    have hpM : p ∉ M := L2'.fresh hp
    have hp0 : H p = none := (s1.trans s2).free hp
    refine lc_list (xs := xs) (a := a) (fun i H' => Same H2 H' ∧ ∃ acc, H' p = some (.lst acc) ∧ DqAll X.K (hid (p :: M) H') acc ((ds.take i).filterMap f)) ⟨same_new hp, [], upd_same, by simpa using DqAll.nil⟩ (fun i H' _ w => SqL.of (w.1 _ _ (hid_le _ _ ha))) (fun i x H' hi w => ?_) (fun H' w => ?_)
    · obtain ⟨sH, acc, hacc, hda⟩ := w
      obtain ⟨d, hd1, hd2⟩ := dpa_get' hx hi
      have hdm : d ∈ ds := List.mem_of_getElem? hd1
      have etake : ds.take (i + 1) = ds.take i ++ [d] := by
        rw [List.take_add_one, hd1]; rfl
      have hlen : acc.length < sizeLine := by
        rw [dpa_len hda]
        have h1 : ((ds.take i).filterMap f).length ≤ (ds.take i).length := List.length_filterMap_le ..
        have h2 : (ds.take i).length ≤ i := by rw [List.length_take]; omega
        have h3 : i < ds.length := (List.getElem?_eq_some_iff.mp hd1).1
        have h4 : 100000 < sizeLine := by decide
        omega
      have Lp : Live (p :: M) H' := fun b hb => by
        rcases List.mem_cons.mp hb with z | hb
        · subst z; rw [hacc]; simp
        · exact L2'.mono sH b hb
      have kx : Dq X.K (hid (p :: M) H') x d := hd2.up (hid_step hp sH)
      refine bg_mono (hst p d x H' hdm hp0 ((s1.trans s2).trans sH) Lp kx) fun σ2 Ha ⟨hw, hbt⟩ => ⟨hw, bt_mono hbt fun k Hb ⟨sb, hk⟩ => ?_⟩
      have sH' : Same H' Hb := sb
      rcases hk with ⟨hk, d', hf, hbe⟩ | ⟨hk, hf⟩
      · subst hk
        refine iteT (be_mono hbe fun y Hc ⟨sc, hy⟩ => ?_)
        have sd := sH'.trans sc
        refine ⟨acc, sd _ _ hacc, hlen, fun b o e => ?_, acc ++ [y], upd_same, ?_⟩
        · have nb : b ≠ p := ne_of_none e hp
          rw [upd_ne nb]
          exact sd _ _ (sH _ _ e)
        · rw [hid_upd_ne, etake, List.filterMap_append]
          have e2 : [d].filterMap f = [d'] := by simp [hf]
          rw [e2]
          exact dpa_app (hda.up (hid_mono sd)) (.cons hy .nil)
      · subst hk
        refine iteF ⟨sH.trans sH', acc, sH' _ _ hacc, ?_⟩
        rw [etake, List.filterMap_append]
        have e2 : [d].filterMap f = [] := by simp [hf]
        rw [e2, List.append_nil]
        exact hda.up (hid_mono sH')
    · obtain ⟨sH, acc, hacc, hda⟩ := w
      have e1 : ds.take xs.length = ds := by rw [dpa_len hx]; exact List.take_length
      rw [e1] at hda
      refine q p acc H' (s2.trans sH) (s2.free hp) hacc (hda.up fun b o e => ?_)
      have n1 : b ∉ p :: M := fun z => by unfold hid at e; rw [if_pos z] at e; cases e
      rw [hid_of (fun z => n1 (List.mem_cons_of_mem _ z))]
      exact hid_le _ _ e⟩
end
end Dl

set_option Elab.async false
set_option linter.all false
set_option maxRecDepth 100000
set_option maxHeartbeats 4000000
/-! Data layer, part 4: own defs by data, calls where no repr is under way, repr, isinstance, instances. -/
namespace Dl
open PySem PySem.Spec PyProof.Rows L2
/-! ### a def by data -/
/-- arguments ds with R ds d: the data d comes back, all stands -/
def spR (K : PySem.W.Frag) (R : List PyData → PyData → Prop) : Sp := fun vs H Q _ => ∃ (M : List Addr) (ds : List PyData) (d : PyData), Live M H ∧ DqAll K (hid M H) vs ds ∧ R ds d ∧ ∀ v H1, Same H H1 → Dq K (hid M H1) v d → Q v H1
/-- .. a new list of the data es -/
def spL (K : PySem.W.Frag) (R : List PyData → List PyData → Prop) : Sp := fun vs H Q _ => ∃ (M : List Addr) (ds es : List PyData), Live M H ∧ DqAll K (hid M H) vs ds ∧ R ds es ∧ ∀ p xs H1, Same H H1 → H p = none → H1 p = some (.lst xs) → DqAll K (hid M H1) xs es → Q (.ref p) H1
section
variable {X : Cx} {M : List Addr} {σ : L2.St} {H H' : Hp} {e a b c o : Expr} {es : List Expr} {d d1 d2 : PyData} {ds ds2 es' : List PyData} {x : Str} {v : V} {pos p1 p2 p3 : Pos} {D : Ends} {rest sts : List Stmt} {st : Stmt} {k : Nat} {f C : Addr} {fd : FuncData} {ps : List Str}
theorem re_call {sp : Sp} {Q : VK} (F : FnOk X.prog X.w X.K X.mg X.base CX0 k f fd ps sp) (hr : Room k X.A) (hm : X.mg x = some (.ref f)) (hk : PySem.W.keepIn X.K (.ref f) = true) (hb : Binds X.K fd ps []) (ha : RA X (e :: es) σ H fun vs H1 => sp vs H1 Q E0) (hg : Gl X x := by rfl)
    (hdb : (x == ("__debug__" : Str)) = false := by decide) (he : starEach (e :: es) X.env = (false, eval e X.env) :: starEach es X.env := by rfl) (hpl : (backTo pos (starEach es X.env)).any (·.1) = false := by rfl) : RE X (.Call (.Name x p1) (e :: es) [] pos) σ H Q :=
  ⟨_, pe_call F hr hg hm hk hb .nil pass0 ra_ hdb he hpl, ra_mono ha fun vs H1 q => by rw [List.append_nil]; exact q⟩
theorem re_callD {sp : Sp} {Q : VK} {dvs : List V} {dl : List Value} (F : FnOk X.prog X.w X.K X.mg X.base CX0 k f fd ps sp) (hr : Room k X.A) (hm : X.mg x = some (.ref f)) (hk : PySem.W.keepIn X.K (.ref f) = true) (hb : Binds X.K fd ps dl) (hd : Vals dvs dl) (ha : RA X (e :: es) σ H fun vs H1 => sp (vs ++ dvs) H1 Q E0) (hg : Gl X x := by rfl)
    (hdb : (x == ("__debug__" : Str)) = false := by decide) (he : starEach (e :: es) X.env = (false, eval e X.env) :: starEach es X.env := by rfl) (hpl : (backTo pos (starEach es X.env)).any (·.1) = false := by rfl) : RE X (.Call (.Name x p1) (e :: es) [] pos) σ H Q :=
  ⟨_, pe_call F hr hg hm hk hb hd pass0 ra_ hdb he hpl, ha⟩
theorem xd_call {R : List PyData → PyData → Prop} (L : Live M H) (F : FnOk X.prog X.w X.K X.mg X.base CX0 k f fd ps (spR X.K R)) (hr : Room k X.A) (hm : X.mg x = some (.ref f)) (hk : PySem.W.keepIn X.K (.ref f) = true) (hb : Binds X.K fd ps []) (ha : XA X M σ H (e :: es) ds) (hR : R ds d) (hg : Gl X x := by rfl)
    (hdb : (x == ("__debug__" : Str)) = false := by decide) (he : starEach (e :: es) X.env = (false, eval e X.env) :: starEach es X.env := by rfl) (hpl : (backTo pos (starEach es X.env)).any (·.1) = false := by rfl) : XD X M σ H (.Call (.Name x p1) (e :: es) [] pos) d := fun H1 s Q q =>
  re_call F hr hm hk hb (ha H1 s _ fun vs H2 s2 hv => ⟨M, ds, d, L.mono (s.trans s2), hv, hR, fun v H3 s3 hd => q v H3 (s2.trans s3) hd⟩) hg hdb he hpl
theorem xl_call {R : List PyData → List PyData → Prop} (L : Live M H) (F : FnOk X.prog X.w X.K X.mg X.base CX0 k f fd ps (spL X.K R)) (hr : Room k X.A) (hm : X.mg x = some (.ref f)) (hk : PySem.W.keepIn X.K (.ref f) = true) (hb : Binds X.K fd ps []) (ha : XA X M σ H (e :: es) ds) (hR : R ds ds2) (hg : Gl X x := by rfl)
    (hdb : (x == ("__debug__" : Str)) = false := by decide) (he : starEach (e :: es) X.env = (false, eval e X.env) :: starEach es X.env := by rfl) (hpl : (backTo pos (starEach es X.env)).any (·.1) = false := by rfl) : XL X M σ H (.Call (.Name x p1) (e :: es) [] pos) ds2 := fun H1 s Q q =>
  re_call F hr hm hk hb (ha H1 s _ fun vs H2 s2 hv => ⟨M, ds, ds2, L.mono (s.trans s2), hv, hR, fun p xs H3 s3 hp h3 hd => q p xs H3 (s2.trans s3) (s2.free hp) h3 hd⟩) hg hdb he hpl
/-! ### a def, called where no repr is under way -/
structure FnG (P : Program) (w : World) (K : PySem.W.Frag) (mg : Str → Option Value) (base : Heap) (k : Nat) (f : Addr) (fd : FuncData) (ps : List Str) (sp : Sp) : Prop where
  len : ∀ vs H Q E, sp vs H Q E → vs.length = ps.length
  run : ∀ (A : Around), A.guards = some [] → Room k A → ∀ (outer : List Env) (s : Shared) (H : Hp) (args : Args) (us : List Value) (vs : List V) (Q : VK) (E : XK), Env0 P w K mg base A outer s H → BindsTo s fd args (ps.zip us) → Vals vs us → sp vs H Q E →
    codeAny (model P w) A (.call (.ref f) args) (CR CX0 outer P w H s Q E) s
theorem fn_g {P : Program} {w : World} {K : PySem.W.Frag} {mg : Str → Option Value} {base : Heap} {sp : Sp} {qual x : Str} {st : Stmt} {N : List Str} (F : Fun K x qual st f fd) (S : FnScope N ps (defScope st)) (len : ∀ vs H Q E, sp vs H Q E → vs.length = ps.length)
    (hbody : ∀ (cdv : Value) (A : Around) (outer : List Env) (s : Shared) (H : Hp) (vs : List V) (Q : VK) (E : XK), A.guards = some [] → Room k (A.deeper (envOfC qual (defScope st) s.heap.objs.size f cdv)) → sp vs H Q E →
      RB (cxOf CX0 P w K mg base N qual (defScope st) f cdv A outer s H E).nox (defBody st) { nx := fun _ H1 => Q .non H1, rt := Q } (start N vs) H) : FnG P w K mg base (k + 1) f fd ps sp where
  len := len
  run := fun A hA hr outer s H args us vs Q E e0 hb r hsp => by
    obtain ⟨oc, od, kV, doc, pm, an, cdv, ct, osl, hfd, lk, hcd⟩ := F.ex
    subst hfd
    have hz := len _ _ _ _ hsp
    have KX : K.In s.heap := e0.mod.kin.keeps (fun b o e => (e0.bs b o e).1)
    have nl : s.heap.NoLimit := e0.mod.nolimit.keeps (fun b o e => (e0.bs b o e).1)
    have kinds : ∀ y ∈ ps.zip us, (defScope st).names.lookup y.1 = some .local ∨ ((defScope st).names.lookup y.1 = some .cell ∧ ((cellsFrom (s.heap.objs.size + 1) (defScope st).names []).lookup y.1).isSome = true) := by
      intro y hy
      rcases S.par y.1 (List.of_mem_zip (show (y.1, y.2) ∈ ps.zip us from hy)).1 with z | z
      · exact .inl z
      · exact .inr ⟨z, PySem.W.cellsFrom_some _ _ _ (.inl z)⟩
    refine codeAny_call_function (Room.depth hr) (KX _ _ lk) rfl S.co S.gen rfl (PySem.W.codeRec_of KX hcd) (hb _ _ _ _ ?_)
    refine wpAny_newFunctionEnv_cells S.kind kinds (fun env henv s1 inc => ?_)
    subst henv
    refine ⟨nl.keeps inc.toInCall.keep, codeAny_func ?_⟩
    obtain ⟨t, ht, q⟩ := hbody cdv A outer s H vs Q E hA (hr.deeper _) hsp
    have I0 := inv_start (CX := CX0) (E := E) S hr.hd e0 hz r inc
    refine wpAny_mono (ht.nox.run [] s1 (start N vs) H _ I0 q) (fun fl s2 hs => ?_) (fun _ _ z => z)
    cases fl with
    | ret u =>
      obtain ⟨v, _, H2, J, rv, q2⟩ := hs
      exact ⟨v, H2, J.os, J.bare, J.base, J.hok, rv, q2⟩
    | next =>
      obtain ⟨_, H2, J, q2⟩ := hs
      exact ⟨.non, H2, J.os, J.bare, J.base, J.hok, rfl, q2⟩
    | brk => obtain ⟨_, _, _, q2⟩ := hs; exact q2.elim
    | cont => obtain ⟨_, _, _, q2⟩ := hs; exact q2.elim
/-- f(..), f such a def -/
theorem re_callG {sp : Sp} {Q : VK} (F : FnG X.prog X.w X.K X.mg X.base k f fd ps sp) (hA : X.A.guards = some []) (hr : Room k X.A) (hm : X.mg x = some (.ref f)) (hk : PySem.W.keepIn X.K (.ref f) = true) (hb : Binds X.K fd ps []) (ha : RA X (e :: es) σ H fun vs H1 => sp vs H1 Q E0) (hg : Gl X x := by rfl)
    (hdb : (x == ("__debug__" : Str)) = false := by decide) (he : starEach (e :: es) X.env = (false, eval e X.env) :: starEach es X.env := by rfl) (hpl : (backTo pos (starEach es X.env)).any (·.1) = false := by rfl) : RE X (.Call (.Name x p1) (e :: es) [] pos) σ H Q := by
  refine ⟨fun σ H Q => RA X (e :: es) σ H fun vs H1 => sp vs H1 Q E0, ⟨fun pins s σ H Q I h => ?_⟩, ha⟩
  refine wpAny_Call_Name_kw (ld_glob I hg hm ?_ hdb)
  refine PySem.W.callWith_K (h₀ := X.base) I.ok.mod.kin hk (thn (ra_.run pos pins s σ H _ I h) fun us s1 ⟨vs, H1, I1, r, q⟩ => ⟨I1.kIn, ?_⟩) he hpl
  have hz : us.length = ps.length := by rw [← r.length]; exact F.len _ _ _ _ q
  have hb' := hb s1 us I1.kIn (by rw [List.append_nil]; exact hz)
  rw [List.append_nil] at hb'
  refine wpAny_call (codeAny_mono (F.run X.A hA hr X.stack s1 H1 ⟨us, []⟩ us vs Q E0 I1.env0 hb' r q) fun r' s' hq => ?_)
  cases r' with
  | error e => exact hq.elim
  | ok fl =>
    cases fl with
    | ret u => exact I1.after hq
    | next => exact hq.elim
    | brk => exact hq.elim
    | cont => exact hq.elim
/-! ### repr of data -/
theorem call_reprD (hA : X.A.guards = some []) (hu : X.A.units + 64 < cLine) : CallR X (.builtin "repr") (fun xs H Q => ∃ (p : Addr) (d : PyData), xs = [.ref p] ∧ Dp X.K H (.ref p) d ∧ d.showable = true ∧ d.hasDict = false ∧ d.depth ≤ 60 ∧ d.shown.length ≤ sizeLine ∧ Q (.str d.shown) H) := by
  intro pins s σ H xs us Q I r h
  obtain ⟨p, d, rfl, hd, h1, h2, h3, h4, q⟩ := h
  obtain ⟨u, rfl, rx⟩ := vals1 r
  obtain ⟨as, rd⟩ := Dp.reads I d _ u hd rx
  cases rx
  exact repr_of_reads' rd h1 (fun z => by rw [h2] at z; cases z) hA (by omega) (fun _ _ z => z) (fun h' u tk hk => ⟨.str d.shown, H, I.kept (t' := tk) hk, ⟨u, rfl⟩, q⟩) h4
/-- repr(a) != repr(b) of the same data: False -/
theorem xt_reprNe {pa pb : Pos} (hA : X.A.guards = some []) (hu : X.A.units + 64 < cLine) (hm : X.mg "repr" = none) (ha : XD X M σ H a (.list ds)) (hb : XD X M σ H b (.list ds)) (h1 : (PyData.list ds).showable = true) (h2 : (PyData.list ds).hasDict = false) (h3 : (PyData.list ds).depth ≤ 60) (h4 : (PyData.list ds).shown.length ≤ sizeLine) (hg : Gl X "repr" := by rfl)
    (he : starEach [a] X.env = (false, eval a X.env) :: starEach [] X.env := by rfl) (hpl : (backTo pa (starEach [] X.env)).any (·.1) = false := by rfl) (he2 : starEach [b] X.env = (false, eval b X.env) :: starEach [] X.env := by rfl) (hpl2 : (backTo pb (starEach [] X.env)).any (·.1) = false := by rfl) :
    XT X σ H (.Compare (.Call (.Name "repr" p1) [a] [] pa) [.NotEq] [.Call (.Name "repr" p2) [b] [] pb] pos) false := by
  have key : ∀ {e : Expr} {pp qq : Pos}, XD X M σ H e (.list ds) → starEach [e] X.env = (false, eval e X.env) :: starEach [] X.env → (backTo qq (starEach [] X.env)).any (·.1) = false → XD X M σ H (.Call (.Name "repr" pp) [e] [] qq) (.str (PyData.list ds).shown) := fun {e pp qq} h z1 z2 H1 s Q q =>
    re_B (call_reprD hA hu) (ra_1 (h H1 s _ fun v H2 s2 hv => by
      obtain ⟨p, xs, rfl, hp, hx⟩ := dp_lst hv
      exact ⟨p, _, rfl, (hv.up hid_le).dp, h1, h2, h3, h4, q _ H2 s2 (.str _)⟩) z1) hm (by decide +kernel) hg (by decide) (by decide) z1 z2
  refine xt_cmp op_ne (key ha he hpl) (key hb he2 hpl2) fun H1 v w s hv hw Q q => ?_
  rw [dp_str hv, dp_str hw]
  exact ⟨rfl, by rw [decide_eq_true rfl]; exact q H1 (Same.refl _)⟩
theorem xd_reprEq {pa pb : Pos} (hA : X.A.guards = some []) (hu : X.A.units + 64 < cLine) (hm : X.mg "repr" = none) (ha : XD X M σ H a (.list ds)) (hb : XD X M σ H b (.list ds)) (h1 : (PyData.list ds).showable = true) (h2 : (PyData.list ds).hasDict = false) (h3 : (PyData.list ds).depth ≤ 60) (h4 : (PyData.list ds).shown.length ≤ sizeLine) (hg : Gl X "repr" := by rfl)
    (he : starEach [a] X.env = (false, eval a X.env) :: starEach [] X.env := by rfl) (hpl : (backTo pa (starEach [] X.env)).any (·.1) = false := by rfl) (he2 : starEach [b] X.env = (false, eval b X.env) :: starEach [] X.env := by rfl) (hpl2 : (backTo pb (starEach [] X.env)).any (·.1) = false := by rfl) :
    XD X M σ H (.Compare (.Call (.Name "repr" p1) [a] [] pa) [.Eq] [.Call (.Name "repr" p2) [b] [] pb] pos) (.bool true) := by
  have key : ∀ {e : Expr} {pp qq : Pos}, XD X M σ H e (.list ds) → starEach [e] X.env = (false, eval e X.env) :: starEach [] X.env → (backTo qq (starEach [] X.env)).any (·.1) = false → XD X M σ H (.Call (.Name "repr" pp) [e] [] qq) (.str (PyData.list ds).shown) := fun {e pp qq} h z1 z2 H1 s Q q =>
    re_B (call_reprD hA hu) (ra_1 (h H1 s _ fun v H2 s2 hv => by
      obtain ⟨p, xs, rfl, hp, hx⟩ := dp_lst hv
      exact ⟨p, _, rfl, (hv.up hid_le).dp, h1, h2, h3, h4, q _ H2 s2 (.str _)⟩) z1) hm (by decide +kernel) hg (by decide) (by decide) z1 z2
  refine xd_cmp op_eq (key ha he hpl) (key hb he2 hpl2) fun H1 v w s hv hw Q q => ?_
  rw [dp_str hv, dp_str hw]
  exact ⟨rfl, by rw [decide_eq_true rfl]; exact q _ H1 (Same.refl _) (.bl _)⟩
/-! ### isinstance -/
def tyN : PyData → String
  | .none => "NoneType"
  | .bool _ => "bool"
  | .int _ => "int"
  | .str _ => "str"
  | .list _ => "list"
  | .tuple _ => "tuple"
  | .dict _ => "dict"
theorem ty_dq {K : PySem.W.Frag} (h : Dq K H v d) : TyX K H v (.type (tyN d)) := by
  cases h with
  | non => exact .base .non
  | bl b => exact .base (.bl b)
  | int i => exact .base (.int i)
  | str z => exact .base (.str z)
  | lst h1 _ => exact .base (.lst h1)
  | tup h1 _ =>
    rcases h1 with (h1 | ⟨o, h1⟩) | ⟨o, its, n, h1, h2, _⟩
    · exact .base (.tup h1)
    · exact .fTuple h1
    · exact .kTuple h1 h2
/-- isinstance(a, T), T a built-in type by its name -/
theorem xd_is1 {T : String} {r : Bool} {nm : Str} (hk : kitB (tyN d) T = some r) (hm : X.mg "isinstance" = none) (hmT : X.mg nm = none) (hvT : bootBuiltins nm = some (.type T)) (ha : XD X M σ H a d) (hg : Gl X "isinstance" := by rfl) (hgT : Gl X nm := by rfl) (hnT : nm ≠ "__name__" := by decide) (hdT : (nm == ("__debug__" : Str)) = false := by decide)
    (he : starEach [a, .Name nm p2] X.env = (false, eval a X.env) :: starEach [.Name nm p2] X.env := by rfl) (he2 : starEach [.Name nm p2] X.env = (false, eval (.Name nm p2) X.env) :: starEach [] X.env := by rfl) (hpl : (backTo pos (starEach [.Name nm p2] X.env)).any (·.1) = false := by rfl) :
    XD X M σ H (.Call (.Name "isinstance" p1) [a, .Name nm p2] [] pos) (.bool r) := fun H1 s Q q =>
  re_B call_isi (ra_cons (ha H1 s _ fun v H2 s2 hv => ra_1 (xv_bltn (v := .ty T) hmT hvT rfl hgT hnT hdT H2 (Same.refl _) _ fun H3 s3 =>
    ⟨v, .ty T, _, _, r, rfl, .ty T, ty_dq ((hv.up hid_le).up s3), kit_ty hk, q _ H3 (s2.trans s3) (.bl _)⟩) he2) he) hm (by decide +kernel) hg (by decide) (by decide) he hpl
/-- isinstance(a, (T1, T2)) -/
theorem xd_is2 {T1 T2 : String} {r1 r2 : Bool} {n1 n2 : Str} {k3} (h1 : kitB (tyN d) T1 = some r1) (h2 : kitB (tyN d) T2 = some r2) (hm : X.mg "isinstance" = none) (hm1 : X.mg n1 = none) (hv1 : bootBuiltins n1 = some (.type T1)) (hm2 : X.mg n2 = none) (hv2 : bootBuiltins n2 = some (.type T2)) (ha : XD X M σ H a d)
    (hg : Gl X "isinstance" := by rfl) (hg1 : Gl X n1 := by rfl) (hg2 : Gl X n2 := by rfl) (hn1 : n1 ≠ "__name__" := by decide) (hn2 : n2 ≠ "__name__" := by decide) (hd1 : (n1 == ("__debug__" : Str)) = false := by decide) (hd2 : (n2 == ("__debug__" : Str)) = false := by decide) {q1 q2 q3 : Pos}
    (he : starEach [a, .Tuple [.Name n1 q1, .Name n2 q2] k3 q3] X.env = (false, eval a X.env) :: starEach [.Tuple [.Name n1 q1, .Name n2 q2] k3 q3] X.env := by rfl) (he2 : starEach [.Tuple [.Name n1 q1, .Name n2 q2] k3 q3] X.env = (false, eval (.Tuple [.Name n1 q1, .Name n2 q2] k3 q3) X.env) :: starEach [] X.env := by rfl)
    (hs1 : starEach [.Name n1 q1, .Name n2 q2] X.env = (false, eval (.Name n1 q1) X.env) :: starEach [.Name n2 q2] X.env := by rfl) (hs2 : starEach [.Name n2 q2] X.env = (false, eval (.Name n2 q2) X.env) :: starEach [] X.env := by rfl)
    (hpl : (backTo pos (starEach [.Tuple [.Name n1 q1, .Name n2 q2] k3 q3] X.env)).any (·.1) = false := by rfl) :
    XD X M σ H (.Call (.Name "isinstance" p1) [a, .Tuple [.Name n1 q1, .Name n2 q2] k3 q3] [] pos) (.bool (r1 || r2)) := fun H1 s Q q =>
  re_B call_isiT (ra_cons (ha H1 s _ fun v H2 s2 hv => ra_1 ⟨_, pe_tup ra_, ra_cons (xv_bltn (v := .ty T1) hm1 hv1 rfl hg1 hn1 hd1 H2 (Same.refl _) _ fun H3 s3 => ra_1 (xv_bltn (v := .ty T2) hm2 hv2 rfl hg2 hn2 hd2 H3 (Same.refl _) _ fun H4 s4 => by
    refine ⟨by show 2 ≤ sizeLine; decide, fun p hp => ?_⟩
    have s5 : Same H2 (upd H4 p (.tup [V.ty T1, V.ty T2])) := (s3.trans s4).trans (same_new hp)
    refine ⟨v, p, [.ty T1, .ty T2], _, _, r1 || r2, rfl, upd_same, .cons (.ty T1) (.cons (.ty T2) .nil), ty_dq ((hv.up hid_le).up s5), ?_, q _ _ (s2.trans s5) (.bl _)⟩
    refine kitAny_cons (kit_ty h1) (fun z => ?_) (fun z => by rw [z]; rfl)
    rw [z, Bool.false_or]
    exact kitAny_cons (kit_ty h2) (fun z2 => by rw [z2]; exact kitAny_nil) (fun z2 => z2)) hs2) hs1⟩ he2) he) hm (by decide +kernel) hg (by decide) (by decide) he hpl
/-! ### instances -/
theorem xv_fld {dx pa : Addr} {fs : List (Str × V)} {f : Str} (ho : XV X σ H o (.ref pa)) (h1 : H pa = some (.ins C dx fs)) (hc : Cls X.K C) (hn : NoAttr X.K C f) (hl : fs.lookup f = some v) (hb : attributeBase o f X.env (eval o X.env) = eval o X.env := by rfl) : XV X σ H (.Attribute o f pos) v := fun H1 s Q q =>
  ⟨_, pe_fld re_ hb, ho H1 s _ fun H2 s2 => ⟨pa, C, dx, fs, v, rfl, (s.trans s2) _ _ h1, hc, hn, hl, q H2 s2⟩⟩
theorem re_meth {dx pa : Addr} {fs : List (Str × V)} {m : Str} {sp : Sp} {Q : VK} {pl : Sem Bool} {apos : Pos} (ho : XV X σ H o (.ref pa)) (h1 : H pa = some (.ins C dx fs)) (hc : Cls X.K C) (hM : Meth X.K C m f) (hl : fs.lookup m = none) (F : FnOk X.prog X.w X.K X.mg X.base CX0 k f fd ps sp) (hr : Room k X.A) (hb : Binds X.K fd ps [])
    (ha : ∀ H1, Same H H1 → RA X (e :: es) σ H1 fun vs H2 => sp (.ref pa :: vs) H2 Q E0) (hst : starEach (e :: es) X.env = (false, eval e X.env) :: starEach es X.env := by rfl) (hpl : (backTo pos (starEach es X.env)).any (·.1) = false := by rfl)
    (ht : eval (.Call (.Attribute o m apos) (e :: es) [] pos) X.env = (do
      let ov ← eval o X.env
      standAt apos.atName
      let (f, first) ← holding [ov] (getMethod ov m pl)
      callWith pos f first (backTo pos (starEach (e :: es) X.env)) (backToKw pos (keywordEach [] X.env))) := by rfl) : RE X (.Call (.Attribute o m apos) (e :: es) [] pos) σ H Q :=
  ⟨_, pe_meth re_ hc hM F hr hb .nil pass0 ra_ hst hpl ht, ho H (Same.refl H) _ fun H1 s1 => ⟨pa, dx, fs, rfl, s1 _ _ h1, hl, ra_mono (ha H1 s1) fun vs H2 q => by rw [List.append_nil]; exact q⟩⟩
theorem re_meth0 {dx pa : Addr} {fs : List (Str × V)} {m : Str} {sp : Sp} {Q : VK} {pl : Sem Bool} {apos : Pos} (ho : XV X σ H o (.ref pa)) (h1 : H pa = some (.ins C dx fs)) (hc : Cls X.K C) (hM : Meth X.K C m f) (hl : fs.lookup m = none) (F : FnOk X.prog X.w X.K X.mg X.base CX0 k f fd ps sp) (hr : Room k X.A) (hb : Binds X.K fd ps [])
    (ha : ∀ H1, Same H H1 → sp [.ref pa] H1 Q E0)
    (ht : eval (.Call (.Attribute o m apos) [] [] pos) X.env = (do
      let ov ← eval o X.env
      standAt apos.atName
      let (f, first) ← holding [ov] (getMethod ov m pl)
      callWith pos f first (backTo pos (starEach [] X.env)) (backToKw pos (keywordEach [] X.env))) := by rfl) : RE X (.Call (.Attribute o m apos) [] [] pos) σ H Q :=
  ⟨_, pe_meth0 re_ hc hM F hr hb .nil pass0 ht, ho H (Same.refl H) _ fun H1 s1 => ⟨pa, dx, fs, rfl, s1 _ _ h1, hl, ha H1 s1⟩⟩
end
end Dl

set_option Elab.async false
set_option linter.all false
set_option maxRecDepth 100000
set_option maxHeartbeats 4000000
/-! Data layer, part 5: operators of an own class; the end. -/
namespace Dl
open PySem PySem.Spec PyProof.Rows L2
/-- a namespace of the written part -/
theorem ns_at {K : PySem.W.Frag} {h : Heap} {N : Addr} {mN : Str → Option Value} {n : Str} {v : Value} (X : K.In h) (G : h.Ns N mN) (e : PySem.W.nsIn K N n = some (some v)) : mN n = some v := by
  obtain ⟨o, es, ep, ho, hd, _, hf⟩ := G
  unfold PySem.W.nsIn at e
  split at e
  · rename_i cc dd es2 nn sl q
    have z := X _ _ q
    rw [ho] at z
    cases z
    cases hd
    split at e
    · rename_i en he
      cases e
      rw [← hf]
      unfold nsFind findBy
      rw [← Array.find?_toList, he]
      rfl
    · split at e <;> cases e
  · cases e
/-- what the written part says of a class with an own == and no != -/
structure ClsEq (K : PySem.W.Frag) (C f : Addr) : Prop where
  cls : ∃ nm q N bs hdct sn sub ab col dd k0 k1 k2 k3 k5 newId, K.lookup C = some (excClassObj nm q C N bs [.type "object"] hdct sn sub ab col dd k0 k1 k2 k3 k5 newId) ∧ PySem.W.nsOkIn K N = true ∧ PySem.W.nsIn K N "__eq__" = some (some (.ref f)) ∧ PySem.W.nsIn K N "__ne__" = some none
  at_ : PySem.W.findIn K (.ref C) "__eq__" = some (some (.ref f))
  fn : PySem.W.isFn K (.ref f) = true
  obj : ∃ o, K.lookup f = some o ∧ o.cls = .type "function"
section
variable {X : Cx} {M : List Addr} {σ : L2.St} {H H' : Hp} {e a b c o : Expr} {es : List Expr} {d d1 d2 : PyData} {ds ds2 es' : List PyData} {x : Str} {v : V} {pos p1 p2 p3 : Pos} {D : Ends} {rest sts : List Stmt} {st : Stmt} {k : Nat} {f C : Addr} {fd : FuncData} {ps : List Str} {sp : Sp}
/-- a bool comes back -/
def bk (Q : Bool → Hp → Prop) : VK := fun v H => ∃ b, v = .bl b ∧ Q b H
theorem run_bool {A : Around} {E : Value → Shared → Prop} {pins : List (Addr × Obj)} {s : Shared} {us : List Value} {vs : List V} {Q : Bool → Hp → Prop} {R : Value → Shared → Prop} (I : Inv X pins σ H s) (fr : A.frames = X.A.frames) (F : FnOk X.prog X.w X.K X.mg X.base CX0 k f fd ps sp) (hr : Room k A) (hb : Binds X.K fd ps []) (r : Vals vs us) (h : sp vs H (bk Q) E0)
    (q : ∀ b s' H', Inv X pins σ H' s' → Q b H' → R (.bool b) s') : wpAny (model X.prog X.w) A (call (.ref f) us) R E s := by
  have hz : us.length = ps.length := by rw [← r.length]; exact F.len _ _ _ _ h
  have hb' := hb s us I.kIn (by rw [List.append_nil]; exact hz)
  rw [List.append_nil] at hb'
  have e := I.env0
  have e0 : Env0 X.prog X.w X.K X.mg X.base A X.stack s H := ⟨by rw [fr]; exact e.frames, e.mod, e.bs, e.bsz, e.funs, e.frf, e.hok, e.bare⟩
  refine wpAny_call (codeAny_mono (F.run A X.stack s H ⟨us, []⟩ us vs (bk Q) E0 hr e0 hb' r h) fun r' s' hq => ?_)
  cases r' with
  | error e => exact hq.elim
  | ok fl =>
    cases fl with
    | ret u =>
      obtain ⟨z, H1, I1, rz, b, ez, q1⟩ := I.after hq
      subst ez
      cases rz
      exact q b s' H1 I1 q1
    | next => exact hq.elim
    | brk => exact hq.elim
    | cont => exact hq.elim
/-- a == b, a of an own class; the other one of that class, or of a type that is not below it -/
theorem op_eqO {tb : Value → Prop} (E : ClsEq X.K C f) (F : FnOk X.prog X.w X.K X.mg X.base CX0 k f fd ps sp) (hr : Room k X.A) (hb : Binds X.K fd ps []) :
    OpR X (compareOp .Eq) (fun x y H Q => ∃ pa dx fs, x = .ref pa ∧ H pa = some (.ins C dx fs) ∧ ((∃ pb dy gs, y = .ref pb ∧ H pb = some (.ins C dy gs)) ∨ (PySem.W.subIn X.K (.type "list") (.ref C) = some false ∧ ∃ pb xs, y = .ref pb ∧ H pb = some (.lst xs))) ∧ sp [x, y] H (bk fun b H1 => Q (.bl b) H1) E0) := by
  intro pins s σ H x y u v Q I rx ry h
  obtain ⟨pa, dx, fs, rfl, ha, hy, hsp⟩ := h
  cases rx
  obtain ⟨mA, J, _⟩ := ins_get I.hok ha
  obtain ⟨od, J, _⟩ := J.look
  obtain ⟨m, hF⟩ := I.fr
  show wpAny (model X.prog X.w) X.A (richCompare .Eq (.ref pa) v) (EP X pins σ Q) X.xe s
  have fin : wpAny (model X.prog X.w) X.A (call (.ref f) [.ref pa, v]) (PySem.W.CmpBack (EP X pins σ Q)) X.xe s :=
    run_bool (Q := fun b H1 => Q (.bl b) H1) I rfl F hr hb (.cons (show RelV (.ref pa) (.ref pa) from rfl) (.cons ry .nil)) hsp fun b s' H' I' q => ⟨.bl b, H', I', rfl, q⟩
  rcases hy with ⟨pb, dy, gs, rfl, hb2⟩ | ⟨hsub, pb, xs, rfl, hb2⟩
  · cases ry
    obtain ⟨mB, J2, _⟩ := ins_get I.hok hb2
    obtain ⟨od2, J2, _⟩ := J2.look
    exact PySem.W.cmp_K (op := .Eq) (tb := .ref C) hr.units0 hF I.ok.mod.kin J J2.type (by simp [PySem.W.notFirst]) E.at_ E.fn fin
  · cases ry
    obtain ⟨_, its, n, r, e⟩ := (show ObjOk X.prog X.w H s.heap pb (.lst xs) from I.hok pb _ hb2)
    have z : PySem.W.Looks (model X.prog X.w) s.heap (typeOf (.ref pb)) (.type "list") := (PySem.W.Looks.ld e).andThen .now
    exact PySem.W.cmp_K (op := .Eq) (tb := .type "list") hr.units0 hF I.ok.mod.kin J z (by unfold PySem.W.notFirst; rw [hsub]; simp) E.at_ E.fn fin
/-- a != b of one own class -/
theorem op_neO (E : ClsEq X.K C f) (F : FnOk X.prog X.w X.K X.mg X.base CX0 k f fd ps sp) (hr : Room (k + 1) X.A) (hb : Binds X.K fd ps []) :
    OpR X (compareOp .NotEq) (fun x y H Q => ∃ pa dx fs pb dy gs, x = .ref pa ∧ H pa = some (.ins C dx fs) ∧ y = .ref pb ∧ H pb = some (.ins C dy gs) ∧ sp [x, y] H (bk fun b H1 => Q (.bl (!b)) H1) E0) := by
  intro pins s σ H x y u v Q I rx ry h
  obtain ⟨pa, dx, fs, pb, dy, gs, rfl, ha, rfl, hb2, hsp⟩ := h
  cases rx
  cases ry
  obtain ⟨mA, J, _⟩ := ins_get I.hok ha
  obtain ⟨od, J, _⟩ := J.look
  obtain ⟨mB, J2, _⟩ := ins_get I.hok hb2
  obtain ⟨od2, J2, _⟩ := J2.look
  obtain ⟨hox, hoc, _⟩ := J
  obtain ⟨hoy, hoyc, _⟩ := J2
  obtain ⟨nm, q, N, bs, hdct, sn, sub, ab, col, dd, k0, k1, k2, k3, k5, newId, hC, hN, he, hne⟩ := E.cls
  obtain ⟨of, hfo, hfc⟩ := E.obj
  have KX := I.kIn
  have hns := Heap.Ns.of_isNs (PySem.W.isNs_of_in KX hN)
  have Y : s.heap.OwnEqNoNe pa C f "object" [.type "object"] :=
    ⟨_, of, nm, q, N, bs, hdct, sn, sub, ab, col, dd, k0, k1, k2, k3, k5, newId, _, _, hox, hoc, KX _ _ hC, hns, ns_at KX hns he, KX _ _ hfo, hfc, PySem.F.mro_object, PySem.F.cmp_object.eq.lookup, PySem.W.ns_none_of KX hns hne⟩
  have hu := hr.units0
  obtain ⟨hh, g, dr, tk, os⟩ := s
  refine compareOp_ne_ownEq PySem.F.cmp_object Y hoy hoyc (by have := hr.un; omega) ?_
  exact run_bool (A := X.A.in1) (Q := fun b H1 => Q (.bl (!b)) H1) I rfl F hr.in1 hb (.cons (show RelV (.ref pa) (.ref pa) from rfl) (.cons (show RelV (.ref pb) (.ref pb) from rfl) .nil)) hsp fun b s' H' I' q => ⟨b, rfl, ⟨.bl (!b), H', I', rfl, q⟩⟩
/-- x in o, o of an own class -/
theorem op_inO (hs : PySem.W.findIn X.K (.ref C) "__contains__" = some (some (.ref f))) (hf : PySem.W.isFn X.K (.ref f) = true) (F : FnOk X.prog X.w X.K X.mg X.base CX0 k f fd ps sp) (hr : Room k X.A) (hb : Binds X.K fd ps []) :
    OpR X (compareOp .In) (fun x y H Q => ∃ pa dx fs, y = .ref pa ∧ H pa = some (.ins C dx fs) ∧ sp [y, x] H (bk fun b H1 => Q (.bl b) H1) E0) := by
  intro pins s σ H x y u v Q I rx ry h
  obtain ⟨pa, dx, fs, rfl, ha, hsp⟩ := h
  cases ry
  obtain ⟨mA, J, _⟩ := ins_get I.hok ha
  obtain ⟨od, J, _⟩ := J.look
  obtain ⟨m, hF⟩ := I.fr
  exact PySem.W.in_K hF I.ok.mod.kin J hs hf (run_bool (Q := fun b H1 => Q (.bl b) H1) I rfl F hr hb (.cons (show RelV (.ref pa) (.ref pa) from rfl) (.cons rx .nil)) hsp fun b s' H' I' q => wpAny_truthy_bool ⟨.bl b, H', I', rfl, q⟩)
/-- len(o) -/
theorem call_lenO (hs : PySem.W.findIn X.K (.ref C) "__len__" = some (some (.ref f))) (hf : PySem.W.isFn X.K (.ref f) = true) (F : FnOk X.prog X.w X.K X.mg X.base CX0 k f fd ps sp) (hr : Room (k + 1) X.A) (hb : Binds X.K fd ps []) :
    CallR X (.builtin "len") (fun xs H Q => ∃ pa dx fs, xs = [.ref pa] ∧ H pa = some (.ins C dx fs) ∧ sp xs H (fun v H1 => ∃ n : Nat, v = .int n ∧ n < 2 ^ 62 ∧ Q (.int n) H1) E0) := by
  intro pins s σ H xs us Q I r h
  obtain ⟨pa, dx, fs, rfl, ha, hsp⟩ := h
  obtain ⟨u, rfl, rx⟩ := vals1 r
  cases rx
  obtain ⟨mA, J, _⟩ := ins_get I.hok ha
  obtain ⟨od, J, _⟩ := J.look
  obtain ⟨m, hF⟩ := I.fr
  refine PySem.W.len_K hF I.ok.mod.kin J hs hf ?_
  have hz : [Value.ref pa].length = ps.length := F.len _ _ _ _ hsp
  have hb' := hb s [.ref pa] I.kIn (by rw [List.append_nil]; exact hz)
  rw [List.append_nil] at hb'
  have e := I.env0.in1
  refine wpAny_call (codeAny_mono (F.run X.A.in1 X.stack s H ⟨[.ref pa], []⟩ [.ref pa] [.ref pa] _ E0 hr.in1 e hb' (.cons rfl .nil) hsp) fun r' s' hq => ?_)
  cases r' with
  | error e => exact hq.elim
  | ok fl =>
    cases fl with
    | ret u =>
      obtain ⟨z, H1, I1, rz, n, ez, hn, q1⟩ := I.after hq
      subst ez
      obtain ⟨t, rfl⟩ := rz
      exact ⟨⟨by omega, by omega⟩, ⟨.int n, H1, I1.tok _, ⟨_, rfl⟩, q1⟩⟩
    | next => exact hq.elim
    | brk => exact hq.elim
    | cont => exact hq.elim
/-- o.p, a property -/
theorem re_prop {dx pa pp : Addr} {fs : List (Str × V)} {m : Str} {Q : VK} (ho : XV X σ H o (.ref pa)) (h1 : H pa = some (.ins C dx fs)) (hc : Cls X.K C) (hp : PropOf X.K C m pp f) (F : FnOk X.prog X.w X.K X.mg X.base CX0 k f fd ps sp) (hr : Room (k + 1) X.A) (hb : Binds X.K fd ps []) (ha : ∀ H1, Same H H1 → sp [.ref pa] H1 Q E0)
    (hab : attributeBase o m X.env (eval o X.env) = eval o X.env := by rfl) : RE X (.Attribute o m pos) σ H Q :=
  ⟨_, pe_prop re_ hc hp F hr hb .nil pass0 hab, ho H (Same.refl H) _ fun H1 s1 => ⟨pa, dx, fs, rfl, s1 _ _ h1, ha H1 s1⟩⟩
/-- C(e, ..) -/
theorem re_make {Q : VK} {dvs : List V} {dl : List Value} (Mm : Mk X.K C f) (F : FnOk X.prog X.w X.K X.mg X.base CX0 k f fd ps sp) (hr : Room (k + 1) X.A) (hm : X.mg x = some (.ref C)) (hb : Binds X.K fd ps dl) (hd : Vals dvs dl)
    (ha : RA X (e :: es) σ H fun vs H1 => ∀ y dx, H1 y = none → H1 dx = none → dx ≠ y → sp (.ref y :: (vs ++ dvs)) (upd (upd H1 dx (.own y)) y (.ins C dx [])) (fun v H2 => v = .non ∧ Q (.ref y) H2) E0) (hg : Gl X x := by rfl)
    (hdb : (x == ("__debug__" : Str)) = false := by decide) (he : starEach (e :: es) X.env = (false, eval e X.env) :: starEach es X.env := by rfl) (hpl : (backTo pos (starEach es X.env)).any (·.1) = false := by rfl) : RE X (.Call (.Name x p1) (e :: es) [] pos) σ H Q :=
  ⟨_, pe_make Mm F hr hg hm hb hd pass0 ra_ hdb he hpl, ha⟩
/-- o.f = e -/
theorem rb_fld {m : Str} {dx pa : Addr} {fs : List (Str × V)} {ap : Pos} (he : RE X e σ H fun v H1 => H1 pa = some (.ins C dx fs) ∧ fs.length < 1000 ∧ XV X σ H1 o (.ref pa) ∧ ∀ H2, Same H1 H2 → RB X rest D σ (upd H2 pa (.ins C dx (putF m v fs)))) (hc : Cls X.K C) (hn : NoAttr X.K C m) (hs : swapsWith e (some (.Attribute o m ap)) pos.line X.env = pure false := by rfl) :
    RB X (.Assign [.Attribute o m ap] e pos :: rest) D σ H :=
  ⟨_, pss_cons (ps_fld re_ re_ hs) rb_, re_mono he fun v H1 ⟨h1, hl, ho, q⟩ => ho H1 (Same.refl _) _ fun H2 s2 => ⟨pa, C, dx, fs, rfl, s2 _ _ h1, hc, hn, hl, q H2 s2⟩⟩
end
end Dl

set_option Elab.async false
set_option linter.all false
set_option maxRecDepth 100000
set_option maxHeartbeats 4000000
/-! several clauses `except X as e`, all with one name -/
namespace Dl
open PySem PySem.Spec PyProof.Rows L2
/-- what the clauses wish, one after the other -/
def wManyAs (K : PySem.W.Frag) (i : Nat) (Wout : WX) (D : Ends) : List (Value × (Addr → Value → Option Addr → TS)) → WX
  | [] => Wout
  | (c, ts) :: r => wAs K c i ts (wManyAs K i Wout D r) D
inductive HdsAs (X : Cx) (n : Str) : List ExceptHandler → List (Value × (Addr → Value → Option Addr → TS)) → Prop
  | nil : HdsAs X n [] []
  | cons {y : Str} {c : Value} {ts : Addr → Value → Option Addr → TS} {st0 : Stmt} {sts : List Stmt} {np hp : Pos} {hs : List ExceptHandler} {l : List (Value × (Addr → Value → Option Addr → TS))} (nm : Names X y c)
      (run : ∀ (a : Addr) (ob : Obj) (cls : Value) (d : Option Addr) (pn : List (Addr × Obj)), Zc cls d ob → (∃ fs, ob.data = .fields fs) → PSs (X.suite a ((a, ob) :: pn)) (st0 :: sts) (ts a cls d)) (more : HdsAs X n hs l) :
      HdsAs X n (.ExceptHandler (some (.Name y np)) (some n) (st0 :: sts) hp :: hs) ((c, ts) :: l)
section
variable {X : Cx} {n : Str} {i : Nat} {body : List Stmt} {h0 : ExceptHandler} {hds : List ExceptHandler} {l : List (Value × (Addr → Value → Option Addr → TS))} {pos : Pos} {tb : WX → TS} {Wout : WX}
theorem ps_try_manyAs (stk : X.stack = X.env :: X.outer) (frm : X.env.frame = some X.env.locals) (nd : X.N.Nodup) (at_ : X.N[i]? = some n) (loc : X.env.kindOf n = some .local) (out : Takes X Wout)
    (bd : ∀ (W : WX) (pn : List (Addr × Obj)) (xe : Value → Shared → Prop), Takes (X.tr pn xe) W → PassesOwn (model X.prog X.w) X.A X.env xe → PSs (X.tr pn xe) body (tb W)) (hh : HdsAs X n (h0 :: hds) l) :
    PS X (.Try body (h0 :: hds) [] [] pos) fun D σ H => tb (wManyAs X.K i Wout D l) D σ H := by
  refine ⟨fun pins s σ H D I wish => ?_⟩
  have okX := I.ok
  have frs0 : X.A.frames = some (X.env :: X.outer) := okX.frames.trans (by rw [stk])
  have locN : Loc X.env.scope n := Or.inl loc
  refine wpAny_Try_except ?_
  refine wpAny_mono ((bd (wManyAs X.K i Wout D l) (X.pn ++ pins) (fun exc t1 => wpAny (model X.prog X.w) X.A (noteFrame exc X.env) (fun _ t2 => wpAny (model X.prog X.w) X.A (setFlight exc none) (fun _ t3 =>
      wpAny (model X.prog X.w) X.A (handleBy exc X.env (h0 :: hds)) (SP X pins D) X.xe t3) X.xe t2) X.xe t1) (fun u s2 flying => ?_) PassesOwn.looking).run [] s σ H D (I.toTry _) wish) (fun fl t1 done => ?_) fun exc t1 raised => raised
  · obtain ⟨a, B, sI, pins1, τ, G, cls, d, rfl, I1, stay, ups, sky, free, oss, bare, owe⟩ := flying
    have J : Inv X pins τ G sI := I1.ofTry okX
    have sky1 : Sky B (X.env :: X.outer) a (Zc cls d) X.env.locals s2.heap := by rw [← stk]; exact sky
    show wpAny (model X.prog X.w) X.A (noteFrame (.ref a) X.env) _ _ _
    refine Sky.land Zc.steady frs0 frm sky1 fun h3 fl3 up3 => ?_
    have J3 : Inv X pins τ G { s2 with heap := h3 } := J.landed stay fl3.1 (ups.trans up3) oss bare
    obtain ⟨o3, fs3, g3, z3, dt3⟩ := fl3.there
    have notIn : a ∉ frs (X.env :: X.outer) := fun m => by
      obtain ⟨_, o4, g4, no⟩ := fl3.2.2.1.mem m
      rw [g3] at g4
      cases g4
      exact no _ dt3
    have notLoc : a ≠ X.env.locals := fun z => notIn (List.mem_filterMap.mpr ⟨X.env, List.mem_cons_self, by rw [frm, z]⟩)
    have notFs : a ∉ X.fs := fun m => by
      obtain ⟨en, hen, q⟩ := List.mem_filterMap.mp m
      exact notIn (List.mem_filterMap.mpr ⟨en, List.mem_cons_of_mem _ hen, q⟩)
    have S3 := J3.suite g3 dt3 free notLoc notFs
    have walk : ∀ {hs1 : List ExceptHandler} {l1 : List (Value × (Addr → Value → Option Addr → TS))}, HdsAs X n hs1 l1 → wManyAs X.K i Wout D l1 cls d τ G →
        wpAny (model X.prog X.w) X.A (handleBy (.ref a) X.env hs1) (SP X pins D) X.xe { s2 with heap := h3 } := by
      intro hs1 l1 k
      induction k with
      | nil =>
        intro owe1
        refine wpAny_handleBy_nil ?_
        obtain ⟨q1, q2, q3, o5, fs5, tb5, ot5, ts5, g5, z5, dt5, one5, r5⟩ := id fl3
        unfold PySem.passOn
        refine wpAny_bind (wpAny_field g5 dt5 one5 ?_)
        rw [if_neg (show ¬ ((Value.ref tb5 == Value.none) = true) from by simp)]
        have up : wpAny (model X.prog X.w) X.A (setFlight (.ref a) X.env.frame) (fun _ t4 => wpAny (model X.prog X.w) X.A (throw (.ref a) : Sem Flow) (SP X pins D) X.xe t4) X.xe { s2 with heap := h3 } := by
          rw [frm]
          refine HandSPX.setFlight_upZ fl3 fun h4 fl4 up4 => wpAny_throw (out _ _ ?_)
          exact ⟨a, B, sI, pins, τ, G, cls, d, rfl, J, stay, (ups.trans up3).trans up4, .inr (.inr (by rw [stk]; exact fl4)), free, oss, bare, owe1⟩
        first | exact wpAny_bind (wpAny_pure (wpAny_bind up)) | exact wpAny_bind up
      | @cons y c ts st0 sts np hp hs2 l2 nm run more ih =>
        intro owe1
        obtain ⟨b, is1, yes1, no1⟩ := owe1
        refine wpAny_handleBy_cons (codeAny_handlers_test ?_) (by intro q; cases q)
        have looks : PySem.W.Looks (model X.prog X.w) h3 (typeOf (.ref a)) cls := fun A1 Q1 E1 t1 keep q => wpAny_typeOf_ref (keep _ _ g3) (by rw [z3.1]; exact q)
        have isIt := PySem.W.exm_one (M := model X.prog X.w) (J3.kIn) looks is1
        have named : ∀ {Q1 : Value → Shared → Prop} {E1 : Value → Shared → Prop}, Q1 c { s2 with heap := h3 } → wpAny (model X.prog X.w) (X.A.mark (some (.ref a))) (eval (.Name y np) X.env) Q1 E1 { s2 with heap := h3 } := fun {Q1 E1} q => by
          obtain ⟨gl, db, mm | ⟨mm, bv, nn⟩⟩ := nm
          · exact ld_glob (X := X.suite a ((a, o3) :: (X.pn ++ pins))) S3 gl mm q db
          · exact ld_blt (X := X.suite a ((a, o3) :: (X.pn ++ pins))) S3 gl mm bv q nn db
        refine named (isIt.here ?_)
        cases b with
        | false =>
          show wpAny _ X.A (handleBy (.ref a) X.env hs2) _ _ _
          exact ih (no1 rfl)
        | true =>
          refine codeAny_handlers_suite_as ?_
          refine HandSPX.lands_againZ fl3 fun h4 fl4 up4 => ?_
          have J4 : Inv X pins τ G { s2 with heap := h4 } := J.landed stay fl4.1 ((ups.trans up3).trans up4) oss bare
          obtain ⟨o4, fs4, g4, z4, dt4⟩ := fl4.there
          refine store_ok (X := X.suite a ((a, o4) :: (X.pn ++ pins))) (v := .ref a) (J4.suite g4 dt4 free notLoc notFs) nd at_ locN rfl (fun t5 S5 => ?_) (Or.inr loc)
          refine wpAny_mono ((run a o4 cls d (X.pn ++ pins) z4 ⟨_, dt4⟩).run [] t5 _ G _ S5 (yes1 rfl a free)) (fun fl t6 done => ?_) fun _ _ z => z.elim
          have forget : ∀ {σ6 : L2.St} {G6 : Hp} {Q1 : Shared → Prop}, Inv (X.suite a ((a, o4) :: (X.pn ++ pins))) [] σ6 G6 t6 → (∀ t7, Inv X pins (σ6.set i none) G6 t7 → Q1 t7) →
              wpAny (model X.prog X.w) X.A (do bindName X.env n .none; unbindBehindTheSuite X.env n hp) (fun _ t7 => Q1 t7) X.xe t6 := fun {σ6 G6 Q1} S6 q => gone_ok (S6.unsuite okX) nd at_ loc q
          cases fl with
          | next => obtain ⟨τ6, G6, S6, q6⟩ := done; exact forget S6 fun t7 J7 => ⟨_, _, J7, q6⟩
          | brk => obtain ⟨τ6, G6, S6, q6⟩ := done; exact forget S6 fun t7 J7 => ⟨_, _, J7, q6⟩
          | cont => obtain ⟨τ6, G6, S6, q6⟩ := done; exact forget S6 fun t7 J7 => ⟨_, _, J7, q6⟩
          | ret u => obtain ⟨v6, τ6, G6, S6, r6, q6⟩ := done; exact forget S6 fun t7 J7 => ⟨_, _, _, J7, r6, q6⟩
    exact walk hh owe
  · cases fl with
    | next => obtain ⟨τ, G, J, q⟩ := done; exact wpAny_execs_nil ⟨τ, G, J.ofTry okX, q⟩
    | brk => obtain ⟨τ, G, J, q⟩ := done; exact ⟨τ, G, J.ofTry okX, q⟩
    | cont => obtain ⟨τ, G, J, q⟩ := done; exact ⟨τ, G, J.ofTry okX, q⟩
    | ret u => obtain ⟨v, τ, G, J, rv, q⟩ := done; exact ⟨v, τ, G, J.ofTry okX, rv, q⟩
end
end Dl

set_option Elab.async false
set_option linter.all false
set_option maxRecDepth 100000
set_option maxHeartbeats 4000000
/-! Data layer: defs that may raise, raise, try with several clauses, the field of a caught exception -/
namespace Dl
open PySem PySem.Spec PyProof.Rows L2
section
variable {X : Cx} {M : List Addr} {σ : L2.St} {H H' : Hp} {e o : Expr} {es : List Expr} {x n : Str} {v : V} {pos p1 p2 p3 hp : Pos} {D : Ends} {rest body : List Stmt} {k i : Nat} {f C fI : Addr} {fd : FuncData} {ps : List Str} {W : WX} {Q : VK} {sp : Sp}
/-- x(e, ..), a def that may raise -/
theorem re_callX (F : FnOk X.prog X.w X.K X.mg X.base (L2.CX X.prog X.w) k f fd ps sp) (hr : Room k X.A) (tk : Takes X W) (hm : X.mg x = some (.ref f)) (hk : PySem.W.keepIn X.K (.ref f) = true) (hb : Binds X.K fd ps []) (ha : RA X (e :: es) σ H fun vs H1 => sp vs H1 Q fun cls d H2 => W cls d σ H2) (hg : Gl X x := by rfl)
    (hdb : (x == ("__debug__" : Str)) = false := by decide) (he : starEach (e :: es) X.env = (false, eval e X.env) :: starEach es X.env := by rfl) (hpl : (backTo pos (starEach es X.env)).any (·.1) = false := by rfl) : RE X (.Call (.Name x p1) (e :: es) [] pos) σ H Q :=
  ⟨_, pe_callS F hr hg hm hk hb (fun σ => passAt tk σ) ra_ hdb he hpl, ha⟩
/-- __init__(self, value) of an exception's class -/
def spXI (C : Addr) (fl : Str) : Sp := fun vs H Q _ => ∃ (a : Addr) (v : V), vs = [.ref a, v] ∧ H a = some (exo a C none) ∧ ∀ H2, Same H H2 → ∀ dx, H2 dx = none → dx ≠ a → Q .non (upd (upd H2 dx (exd dx [(fl, v)])) a (exo a C (some dx)))
/-- self.f = e, self a new exception -/
theorem rb_ost {m : Str} {a : Addr} {ap : Pos} (T : OexC X.K C) (no : PySem.W.findIn X.K (.ref C) m = some none) (he : XV X σ H e v) (ho : XV X σ H o (.ref a)) (ha : H a = some (exo a C none)) (q : ∀ H2, Same H H2 → ∀ dx, H2 dx = none → dx ≠ a → RB X rest D σ (upd (upd H2 dx (exd dx [(m, v)])) a (exo a C (some dx))))
    (hs : swapsWith e (some (.Attribute o m ap)) pos.line X.env = pure false := by rfl) : RB X (.Assign [.Attribute o m ap] e pos :: rest) D σ H :=
  ⟨_, pss_cons (ps_ost re_ re_ hs) rb_, he H (Same.refl H) _ fun H1 s1 => ho H1 s1 _ fun H2 s2 => ⟨a, C, rfl, T, no, .inl ⟨(s1.trans s2) _ _ ha, fun dx h1 h2 => q H2 (s1.trans s2) dx h1 h2⟩⟩⟩
/-- a class of exceptions with one field -/
structure XCls (P : Program) (w : World) (K : PySem.W.Frag) (mg : Str → Option Value) (base : Heap) (x fl : Str) (C fI : Addr) (fd : FuncData) : Prop where
  mgC : mg x = some (.ref C)
  T : OexC K C
  iC : PySem.W.findIn K (.ref C) "__init__" = some (some (.ref fI))
  tI : PySem.W.typeIn K (.ref fI) = some (.type "function")
  G : FnOk P w K mg base CX0 1 fI fd ["self", fl] (spXI C fl)
  b : Binds K fd ["self", fl] []
  xf : XfC K C
  no : PySem.W.findIn K (.ref C) fl = some none
  te : PySem.W.exmOne K (.ref C) (.ref C) = some true
theorem del_upd {H H2 : Hp} {a d : Addr} {fs : List (Str × V)} (ha : H a = none) (s : Same (upd H a (exo a C none)) H2) (hd : H2 d = none) (ne : d ≠ a) : Same H (upd (del (upd (upd H2 d (exd d fs)) a (exo a C (some d))) a) d (.xd fs)) := fun b o e => by
  have na : b ≠ a := fun z => by rw [z, ha] at e; cases e
  have e2 : H2 b = some o := s b o (by rw [upd_ne na]; exact e)
  have nd : b ≠ d := fun z => by rw [z, hd] at e2; cases e2
  rw [upd_ne nd, del_ne na, upd_ne na, upd_ne nd]
  exact e2
/-- raise C(e) -/
theorem rb_raise {fl : Str} (Y : XCls X.prog X.w X.K X.mg X.base x fl C fI fd) (hr : Room 2 X.A) (tk : Takes X W) (h : RE X e σ H fun v H1 => ∀ d H2, Same H1 H2 → H2 d = some (.xd [(fl, v)]) → W (.ref C) (some d) σ H2) (hc : X.calm = true := by rfl) (hg : Gl X x := by rfl)
    (hdb : (x == ("__debug__" : Str)) = false := by decide) (he : starEach [e] X.env = (false, eval e X.env) :: starEach [] X.env := by rfl) (hpl : (backTo pos (starEach [] X.env)).any (·.1) = false := by rfl) : RB X (.Raise (some (.Call (.Name x p1) [e] [] pos)) none p2 :: rest) D σ H :=
  ⟨_, pss_cons (ps_raise hc tk (pmk_oex Y.T Y.iC Y.tI Y.G hr Y.b .nil pass0 hg Y.mgC ra_ hdb he hpl)) rb_, ra_1 (re_mono h fun v H1 q => by
    refine ⟨by show 1 ≤ 1000; decide, fun a ha => ⟨a, v, rfl, upd_same, fun H2 s2 d h1 h2 => ⟨rfl, d, _, upd_same, by rw [upd_ne h2, upd_same], ?_, q d _ (del_upd ha s2 h1 h2) upd_same⟩⟩⟩
    cases e3 : H1 d with
    | none => rfl
    | some o =>
      have e4 := s2 d o (by rw [upd_ne h2]; exact e3)
      rw [h1] at e4
      cases e4) he⟩
/-! ### try -/
/-- the body of a try, what leaves it goes by W -/
def TB (X : Cx) (body : List Stmt) : WX → TS := fun W D σ H => ∀ (pn : List (Addr × Obj)) (xe : Value → Shared → Prop), Takes (X.tr pn xe) W → PassesOwn (model X.prog X.w) X.A X.env xe → RB (X.tr pn xe) body D σ H
/-- a clause's suite, the exception at a -/
def SB (X : Cx) (suite : List Stmt) : Addr → Value → Option Addr → TS := fun a cls d D σ H => ∀ (ob : Obj) (pn : List (Addr × Obj)), Zc cls d ob → (∃ fs, ob.data = .fields fs) → RB (X.suite a ((a, ob) :: pn)) suite D σ H
theorem tb_ {pn : List (Addr × Obj)} {xe : Value → Shared → Prop} (tk : Takes (X.tr pn xe) W) (po : PassesOwn (model X.prog X.w) X.A X.env xe) : PSs (X.tr pn xe) body (TB X body W) := ⟨fun pins s σ H D I h => by
  obtain ⟨t, ht, q⟩ := h pn xe tk po
  exact ht.run pins s σ H D I q⟩
theorem sb_ {suite : List Stmt} {a : Addr} {ob : Obj} {cls : Value} {d : Option Addr} {pn : List (Addr × Obj)} (z : Zc cls d ob) (hf : ∃ fs, ob.data = .fields fs) : PSs (X.suite a ((a, ob) :: pn)) suite (SB X suite a cls d) := ⟨fun pins s σ H D I h => by
  obtain ⟨t, ht, q⟩ := h ob pn z hf
  exact ht.run pins s σ H D I q⟩
/-- the clauses by their classes -/
inductive Cls (X : Cx) (n : Str) : List ExceptHandler → List (Value × (Addr → Value → Option Addr → TS)) → Prop
  | nil : Cls X n [] []
  | cons {y : Str} {c : Value} {st0 : Stmt} {sts : List Stmt} {np hp : Pos} {hs : List ExceptHandler} {l : List (Value × (Addr → Value → Option Addr → TS))} (nm : Names X y c) (more : Cls X n hs l) :
      Cls X n (.ExceptHandler (some (.Name y np)) (some n) (st0 :: sts) hp :: hs) ((c, SB X (st0 :: sts)) :: l)
theorem Cls.ok {hs : List ExceptHandler} {l : List (Value × (Addr → Value → Option Addr → TS))} (h : Cls X n hs l) : HdsAs X n hs l := by
  induction h with
  | nil => exact .nil
  | cons nm more ih => exact .cons nm (fun a ob cls d pn z hf => sb_ z hf) ih
theorem rb_tryAs {h0 : ExceptHandler} {hds : List ExceptHandler} {l : List (Value × (Addr → Value → Option Addr → TS))} {Wout : WX} (i : Nat) (hN : X.N.Nodup) (out : Takes X Wout) (hh : Cls X n (h0 :: hds) l) (h : TB X body (wManyAs X.K i Wout { D with nx := RB X rest D } l) { D with nx := RB X rest D } σ H)
    (hi : X.N[i]? = some n := by rfl) (loc : X.env.kindOf n = some .local := by rfl) (stk : X.stack = X.env :: X.outer := by rfl) (frm : X.env.frame = some X.env.locals := by rfl) : RB X (.Try body (h0 :: hds) [] [] pos :: rest) D σ H :=
  ⟨_, pss_cons (ps_try_manyAs (tb := TB X body) stk frm hN hi loc out (fun W pn xe tk po => tb_ tk po) hh.ok) rb_, h⟩
/-- e.f, e the caught exception -/
theorem xv_xf {a : Addr} {ob : Obj} {cls : Value} {d : Addr} {pn : List (Addr × Obj)} {fl : Str} {fs : List (Str × V)} (T : XfC X.K C) (no : PySem.W.findIn X.K (.ref C) fl = some none) (z : Zc cls (some d) ob) (hf : ∃ vs, ob.data = .fields vs) (hcl : cls = .ref C) (ho : XV (X.suite a ((a, ob) :: pn)) σ H e (.ref a)) (hd : H d = some (.xd fs)) (hl : fs.lookup fl = some v)
    (hb : attributeBase e fl X.env (eval e X.env) = eval e X.env := by rfl) : XV (X.suite a ((a, ob) :: pn)) σ H (.Attribute e fl pos) v := fun H1 s Q q =>
  ⟨_, pe_xf T no z hf re_ hb, ho H1 s _ fun H2 s2 => ⟨rfl, hcl, d, fs, v, rfl, (s.trans s2) _ _ hd, hl, q H2 s2⟩⟩
end
end Dl

set_option Elab.async false
set_option linter.all false
set_option maxRecDepth 100000
set_option maxHeartbeats 8000000
/-! Data layer: {i:02d}, whole numbers below sixty -/
namespace Dl
open PySem PySem.Spec PyProof.Rows L2 PySem.Builtin PySem.Builtin.Str PySem.Builtin.Int
def two (i : Int) : PySem.Str := if i < 10 then (⟨#[48]⟩ : PySem.Str) ++ PySem.Str.ofString (toString i) else PySem.Str.ofString (toString i)
def s02 : PySem.Str := "02d"
section
variable {prog : Program} {w : World} {A : Around} {E : Value → Shared → Prop} {s : Shared}
theorem field_02 {i : Int} {t : Tok} {Q : Value → Shared → Prop} (h0 : 0 ≤ i) (h1 : i < 60) (q : Q (.str (two i) (s.toks + 1)) { s with toks := s.toks + 1 + 1 }) : wpAny (model prog w) A (formatField (.int i t) s02) Q E s := by
  show wpAny _ _ (holding [.int i t] (pyFormat (.int i t) s02)) Q E s
  refine wpAny_holding ?_
  unfold pyFormat
  refine wpAny_bind (wpAny_mkStr ?_ (by decide))
  refine wpAny_bind (m := callSpecial? (.int i t) (PySem.Str.ofString "__format__") [.str s02 s.toks]) (wpAny_callSpecial?_slot (name := PySem.Str.ofString "__format__") (typeIs_int _ _ t) PyProof.Rows.slot_int_format ?_)
  refine wpAny_call (codeAny_call_builtin PyProof.Rows.slot_int_format.plain PyProof.Rows.entry_int_format (PyProof.Rows.slot_int_format.check _ _ _ _ _ _ _ _ (typeIs_int _ _ t) (PyProof.Rows.args_int_format _ _) ?_))
  unfold Builtin.«int.__format__»
  simp only [selfAndOne, noKeywords, Int.intOfSelf, asInt?, asStr?, List.isEmpty_nil, if_true, pure_bind, bind_pure, bind_assoc, Bool.false_eq_true, if_false, show (Value.str s02 s.toks == Value.none) = false from rfl]
  refine wpAny_bind (wpAny_typeNameOf (T := "str") (typeIs_str _ _ _) (by decide) fun _ => ?_)
  rw [if_neg (by decide), if_neg (by decide)]
  refine wpAny_bind (wpAny_typeNameOfCut_int ?_)
  have all : i = 0 ∨ i = 1 ∨ i = 2 ∨ i = 3 ∨ i = 4 ∨ i = 5 ∨ i = 6 ∨ i = 7 ∨ i = 8 ∨ i = 9 ∨ i = 10 ∨ i = 11 ∨ i = 12 ∨ i = 13 ∨ i = 14 ∨ i = 15 ∨ i = 16 ∨ i = 17 ∨ i = 18 ∨ i = 19 ∨ i = 20 ∨ i = 21 ∨ i = 22 ∨ i = 23 ∨ i = 24 ∨ i = 25 ∨ i = 26 ∨ i = 27 ∨ i = 28 ∨ i = 29 ∨ i = 30 ∨ i = 31 ∨ i = 32 ∨ i = 33 ∨ i = 34 ∨ i = 35 ∨ i = 36 ∨ i = 37 ∨ i = 38 ∨ i = 39 ∨ i = 40 ∨ i = 41 ∨ i = 42 ∨ i = 43 ∨ i = 44 ∨ i = 45 ∨ i = 46 ∨ i = 47 ∨ i = 48 ∨ i = 49 ∨ i = 50 ∨ i = 51 ∨ i = 52 ∨ i = 53 ∨ i = 54 ∨ i = 55 ∨ i = 56 ∨ i = 57 ∨ i = 58 ∨ i = 59 := by omega
  rcases all with rfl | rfl | rfl | rfl | rfl | rfl | rfl | rfl | rfl | rfl | rfl | rfl | rfl | rfl | rfl | rfl | rfl | rfl | rfl | rfl | rfl | rfl | rfl | rfl | rfl | rfl | rfl | rfl | rfl | rfl | rfl | rfl | rfl | rfl | rfl | rfl | rfl | rfl | rfl | rfl | rfl | rfl | rfl | rfl | rfl | rfl | rfl | rfl | rfl | rfl | rfl | rfl | rfl | rfl | rfl | rfl | rfl | rfl | rfl | rfl
  · refine wpAny_bind (m := retStr (two 0)) (wpAny_bind (wpAny_mkStr (wpAny_pure (wpAny_pure ?_)) (by decide +kernel)))
    dsimp only
    exact wpAny_bind (wpAny_isInstance (typeIs_str _ _ _) isSubtype_str_str (wpAny_pure q))
  · refine wpAny_bind (m := retStr (two 1)) (wpAny_bind (wpAny_mkStr (wpAny_pure (wpAny_pure ?_)) (by decide +kernel)))
    dsimp only
    exact wpAny_bind (wpAny_isInstance (typeIs_str _ _ _) isSubtype_str_str (wpAny_pure q))
  · refine wpAny_bind (m := retStr (two 2)) (wpAny_bind (wpAny_mkStr (wpAny_pure (wpAny_pure ?_)) (by decide +kernel)))
    dsimp only
    exact wpAny_bind (wpAny_isInstance (typeIs_str _ _ _) isSubtype_str_str (wpAny_pure q))
  · refine wpAny_bind (m := retStr (two 3)) (wpAny_bind (wpAny_mkStr (wpAny_pure (wpAny_pure ?_)) (by decide +kernel)))
    dsimp only
    exact wpAny_bind (wpAny_isInstance (typeIs_str _ _ _) isSubtype_str_str (wpAny_pure q))
  · refine wpAny_bind (m := retStr (two 4)) (wpAny_bind (wpAny_mkStr (wpAny_pure (wpAny_pure ?_)) (by decide +kernel)))
    dsimp only
    exact wpAny_bind (wpAny_isInstance (typeIs_str _ _ _) isSubtype_str_str (wpAny_pure q))
  · refine wpAny_bind (m := retStr (two 5)) (wpAny_bind (wpAny_mkStr (wpAny_pure (wpAny_pure ?_)) (by decide +kernel)))
    dsimp only
    exact wpAny_bind (wpAny_isInstance (typeIs_str _ _ _) isSubtype_str_str (wpAny_pure q))
  · refine wpAny_bind (m := retStr (two 6)) (wpAny_bind (wpAny_mkStr (wpAny_pure (wpAny_pure ?_)) (by decide +kernel)))
    dsimp only
    exact wpAny_bind (wpAny_isInstance (typeIs_str _ _ _) isSubtype_str_str (wpAny_pure q))
  · refine wpAny_bind (m := retStr (two 7)) (wpAny_bind (wpAny_mkStr (wpAny_pure (wpAny_pure ?_)) (by decide +kernel)))
    dsimp only
    exact wpAny_bind (wpAny_isInstance (typeIs_str _ _ _) isSubtype_str_str (wpAny_pure q))
  · refine wpAny_bind (m := retStr (two 8)) (wpAny_bind (wpAny_mkStr (wpAny_pure (wpAny_pure ?_)) (by decide +kernel)))
    dsimp only
    exact wpAny_bind (wpAny_isInstance (typeIs_str _ _ _) isSubtype_str_str (wpAny_pure q))
  · refine wpAny_bind (m := retStr (two 9)) (wpAny_bind (wpAny_mkStr (wpAny_pure (wpAny_pure ?_)) (by decide +kernel)))
    dsimp only
    exact wpAny_bind (wpAny_isInstance (typeIs_str _ _ _) isSubtype_str_str (wpAny_pure q))
  · refine wpAny_bind (m := retStr (two 10)) (wpAny_bind (wpAny_mkStr (wpAny_pure (wpAny_pure ?_)) (by decide +kernel)))
    dsimp only
    exact wpAny_bind (wpAny_isInstance (typeIs_str _ _ _) isSubtype_str_str (wpAny_pure q))
  · refine wpAny_bind (m := retStr (two 11)) (wpAny_bind (wpAny_mkStr (wpAny_pure (wpAny_pure ?_)) (by decide +kernel)))
    dsimp only
    exact wpAny_bind (wpAny_isInstance (typeIs_str _ _ _) isSubtype_str_str (wpAny_pure q))
  · refine wpAny_bind (m := retStr (two 12)) (wpAny_bind (wpAny_mkStr (wpAny_pure (wpAny_pure ?_)) (by decide +kernel)))
    dsimp only
    exact wpAny_bind (wpAny_isInstance (typeIs_str _ _ _) isSubtype_str_str (wpAny_pure q))
  · refine wpAny_bind (m := retStr (two 13)) (wpAny_bind (wpAny_mkStr (wpAny_pure (wpAny_pure ?_)) (by decide +kernel)))
    dsimp only
    exact wpAny_bind (wpAny_isInstance (typeIs_str _ _ _) isSubtype_str_str (wpAny_pure q))
  · refine wpAny_bind (m := retStr (two 14)) (wpAny_bind (wpAny_mkStr (wpAny_pure (wpAny_pure ?_)) (by decide +kernel)))
    dsimp only
    exact wpAny_bind (wpAny_isInstance (typeIs_str _ _ _) isSubtype_str_str (wpAny_pure q))
  · refine wpAny_bind (m := retStr (two 15)) (wpAny_bind (wpAny_mkStr (wpAny_pure (wpAny_pure ?_)) (by decide +kernel)))
    dsimp only
    exact wpAny_bind (wpAny_isInstance (typeIs_str _ _ _) isSubtype_str_str (wpAny_pure q))
  · refine wpAny_bind (m := retStr (two 16)) (wpAny_bind (wpAny_mkStr (wpAny_pure (wpAny_pure ?_)) (by decide +kernel)))
    dsimp only
    exact wpAny_bind (wpAny_isInstance (typeIs_str _ _ _) isSubtype_str_str (wpAny_pure q))
  · refine wpAny_bind (m := retStr (two 17)) (wpAny_bind (wpAny_mkStr (wpAny_pure (wpAny_pure ?_)) (by decide +kernel)))
    dsimp only
    exact wpAny_bind (wpAny_isInstance (typeIs_str _ _ _) isSubtype_str_str (wpAny_pure q))
  · refine wpAny_bind (m := retStr (two 18)) (wpAny_bind (wpAny_mkStr (wpAny_pure (wpAny_pure ?_)) (by decide +kernel)))
    dsimp only
    exact wpAny_bind (wpAny_isInstance (typeIs_str _ _ _) isSubtype_str_str (wpAny_pure q))
  · refine wpAny_bind (m := retStr (two 19)) (wpAny_bind (wpAny_mkStr (wpAny_pure (wpAny_pure ?_)) (by decide +kernel)))
    dsimp only
    exact wpAny_bind (wpAny_isInstance (typeIs_str _ _ _) isSubtype_str_str (wpAny_pure q))
  · refine wpAny_bind (m := retStr (two 20)) (wpAny_bind (wpAny_mkStr (wpAny_pure (wpAny_pure ?_)) (by decide +kernel)))
    dsimp only
    exact wpAny_bind (wpAny_isInstance (typeIs_str _ _ _) isSubtype_str_str (wpAny_pure q))
  · refine wpAny_bind (m := retStr (two 21)) (wpAny_bind (wpAny_mkStr (wpAny_pure (wpAny_pure ?_)) (by decide +kernel)))
    dsimp only
    exact wpAny_bind (wpAny_isInstance (typeIs_str _ _ _) isSubtype_str_str (wpAny_pure q))
  · refine wpAny_bind (m := retStr (two 22)) (wpAny_bind (wpAny_mkStr (wpAny_pure (wpAny_pure ?_)) (by decide +kernel)))
    dsimp only
    exact wpAny_bind (wpAny_isInstance (typeIs_str _ _ _) isSubtype_str_str (wpAny_pure q))
  · refine wpAny_bind (m := retStr (two 23)) (wpAny_bind (wpAny_mkStr (wpAny_pure (wpAny_pure ?_)) (by decide +kernel)))
    dsimp only
    exact wpAny_bind (wpAny_isInstance (typeIs_str _ _ _) isSubtype_str_str (wpAny_pure q))
  · refine wpAny_bind (m := retStr (two 24)) (wpAny_bind (wpAny_mkStr (wpAny_pure (wpAny_pure ?_)) (by decide +kernel)))
    dsimp only
    exact wpAny_bind (wpAny_isInstance (typeIs_str _ _ _) isSubtype_str_str (wpAny_pure q))
  · refine wpAny_bind (m := retStr (two 25)) (wpAny_bind (wpAny_mkStr (wpAny_pure (wpAny_pure ?_)) (by decide +kernel)))
    dsimp only
    exact wpAny_bind (wpAny_isInstance (typeIs_str _ _ _) isSubtype_str_str (wpAny_pure q))
  · refine wpAny_bind (m := retStr (two 26)) (wpAny_bind (wpAny_mkStr (wpAny_pure (wpAny_pure ?_)) (by decide +kernel)))
    dsimp only
    exact wpAny_bind (wpAny_isInstance (typeIs_str _ _ _) isSubtype_str_str (wpAny_pure q))
  · refine wpAny_bind (m := retStr (two 27)) (wpAny_bind (wpAny_mkStr (wpAny_pure (wpAny_pure ?_)) (by decide +kernel)))
    dsimp only
    exact wpAny_bind (wpAny_isInstance (typeIs_str _ _ _) isSubtype_str_str (wpAny_pure q))
  · refine wpAny_bind (m := retStr (two 28)) (wpAny_bind (wpAny_mkStr (wpAny_pure (wpAny_pure ?_)) (by decide +kernel)))
    dsimp only
    exact wpAny_bind (wpAny_isInstance (typeIs_str _ _ _) isSubtype_str_str (wpAny_pure q))
  · refine wpAny_bind (m := retStr (two 29)) (wpAny_bind (wpAny_mkStr (wpAny_pure (wpAny_pure ?_)) (by decide +kernel)))
    dsimp only
    exact wpAny_bind (wpAny_isInstance (typeIs_str _ _ _) isSubtype_str_str (wpAny_pure q))
  · refine wpAny_bind (m := retStr (two 30)) (wpAny_bind (wpAny_mkStr (wpAny_pure (wpAny_pure ?_)) (by decide +kernel)))
    dsimp only
    exact wpAny_bind (wpAny_isInstance (typeIs_str _ _ _) isSubtype_str_str (wpAny_pure q))
  · refine wpAny_bind (m := retStr (two 31)) (wpAny_bind (wpAny_mkStr (wpAny_pure (wpAny_pure ?_)) (by decide +kernel)))
    dsimp only
    exact wpAny_bind (wpAny_isInstance (typeIs_str _ _ _) isSubtype_str_str (wpAny_pure q))
  · refine wpAny_bind (m := retStr (two 32)) (wpAny_bind (wpAny_mkStr (wpAny_pure (wpAny_pure ?_)) (by decide +kernel)))
    dsimp only
    exact wpAny_bind (wpAny_isInstance (typeIs_str _ _ _) isSubtype_str_str (wpAny_pure q))
  · refine wpAny_bind (m := retStr (two 33)) (wpAny_bind (wpAny_mkStr (wpAny_pure (wpAny_pure ?_)) (by decide +kernel)))
    dsimp only
    exact wpAny_bind (wpAny_isInstance (typeIs_str _ _ _) isSubtype_str_str (wpAny_pure q))
  · refine wpAny_bind (m := retStr (two 34)) (wpAny_bind (wpAny_mkStr (wpAny_pure (wpAny_pure ?_)) (by decide +kernel)))
    dsimp only
    exact wpAny_bind (wpAny_isInstance (typeIs_str _ _ _) isSubtype_str_str (wpAny_pure q))
  · refine wpAny_bind (m := retStr (two 35)) (wpAny_bind (wpAny_mkStr (wpAny_pure (wpAny_pure ?_)) (by decide +kernel)))
    dsimp only
    exact wpAny_bind (wpAny_isInstance (typeIs_str _ _ _) isSubtype_str_str (wpAny_pure q))
  · refine wpAny_bind (m := retStr (two 36)) (wpAny_bind (wpAny_mkStr (wpAny_pure (wpAny_pure ?_)) (by decide +kernel)))
    dsimp only
    exact wpAny_bind (wpAny_isInstance (typeIs_str _ _ _) isSubtype_str_str (wpAny_pure q))
  · refine wpAny_bind (m := retStr (two 37)) (wpAny_bind (wpAny_mkStr (wpAny_pure (wpAny_pure ?_)) (by decide +kernel)))
    dsimp only
    exact wpAny_bind (wpAny_isInstance (typeIs_str _ _ _) isSubtype_str_str (wpAny_pure q))
  · refine wpAny_bind (m := retStr (two 38)) (wpAny_bind (wpAny_mkStr (wpAny_pure (wpAny_pure ?_)) (by decide +kernel)))
    dsimp only
    exact wpAny_bind (wpAny_isInstance (typeIs_str _ _ _) isSubtype_str_str (wpAny_pure q))
  · refine wpAny_bind (m := retStr (two 39)) (wpAny_bind (wpAny_mkStr (wpAny_pure (wpAny_pure ?_)) (by decide +kernel)))
    dsimp only
    exact wpAny_bind (wpAny_isInstance (typeIs_str _ _ _) isSubtype_str_str (wpAny_pure q))
  · refine wpAny_bind (m := retStr (two 40)) (wpAny_bind (wpAny_mkStr (wpAny_pure (wpAny_pure ?_)) (by decide +kernel)))
    dsimp only
    exact wpAny_bind (wpAny_isInstance (typeIs_str _ _ _) isSubtype_str_str (wpAny_pure q))
  · refine wpAny_bind (m := retStr (two 41)) (wpAny_bind (wpAny_mkStr (wpAny_pure (wpAny_pure ?_)) (by decide +kernel)))
    dsimp only
    exact wpAny_bind (wpAny_isInstance (typeIs_str _ _ _) isSubtype_str_str (wpAny_pure q))
  · refine wpAny_bind (m := retStr (two 42)) (wpAny_bind (wpAny_mkStr (wpAny_pure (wpAny_pure ?_)) (by decide +kernel)))
    dsimp only
    exact wpAny_bind (wpAny_isInstance (typeIs_str _ _ _) isSubtype_str_str (wpAny_pure q))
  · refine wpAny_bind (m := retStr (two 43)) (wpAny_bind (wpAny_mkStr (wpAny_pure (wpAny_pure ?_)) (by decide +kernel)))
    dsimp only
    exact wpAny_bind (wpAny_isInstance (typeIs_str _ _ _) isSubtype_str_str (wpAny_pure q))
  · refine wpAny_bind (m := retStr (two 44)) (wpAny_bind (wpAny_mkStr (wpAny_pure (wpAny_pure ?_)) (by decide +kernel)))
    dsimp only
    exact wpAny_bind (wpAny_isInstance (typeIs_str _ _ _) isSubtype_str_str (wpAny_pure q))
  · refine wpAny_bind (m := retStr (two 45)) (wpAny_bind (wpAny_mkStr (wpAny_pure (wpAny_pure ?_)) (by decide +kernel)))
    dsimp only
    exact wpAny_bind (wpAny_isInstance (typeIs_str _ _ _) isSubtype_str_str (wpAny_pure q))
  · refine wpAny_bind (m := retStr (two 46)) (wpAny_bind (wpAny_mkStr (wpAny_pure (wpAny_pure ?_)) (by decide +kernel)))
    dsimp only
    exact wpAny_bind (wpAny_isInstance (typeIs_str _ _ _) isSubtype_str_str (wpAny_pure q))
  · refine wpAny_bind (m := retStr (two 47)) (wpAny_bind (wpAny_mkStr (wpAny_pure (wpAny_pure ?_)) (by decide +kernel)))
    dsimp only
    exact wpAny_bind (wpAny_isInstance (typeIs_str _ _ _) isSubtype_str_str (wpAny_pure q))
  · refine wpAny_bind (m := retStr (two 48)) (wpAny_bind (wpAny_mkStr (wpAny_pure (wpAny_pure ?_)) (by decide +kernel)))
    dsimp only
    exact wpAny_bind (wpAny_isInstance (typeIs_str _ _ _) isSubtype_str_str (wpAny_pure q))
  · refine wpAny_bind (m := retStr (two 49)) (wpAny_bind (wpAny_mkStr (wpAny_pure (wpAny_pure ?_)) (by decide +kernel)))
    dsimp only
    exact wpAny_bind (wpAny_isInstance (typeIs_str _ _ _) isSubtype_str_str (wpAny_pure q))
  · refine wpAny_bind (m := retStr (two 50)) (wpAny_bind (wpAny_mkStr (wpAny_pure (wpAny_pure ?_)) (by decide +kernel)))
    dsimp only
    exact wpAny_bind (wpAny_isInstance (typeIs_str _ _ _) isSubtype_str_str (wpAny_pure q))
  · refine wpAny_bind (m := retStr (two 51)) (wpAny_bind (wpAny_mkStr (wpAny_pure (wpAny_pure ?_)) (by decide +kernel)))
    dsimp only
    exact wpAny_bind (wpAny_isInstance (typeIs_str _ _ _) isSubtype_str_str (wpAny_pure q))
  · refine wpAny_bind (m := retStr (two 52)) (wpAny_bind (wpAny_mkStr (wpAny_pure (wpAny_pure ?_)) (by decide +kernel)))
    dsimp only
    exact wpAny_bind (wpAny_isInstance (typeIs_str _ _ _) isSubtype_str_str (wpAny_pure q))
  · refine wpAny_bind (m := retStr (two 53)) (wpAny_bind (wpAny_mkStr (wpAny_pure (wpAny_pure ?_)) (by decide +kernel)))
    dsimp only
    exact wpAny_bind (wpAny_isInstance (typeIs_str _ _ _) isSubtype_str_str (wpAny_pure q))
  · refine wpAny_bind (m := retStr (two 54)) (wpAny_bind (wpAny_mkStr (wpAny_pure (wpAny_pure ?_)) (by decide +kernel)))
    dsimp only
    exact wpAny_bind (wpAny_isInstance (typeIs_str _ _ _) isSubtype_str_str (wpAny_pure q))
  · refine wpAny_bind (m := retStr (two 55)) (wpAny_bind (wpAny_mkStr (wpAny_pure (wpAny_pure ?_)) (by decide +kernel)))
    dsimp only
    exact wpAny_bind (wpAny_isInstance (typeIs_str _ _ _) isSubtype_str_str (wpAny_pure q))
  · refine wpAny_bind (m := retStr (two 56)) (wpAny_bind (wpAny_mkStr (wpAny_pure (wpAny_pure ?_)) (by decide +kernel)))
    dsimp only
    exact wpAny_bind (wpAny_isInstance (typeIs_str _ _ _) isSubtype_str_str (wpAny_pure q))
  · refine wpAny_bind (m := retStr (two 57)) (wpAny_bind (wpAny_mkStr (wpAny_pure (wpAny_pure ?_)) (by decide +kernel)))
    dsimp only
    exact wpAny_bind (wpAny_isInstance (typeIs_str _ _ _) isSubtype_str_str (wpAny_pure q))
  · refine wpAny_bind (m := retStr (two 58)) (wpAny_bind (wpAny_mkStr (wpAny_pure (wpAny_pure ?_)) (by decide +kernel)))
    dsimp only
    exact wpAny_bind (wpAny_isInstance (typeIs_str _ _ _) isSubtype_str_str (wpAny_pure q))
  · refine wpAny_bind (m := retStr (two 59)) (wpAny_bind (wpAny_mkStr (wpAny_pure (wpAny_pure ?_)) (by decide +kernel)))
    dsimp only
    exact wpAny_bind (wpAny_isInstance (typeIs_str _ _ _) isSubtype_str_str (wpAny_pure q))
end
section
variable {X : Cx} {M : List Addr} {σ : L2.St} {H : Hp} {e : Expr} {pos p1 p2 : Pos} {j : Nat}
def tFmt2 (te : TE) : TE := fun σ H Q => te σ H fun x H1 => ∃ i : Int, x = .int i ∧ 0 ≤ i ∧ i < 60 ∧ Q (.str (two i)) H1
theorem pe_fmt2 {te : TE} (he : PE X e te) : PE X (.FormattedValue e (-1) (some (.JoinedStr [.Constant (.str s02) j p1] p2)) pos) (tFmt2 te) := by
  refine ⟨fun pins s σ H Q I h => ?_⟩
  refine wpAny_FormattedValue_spec (thn (he.run pins s σ H _ I h) fun v s1 hv => ?_)
  obtain ⟨x, H1, I1, r1, i, rfl, h0, h1, q⟩ := hv
  obtain ⟨t, rfl⟩ := r1
  refine wpAny_mono ((pe_joined1 (X := X) pe_str).run pins s1 σ H1 (fun v H2 => v = .str s02 ∧ H2 = H1) I1 ⟨rfl, rfl⟩) (fun u s2 hu => ?_) fun _ _ z => z
  obtain ⟨y, H2, I2, r2, rfl, rfl⟩ := hu
  obtain ⟨t2, rfl⟩ := r2
  exact ⟨s02, t2, rfl, field_02 h0 h1 ⟨.str (two i), H2, I2.tok _, ⟨_, rfl⟩, q⟩⟩
end
end Dl

set_option Elab.async false
set_option linter.all false
set_option maxRecDepth 100000
set_option maxHeartbeats 4000000
/-! Data layer, part 6: sets of whole numbers by a comprehension, sorted; repr of one value; sums; dicts by texts. -/
namespace Dl
open PySem PySem.Spec PyProof.Rows L2
section
variable {X : Cx}
/-- {e for t in it if ..}, e a whole number; p: the set -/
def tSetI (w : World) (wi : TI) (g : TG) (tt : TT) (te : TE) (vs : List Nat) : TE := fun σ H Q => wi σ H fun J Ha => ∀ p, Ha p = none → ∃ Z : Nat → Nat → Hp → Prop,
  (∃ k, Z 0 k (upd Ha p (SetO w p (fun _ => false) 0))) ∧ ∀ i k Hb, Z i k Hb → (J.stop i Hb ∧ Q (.ref p) Hb) ∨ (J.go i Hb ∧ ∃ Nx : Hp → Prop, (∀ Hc, Nx Hc → ∃ j, j < k ∧ Z (i + 1) j Hc) ∧
    ∀ x Hc, J.yld i Hb x Hc → g x (wipe σ vs) Hc fun τ Hd => wipe τ vs = wipe σ vs ∧ tt τ Hd fun b He =>
      if b = true then te τ He fun y Hf => ∃ (n : Int) (S : Int → Bool) (c : Nat), y = .int n ∧ Hf p = some (SetO w p S c) ∧ c + 1 < scanBound ∧ Nx (upd Hf p (SetO w p (fun j => S j || decide (j = n)) (if S n = true then c else c + 1))) else Nx He)
theorem setI_run {ps : List (Addr × Obj)} {z : Shared} {σ : L2.St} {H : Hp} {Q : VK} {elt tg iter : Expr} {ifs : List Expr} {scope : Scope} {own : List (PySem.Str × Nat)} {pos pf : Pos} {wi : TI} {g : TG} {tt : TT} {te : TE} {Qf : Value → Shared → Prop}
    (hc : X.calm = true) (hN : X.N.Nodup) (inv : Inv X ps σ H z) (hi : PI X tg iter wi) (ok : BlkOk X.N X.env.scope scope own)
    (Pg : ∀ (y : Shared) (Hy : Hp) (c : Addr) (l : List (PySem.Str × Addr)) (q : List Addr), PG (X.blk y Hy scope (compEnvC scope l c X.env) q) tg g)
    (Pt : ∀ (y : Shared) (Hy : Hp) (c : Addr) (l : List (PySem.Str × Addr)) (q : List Addr), PTs (X.blk y Hy scope (compEnvC scope l c X.env) q) ifs tt)
    (Pe : ∀ (y : Shared) (Hy : Hp) (c : Addr) (l : List (PySem.Str × Addr)) (q : List Addr), PE (X.blk y Hy scope (compEnvC scope l c X.env) q) elt te)
    (hs : ∀ x, foldedSetIterable iter X.env x = pure x) (owed : tSetI X.w wi g tt te (own.map (·.2)) σ H Q)
    (back : ∀ p c y m Hy, Inv X ps σ Hy y → Q (.ref p) Hy → y.heap.Ns c m → FpOk X ps Hy c → compPost (model X.prog X.w) X.A X.xe none Qf (.ref p) c (.ok .next) y) :
    wpAny (model X.prog X.w) X.A (comprehension (.SetComp elt [⟨tg, iter, ifs, 0⟩] scope pos) scope X.env pf (newSet (.type "set")) false (eval iter X.env) none) Qf X.xe z := by
  have cells : ∀ y ∈ scope.names, y.2 = .free → ∃ c, X.env.cells.lookup y.1 = some c := fun y hy e => (ok.free y hy e).elim (fun k => inv.ok.has _ (.inl k)) (fun k => inv.ok.has _ (.inr k))
  have names : ∀ y ∈ scope.names, y.2 = .local → scope.names.lookup y.1 = some .local := fun y hy e => by
    have u := ok.uniq y hy
    rw [e] at u
    exact u
  refine wpAny_comprehension_free (use := none) rfl hs (closure_ok cells) ok.kind names (thn (hi.run ps z σ H _ inv owed) fun _ za ha => thn ha fun _ zb hb => ?_)
  obtain ⟨it, fp, tn, J, Hb, rfl, invB, T, t0, fB, body⟩ := hb
  refine PpSet.newSet_ok (newEnv_comp ?_)
  generalize hp : zb.heap.objs.size = p
  have free : Hb p = none := invB.hok.fresh (Nat.le_of_eq hp)
  obtain ⟨Z, ⟨k0, start⟩, turn⟩ := body p free
  generalize hcz : ({ zb with heap := zb.heap.push { cls := .type "set", dict := none, data := .set #[] 0 (.fresh 0 0 (!X.w.params.followText "set-order")) } } : Shared) = zc
  have eqz : zc.heap = zb.heap.push { cls := .type "set", dict := none, data := .set #[] 0 (.fresh 0 0 (!X.w.params.followText "set-order")) } := by rw [← hcz]
  generalize hHc : upd Hb p (SetO X.w p (fun _ => false) 0) = Hc at start
  have invC : Inv X ps σ Hc zc := by
    subst hHc
    subst hcz
    refine invB.laid (t' := zb.toks) (fun _ _ e => Heap.get?_push_of_some _ e) (Nat.le_of_eq hp) ?_
    subst hp
    exact setO_new (setR_fresh X.w)
  have inB : ∀ b ∈ fp, b < zb.heap.objs.size := fun b hb => let ⟨_, e, _⟩ := T.obj _ _ t0 b hb; Heap.lt_size e
  have fC : ∀ b ∈ fp, FpOk X ps Hc b ∧ b < zc.heap.objs.size := fun b hb => by
    have lt := inB b hb
    have ne : b ≠ p := by rw [← hp]; exact Nat.ne_of_lt lt
    have e : Hc b = none := by rw [← hHc, upd_ne ne]; exact (fB b hb).1
    exact ⟨⟨e, (fB b hb).2⟩, by rw [eqz, Heap.size_push]; exact Nat.lt_succ_of_lt lt⟩
  have t1 : tn 0 zc.heap := T.keep _ _ _ t0 fun _ _ _ e => by rw [eqz]; exact Heap.get?_push_of_some _ e
  have invD := block_start invC ok hN fC
  have rg := Pg zc Hc zc.heap.objs.size (cellsFrom (zc.heap.objs.size + 1) scope.names (cloFrom X.env.cells scope.names [])) fp
  have rt := Pt zc Hc zc.heap.objs.size (cellsFrom (zc.heap.objs.size + 1) scope.names (cloFrom X.env.cells scope.names [])) fp
  have re := Pe zc Hc zc.heap.objs.size (cellsFrom (zc.heap.objs.size + 1) scope.names (cloFrom X.env.cells scope.names [])) fp
  show codeAny _ _ (.compStart (.SetComp elt [⟨tg, iter, ifs, 0⟩] scope pos) 0 (.ref it) (.ref p) (compEnvC scope (cellsFrom (zc.heap.objs.size + 1) scope.names (cloFrom X.env.cells scope.names [])) zc.heap.objs.size X.env))
    (compPost (model X.prog X.w) X.A X.xe none Qf (.ref p) zc.heap.objs.size) { zc with heap := pushCells (zc.heap.push { cls := .type "dict", data := .dict #[] }) scope.names }
  have none0 : ∀ b ∈ fp, Hc b = none := fun b hb => (fC b hb).1.1
  generalize hen : compEnvC scope (cellsFrom (zc.heap.objs.size + 1) scope.names (cloFrom X.env.cells scope.names [])) zc.heap.objs.size X.env = en at invD rg rt re ⊢
  have enl : en.locals = zc.heap.objs.size := by subst hen; rfl
  generalize hzd : ({ zc with heap := pushCells (zc.heap.push { cls := .type "dict", data := .dict #[] }) scope.names } : Shared) = zd at invD ⊢
  have t2 : tn 0 zd.heap := T.keep _ _ _ t1 fun _ _ _ e => by rw [← hzd]; exact pushCells_keeps _ _ _ _ (Heap.get?_push_of_some _ e)
  have still : ∀ {τ : L2.St} {Hx : Hp} {zx : Shared}, Inv (X.blk zc Hc scope en fp) [] τ Hx zx → (∀ b ∈ fp, Hx b = none) → ∀ b ∈ fp, FpOk (X.blk zc Hc scope en fp) [] Hx b := fun i n b hb =>
    ⟨n b hb, (i.ok.exf b hb).1, i.ok.exfs b hb, .inl hb, fun x c e => (i.ok.exf b hb).2 x c e, fun q hq => by
      have hq : q ∈ ([] : List (Addr × Obj)) ++ [] := hq
      simp at hq⟩
  have laps : codeAny (model X.prog X.w) X.A (.compLoop (.SetComp elt [⟨tg, iter, ifs, 0⟩] scope pos) 0 (.ref it) (.ref p) en) (compPost (model X.prog X.w) X.A X.xe none Qf (.ref p) zc.heap.objs.size) zd := by
    refine PpSet.compLoopS_any (fun k zx => ∃ i Hx, Inv (X.blk zc Hc scope en fp) [] (wipe σ (own.map (·.2))) Hx zx ∧ tn i zx.heap ∧ (∀ b ∈ fp, Hx b = none) ∧ Z i k Hx) (fun k zx hx => ?_) k0 ⟨0, Hc, invD, t2, none0, start⟩
    obtain ⟨i, Hx, ix, tx, nx, zk⟩ := hx
    rcases turn i k Hx zk with ⟨st, done⟩ | ⟨go, Nx, toN, step⟩
    · refine thnF (T.done (X.blk zc Hc scope en fp) rfl rfl rfl hc i [] zx _ Hx (fun _ _ => False) ix (still ix nx) tx st) fun r zy hy => ?_
      obtain ⟨rfl, iy⟩ := hy
      have iz : Inv X ps σ Hx zy := invC.call' (ch := fp) iy.os iy.base iy.hok iy.bare fun b hb => ⟨(fC b hb).1.2.2.2.1, (fC b hb).1.2.1, (fC b hb).1.2.2.2.2.1, (fC b hb).1.2.2.2.2.2⟩
      have nC : Hx zc.heap.objs.size = none := by
        have q : Hx en.locals = none := iy.free
        rwa [enl] at q
      obtain ⟨m, hm, _⟩ := iy.loc
      have hm : zy.heap.Ns en.locals m := hm
      rw [enl] at hm
      exact back p _ zy m Hx iz done hm (invC.fpOk (Nat.le_refl _) nC)
    · refine thnF (T.item (X.blk zc Hc scope en fp) rfl rfl rfl hc i [] zx _ Hx (fun _ _ => False) ix (still ix nx) tx go) fun r zy hy => ?_
      obtain ⟨u, rfl, hy⟩ := hy
      refine thnF hy fun _ zz hz => ?_
      obtain ⟨x, Hz, iz, rz, yz, tz, nz⟩ := hz
      refine thnF (rg.run _ zz _ Hz x u _ (iz.pinned (still iz nz) (T.obj _ _ tz)) rz (step x Hz yz)) fun _ z1 h1 => ?_
      obtain ⟨τ, H1, i1, w1, q1⟩ := h1
      refine thnF (rt.run _ z1 τ H1 _ i1 q1) fun b z2 h2 => ?_
      obtain ⟨H2, i2, q2⟩ := h2
      have fin : ∀ {zf : Shared} {Hf : Hp}, Inv (X.blk zc Hc scope en fp) ([] ++ pinsAt fp zz.heap) τ Hf zf → Nx Hf → ∃ j, j < k ∧ ∃ i Hx, Inv (X.blk zc Hc scope en fp) [] (wipe σ (own.map (·.2))) Hx zf ∧ tn i zf.heap ∧ (∀ b ∈ fp, Hx b = none) ∧ Z i j Hx := fun {zf Hf} i' n' => by
        obtain ⟨j, hj, zj⟩ := toN Hf n'
        have kept : ∀ b ∈ fp, ∀ o, zz.heap.get? b = some o → zf.heap.get? b = some o ∧ Hf b = none := fun b hb o e => by
          have q := i'.pin (b, o) (List.mem_append_right _ (List.mem_append_right _ (mem_pinsAt hb e)))
          exact ⟨q.1, q.2.1⟩
        have len : (wipe σ (own.map (·.2))).length = τ.length := by rw [← w1, wipe_length]
        refine ⟨j, hj, i + 1, Hf, (i'.unpinned (pins := [])).weak len (fun a v e => by rw [← w1] at e; exact (wipe_some e).1), T.keep _ _ _ tz fun b hb o e => (kept b hb o e).1, fun b hb => ?_, zj⟩
        obtain ⟨o, e, _⟩ := T.obj _ _ tz b hb
        exact (kept b hb o e).2
      cases b with
      | false =>
        rw [if_neg Bool.false_ne_true] at q2 ⊢
        exact fin i2 q2
      | true =>
        rw [if_pos rfl] at q2 ⊢
        refine thnF (re.run _ z2 τ H2 _ i2 q2) fun v z3 h3 => ?_
        obtain ⟨yv, H3, i3, r3, n, S, c, rfl, hD, room, nx3⟩ := h3
        have hv : ∃ t, v = Value.int n t := r3
        obtain ⟨t, rfl⟩ := hv
        exact setR_add (setO_get (X := X.blk zc Hc scope en fp) i3 hD) room fun h' sb new => by
          have ex : ∃ o, h'.get? p = some o := let ⟨o, _, _, _, ho, _⟩ := new; ⟨o, ho⟩
          exact fin (i3.write (e := p) (t' := z3.toks + 1) (by rw [hD]; trivial) (.inl rfl) (fun b o hb ho => (sb.2 b hb).trans ho) ex (setO_new new)) nx3
  exact PpSet.codeAny_compStart_set laps (T.self X.A 0 _ _ _ t2 laps)
theorem pe_setI {elt tg iter : Expr} {ifs : List Expr} {scope : Scope} {own : List (PySem.Str × Nat)} {pos : Pos} {wi : TI} {g : TG} {tt : TT} {te : TE} (hc : X.calm = true) (hN : X.N.Nodup) (hi : PI X tg iter wi) (ok : BlkOk X.N X.env.scope scope own)
    (Pg : ∀ (y : Shared) (Hy : Hp) (c : Addr) (l : List (PySem.Str × Addr)) (q : List Addr), PG (X.blk y Hy scope (compEnvC scope l c X.env) q) tg g)
    (Pt : ∀ (y : Shared) (Hy : Hp) (c : Addr) (l : List (PySem.Str × Addr)) (q : List Addr), PTs (X.blk y Hy scope (compEnvC scope l c X.env) q) ifs tt)
    (Pe : ∀ (y : Shared) (Hy : Hp) (c : Addr) (l : List (PySem.Str × Addr)) (q : List Addr), PE (X.blk y Hy scope (compEnvC scope l c X.env) q) elt te)
    (hs : ∀ x, foldedSetIterable iter X.env x = pure x) : PE X (.SetComp elt [⟨tg, iter, ifs, 0⟩] scope pos) (tSetI X.w wi g tt te (own.map (·.2))) := by
  refine ⟨fun ps z σ H Q inv h => ?_⟩
  rw [PpSet.eval_SetComp]
  refine setI_run hc hN inv hi ok Pg Pt Pe hs h fun p c y m Hy iy q hm fp => ?_
  obtain ⟨a0, a1, a2, a3, a4, a5⟩ := fp
  exact ⟨m, hm, fun _ sb => ⟨.ref p, Hy, iy.turned (t' := y.toks) (fun b o hb e => (sb.2 b hb).trans e) a0 a1 a3 a4 a5, rfl, q⟩⟩
end
end Dl

set_option Elab.async false
set_option linter.all false
set_option maxRecDepth 100000
set_option maxHeartbeats 4000000
/-! Data layer, part 7: sorted({..}), sorted, sum, repr of one value, a chain of comparisons, {..}.get(..), comprehensions over range. -/
namespace Dl
open PySem PySem.Spec PyProof.Rows L2
/-- two strictly ascending lists with the same members -/
theorem asc_eq : ∀ {xs ys : List Int}, xs.Pairwise (· < ·) → ys.Pairwise (· < ·) → (∀ k, k ∈ xs ↔ k ∈ ys) → xs = ys
  | [], [], _, _, _ => rfl
  | [], y :: ys, _, _, h => by have := (h y).mpr (List.mem_cons_self ..); simp at this
  | x :: xs, [], _, _, h => by have := (h x).mp (List.mem_cons_self ..); simp at this
  | x :: xs, y :: ys, hx, hy, h => by
    obtain ⟨hx1, hx2⟩ := List.pairwise_cons.mp hx
    obtain ⟨hy1, hy2⟩ := List.pairwise_cons.mp hy
    have e : x = y := by
      have a := (h x).mp (List.mem_cons_self ..)
      have b := (h y).mpr (List.mem_cons_self ..)
      rcases List.mem_cons.mp a with a | a
      · exact a
      · rcases List.mem_cons.mp b with b | b
        · exact b.symm
        · have := hx1 y b; have := hy1 x a; omega
    subst e
    rw [asc_eq hx2 hy2 fun k => ?_]
    constructor
    · intro q
      rcases List.mem_cons.mp ((h k).mp (List.mem_cons_of_mem _ q)) with z | z
      · have := hx1 k q; omega
      · exact z
    · intro q
      rcases List.mem_cons.mp ((h k).mpr (List.mem_cons_of_mem _ q)) with z | z
      · have := hy1 k q; omega
      · exact z
theorem asc_of_le : ∀ {xs : List Int}, xs.Pairwise (· ≤ ·) → xs.Nodup → xs.Pairwise (· < ·)
  | [], _, _ => .nil
  | x :: xs, h, n => by
    obtain ⟨h1, h2⟩ := List.pairwise_cons.mp h
    obtain ⟨n1, n2⟩ := List.nodup_cons.mp n
    refine List.pairwise_cons.mpr ⟨fun y hy => ?_, asc_of_le h2 n2⟩
    have := h1 y hy
    have : x ≠ y := fun z => n1 (z ▸ hy)
    omega
theorem ints_dq {K : PySem.W.Frag} {H : Hp} : ∀ ns : List Int, DqAll K H (ns.map V.int) (ns.map PyData.int)
  | [] => .nil
  | n :: ns => .cons (.int n) (ints_dq ns)
theorem ints_v {K : PySem.W.Frag} {H : Hp} : ∀ {ns : List Int} {xs : List V}, DqAll K H xs (ns.map PyData.int) → xs = ns.map V.int
  | [], _, h => by cases h; rfl
  | n :: ns, _, h => by
    cases h with
    | cons a b => rw [dp_int a, ints_v b]; rfl
section
variable {X : Cx} {M : List Addr} {σ : L2.St} {H H' : Hp} {e a b c o elt tg iter : Expr} {ifs : List Expr} {scope : Scope} {own : List (Str × Nat)} {es : List Expr} {d d1 d2 : PyData} {ds ds2 : List PyData} {x : Str} {v : V} {pos p1 p2 p3 : Pos}
theorem set_list {w : World} {K : PySem.W.Frag} {a : Addr} {xs : List V} {g : TG} {tt : TT} {te : TE} {vs : List Nat} {Ha : Hp} {p : Addr} {Qd : Hp → Prop} (Pv : Nat → Hp → Prop) (h0 : Pv 0 (upd Ha p (SetO w p (fun _ => false) 0)))
    (hl : ∀ i Hb, i ≤ xs.length → Pv i Hb → SqL K Hb a xs)
    (hs : ∀ i x Hc, xs[i]? = some x → Pv i Hc → g x (wipe σ vs) Hc fun τ Hd => wipe τ vs = wipe σ vs ∧ tt τ Hd fun b He =>
      if b = true then te τ He fun y Hf => ∃ (n : Int) (S : Int → Bool) (c : Nat), y = .int n ∧ Hf p = some (SetO w p S c) ∧ c + 1 < scanBound ∧ Pv (i + 1) (upd Hf p (SetO w p (fun j => S j || decide (j = n)) (if S n = true then c else c + 1))) else Pv (i + 1) He)
    (hd : ∀ Hb, Pv xs.length Hb → Qd Hb) :
    ∃ Z : Nat → Nat → Hp → Prop, (∃ k, Z 0 k (upd Ha p (SetO w p (fun _ => false) 0))) ∧ ∀ i k Hb, Z i k Hb → ((Itl K a).stop i Hb ∧ Qd Hb) ∨ ((Itl K a).go i Hb ∧ ∃ Nx : Hp → Prop, (∀ Hc, Nx Hc → ∃ j, j < k ∧ Z (i + 1) j Hc) ∧
      ∀ x Hc, (Itl K a).yld i Hb x Hc → g x (wipe σ vs) Hc fun τ Hd => wipe τ vs = wipe σ vs ∧ tt τ Hd fun b He =>
        if b = true then te τ He fun y Hf => ∃ (n : Int) (S : Int → Bool) (c : Nat), y = .int n ∧ Hf p = some (SetO w p S c) ∧ c + 1 < scanBound ∧ Nx (upd Hf p (SetO w p (fun j => S j || decide (j = n)) (if S n = true then c else c + 1))) else Nx He) := by
  refine ⟨fun i k Hb => k + i = xs.length ∧ Pv i Hb, ⟨xs.length, rfl, h0⟩, fun i k Hb hz => ?_⟩
  obtain ⟨hk, hp⟩ := hz
  have here := hl i Hb (by omega) hp
  cases e : xs[i]? with
  | none =>
    have hge : xs.length ≤ i := List.getElem?_eq_none_iff.mp e
    have ei : i = xs.length := by omega
    subst ei
    exact .inl ⟨⟨xs, here, hge⟩, hd Hb hp⟩
  | some x0 =>
    have hlt := (List.getElem?_eq_some_iff.mp e).1
    refine .inr ⟨⟨xs, x0, here, e⟩, Pv (i + 1), fun Hc hc => ⟨k - 1, by omega, by omega, hc⟩, fun x Hc hy => ?_⟩
    obtain ⟨rfl, hy⟩ := hy
    exact hs i x _ (hy xs here) hp
/-- sorted({elt for tg in iter if ..}) -/
theorem xl_sortedSet (f : PyData → Option Int) (ns : List Int) (hm : X.mg "sorted" = none) (L : Live M H) (hN : X.N.Nodup) (hit : XD X M σ H iter (.list ds)) (ok : BlkOk X.N X.env.scope scope own) (hz : ds.length ≤ 60)
    (hst : ∀ p d v H1, d ∈ ds → H p = none → Same H H1 → Live (p :: M) H1 → Dq X.K (hid (p :: M) H1) v d → BG X scope tg v (wipe σ (own.map (·.2))) H1 fun τ H2 => wipe τ (own.map (·.2)) = wipe σ (own.map (·.2)) ∧ BT X scope ifs τ H2 fun k H3 =>
      Same H1 H3 ∧ ((k = true ∧ ∃ n, f d = some n ∧ BE X scope elt τ H3 fun y H4 => Same H3 H4 ∧ y = .int n) ∨ (k = false ∧ f d = none)))
    (hasc : ns.Pairwise (· < ·)) (hmem : ∀ k, k ∈ ns ↔ ∃ d ∈ ds, f d = some k) (hc : X.calm = true := by rfl) (hs : ∀ x, foldedSetIterable iter X.env x = pure x := by intro _; rfl) (hg : Gl X "sorted" := by rfl)
    (he : starEach [.SetComp elt [⟨tg, iter, ifs, 0⟩] scope pos] X.env = (false, eval (.SetComp elt [⟨tg, iter, ifs, 0⟩] scope pos) X.env) :: starEach [] X.env := by rfl) (hpl : (backTo p2 (starEach [] X.env)).any (·.1) = false := by rfl) :
    XL X M σ H (.Call (.Name "sorted" p1) [.SetComp elt [⟨tg, iter, ifs, 0⟩] scope pos] [] p2) (ns.map PyData.int) := fun H1 s1 Q q => by
  refine re_B (cr_sortedSet hc) (ra_1 ⟨_, pe_setI (own := own) hc hN (pi_list re_) ok (fun _ _ _ _ _ => bg_) (fun _ _ _ _ _ => bt_) (fun _ _ _ _ _ => be_) hs, hit H1 s1 _ fun v H2 s2 hv => ?_⟩ he) hm (by decide +kernel) hg (by decide) (by decide) he hpl
  obtain ⟨a, xs, rfl, ha, hx⟩ := dp_lst hv
  have L2' : Live M H2 := L.mono (s1.trans s2)
  refine ⟨a, rfl, ⟨xs, SqL.of (hid_le _ _ ha)⟩, fun p hp => ?_⟩
  have hp0 : H p = none := (s1.trans s2).free hp
  refine set_list (xs := xs) (a := a) (fun i H' => Same H2 H' ∧ ∃ S c, H' p = some (SetO X.w p S c) ∧ c ≤ i ∧ ∀ k, S k = true ↔ ∃ d ∈ ds.take i, f d = some k)
    ⟨same_new hp, fun _ => false, 0, upd_same, Nat.le_refl _, fun k => by simp⟩ (fun i H' _ z => SqL.of (z.1 _ _ (hid_le _ _ ha))) (fun i x H' hi z => ?_) (fun H' z => ?_)
  · obtain ⟨sH, S, n, hS, hn, hk⟩ := z
    obtain ⟨d, hd1, hd2⟩ := dpa_get' hx hi
    have hdm : d ∈ ds := List.mem_of_getElem? hd1
    have hi60 : i < 60 := by have := (List.getElem?_eq_some_iff.mp hd1).1; omega
    have etake : ds.take (i + 1) = ds.take i ++ [d] := by rw [List.take_add_one, hd1]; rfl
    have Lp : Live (p :: M) H' := fun b hb => by
      rcases List.mem_cons.mp hb with z | hb
      · subst z; rw [hS]; simp
      · exact L2'.mono sH b hb
    refine bg_mono (hst p d x H' hdm hp0 ((s1.trans s2).trans sH) Lp (hd2.up (hid_step hp sH))) fun τ Ha ⟨hw, hbt⟩ => ⟨hw, bt_mono hbt fun k Hb ⟨sb, hk'⟩ => ?_⟩
    rcases hk' with ⟨hk1, m, hf, hbe⟩ | ⟨hk1, hf⟩
    · subst hk1
      refine iteT (be_mono hbe fun y Hc ⟨sc, hy⟩ => ?_)
      have sd := sb.trans sc
      refine ⟨m, S, n, hy, sd _ _ hS, Nat.lt_of_lt_of_le (by omega : n + 1 < 4096) (Nat.le_refl _), fun b o e => ?_, fun j => S j || decide (j = m), (if S m = true then n else n + 1), upd_same, by split <;> omega, fun j => ?_⟩
      · rw [upd_ne (ne_of_none e hp)]
        exact sd _ _ (sH _ _ e)
      · rw [Bool.or_eq_true, decide_eq_true_eq, hk j, etake]
        constructor
        · rintro (⟨d', h1, h2⟩ | h)
          · exact ⟨d', List.mem_append_left _ h1, h2⟩
          · exact ⟨d, List.mem_append_right _ (List.mem_singleton.mpr rfl), by rw [hf, h]⟩
        · rintro ⟨d', h1, h2⟩
          rcases List.mem_append.mp h1 with h1 | h1
          · exact .inl ⟨d', h1, h2⟩
          · rw [List.mem_singleton.mp h1, hf] at h2
            exact .inr (Option.some.inj h2).symm
    · subst hk1
      refine iteF ⟨sH.trans sb, S, n, sb _ _ hS, by omega, fun j => ?_⟩
      rw [hk j, etake]
      constructor
      · rintro ⟨d', h1, h2⟩
        exact ⟨d', List.mem_append_left _ h1, h2⟩
      · rintro ⟨d', h1, h2⟩
        rcases List.mem_append.mp h1 with h1 | h1
        · exact ⟨d', h1, h2⟩
        · rw [List.mem_singleton.mp h1, hf] at h2
          cases h2
  · obtain ⟨sH, S, n, hS, hn, hk⟩ := z
    have hlen := dpa_len hx
    rw [hlen, List.take_length] at hk
    refine ⟨p, S, n, rfl, hS, by omega, fun ks l h1 h2 _ hl => ?_⟩
    have e : ks = ns := asc_eq h1 hasc fun k => (h2 k).trans ((hk k).trans (hmem k).symm)
    subst e
    refine q l _ _ ((s2.trans sH).trans (same_new hl)) ((s2.trans sH).free hl) upd_same ?_
    rw [hid_new (L2'.mono sH) hl]
    exact ints_dq ks
/-- sorted(l), l a list of different whole numbers -/
theorem xl_sortedI {ms : List Int} (ns : List Int) (hm : X.mg "sorted" = none) (L : Live M H) (ha : XD X M σ H e (.list (ms.map PyData.int))) (hz : ms.length < 64) (hnd : ms.Nodup) (hasc : ns.Pairwise (· < ·)) (hmem : ∀ k, k ∈ ns ↔ k ∈ ms) (hg : Gl X "sorted" := by rfl)
    (he : starEach [e] X.env = (false, eval e X.env) :: starEach [] X.env := by rfl) (hpl : (backTo p2 (starEach [] X.env)).any (·.1) = false := by rfl) : XL X M σ H (.Call (.Name "sorted" p1) [e] [] p2) (ns.map PyData.int) := fun H1 s1 Q q =>
  re_B cr_sorted (ra_1 (ha H1 s1 _ fun v H2 s2 hv => by
    obtain ⟨a, xs, rfl, ha, hx⟩ := dp_lst hv
    have ex := ints_v hx
    subst ex
    refine ⟨a, ms, rfl, SqL.of (hid_le _ _ ha), hz, fun ks l h1 h2 hl => ?_⟩
    have e : ks = ns := asc_eq (asc_of_le h2 (h1.nodup_iff.mpr hnd)) hasc fun k => h1.mem_iff.trans (hmem k).symm
    subst e
    refine q l _ _ (s2.trans (same_new hl)) (s2.free hl) upd_same ?_
    rw [hid_new (L.mono (s1.trans s2)) hl]
    exact ints_dq ks) he) hm (by decide +kernel) hg (by decide) (by decide) he hpl
/-- sum(l) -/
theorem xd_sum {ns : List Int} (hm : X.mg "sum" = none) (ha : XD X M σ H e (.list (ns.map PyData.int))) (hc : X.calm = true := by rfl) (hg : Gl X "sum" := by rfl)
    (he : starEach [e] X.env = (false, eval e X.env) :: starEach [] X.env := by rfl) (hpl : (backTo p2 (starEach [] X.env)).any (·.1) = false := by rfl) : XD X M σ H (.Call (.Name "sum" p1) [e] [] p2) (.int ns.sum) := fun H1 s1 Q q =>
  re_B (cr_sum hc) (ra_1 (ha H1 s1 _ fun v H2 s2 hv => by
    obtain ⟨a, xs, rfl, ha, hx⟩ := dp_lst hv
    have ex := ints_v hx
    subst ex
    exact ⟨a, ns, rfl, SqL.of (hid_le _ _ ha), q _ H2 s2 (.int _)⟩) he) hm (by decide +kernel) hg (by decide) (by decide) he hpl
/-! ### repr of one value -/
/-- a whole number of few digits, or None -/
def Plain (d : PyData) : Prop := d = .none ∨ ∃ i : Int, d = .int i ∧ i.natAbs.log2 < 1920
def txt : PyData → Str
  | .int i => Str.ofString (toString i)
  | _ => "None"
theorem call_reprN : CallR X (.builtin "repr") (fun xs H Q => xs = [.non] ∧ Q (.str "None") H) := by
  intro pins s σ H xs us Q I r h
  obtain ⟨rfl, q⟩ := h
  obtain ⟨u, rfl, rx⟩ := vals1 r
  cases rx
  exact PySem.P.repr_of_none ⟨.str _, H, I.tok _, ⟨_, rfl⟩, q⟩
theorem xd_reprP (hm : X.mg "repr" = none) (h : Plain d) (ha : XD X M σ H e d) (hg : Gl X "repr" := by rfl)
    (he : starEach [e] X.env = (false, eval e X.env) :: starEach [] X.env := by rfl) (hpl : (backTo p2 (starEach [] X.env)).any (·.1) = false := by rfl) : XD X M σ H (.Call (.Name "repr" p1) [e] [] p2) (.str (txt d)) := fun H1 s1 Q q => by
  rcases h with rfl | ⟨i, rfl, hi⟩
  · exact re_B call_reprN (ra_1 (ha H1 s1 _ fun v H2 s2 hv => ⟨by rw [dp_non hv], q _ H2 s2 (.str _)⟩) he) hm (by decide +kernel) hg (by decide) (by decide) he hpl
  · exact re_B SkE.call_repr_int (ra_1 (ha H1 s1 _ fun v H2 s2 hv => ⟨i, by rw [dp_int hv], hi, q _ H2 s2 (.str _)⟩) he) hm (by decide +kernel) hg (by decide) (by decide) he hpl
theorem xt_reprNeP {pa pb : Pos} (hm : X.mg "repr" = none) (h : Plain d) (ha : XD X M σ H a d) (hb : XD X M σ H b d) (hg : Gl X "repr" := by rfl)
    (he : starEach [a] X.env = (false, eval a X.env) :: starEach [] X.env := by rfl) (hpl : (backTo pa (starEach [] X.env)).any (·.1) = false := by rfl) (he2 : starEach [b] X.env = (false, eval b X.env) :: starEach [] X.env := by rfl) (hpl2 : (backTo pb (starEach [] X.env)).any (·.1) = false := by rfl) :
    XT X σ H (.Compare (.Call (.Name "repr" p1) [a] [] pa) [.NotEq] [.Call (.Name "repr" p2) [b] [] pb] pos) false :=
  xt_cmp op_ne (xd_reprP hm h ha hg he hpl) (xd_reprP hm h hb hg he2 hpl2) fun H1 v w s hv hw Q q => by
    rw [dp_str hv, dp_str hw]
    exact ⟨rfl, by rw [decide_eq_true rfl]; exact q H1 (Same.refl _)⟩
/-! ### l <= x < h -/
theorem xt_chainI {op op' : CmpOp} {g g' : Int → Int → Bool} {l m n : Int} (ho : OpR X (compareOp op) (rI0 fun i j => .bl (g i j))) (ho' : OpR X (compareOp op') (rI0 fun i j => .bl (g' i j))) (ha : XD X M σ H a (.int l)) (hb : XD X M σ H b (.int m)) (hc : XD X M σ H c (.int n))
    (hm : lastMarks [op, op'] [b, c] = false := by with_unfolding_all rfl) : XT X σ H (.Compare a [op, op'] [b, c] pos) (g l m && g' m n) := fun H1 s Q q =>
  ⟨_, pt_chain ho ho' re_ re_ re_ hm, ha H1 s _ fun v H2 s2 hv => hb H2 (s.trans s2) _ fun u H3 s3 hu => ⟨l, m, dp_int hv, dp_int hu, g l m, rfl, by
    cases e : g l m with
    | false =>
      rw [e] at q
      exact iteF ⟨false, rfl, q H3 (s2.trans s3)⟩
    | true =>
      rw [e] at q
      exact iteT (hc H3 ((s.trans s2).trans s3) _ fun y H4 s4 hy => ⟨m, n, dp_int hu, dp_int hy, g' m n, rfl, q H4 ((s2.trans s3).trans s4)⟩)⟩⟩
/-! ### {k1: a, k2: b}.get(c) -/
theorem xd_get2 {k1 k2 k : Str} {i1 i2 : Int} {j1 j2 : _} {q1 q2 : Pos} (hu : X.A.units + 1 < cLine) (ha : XD X M σ H a (.int i1)) (hb : XD X M σ H b (.int i2)) (hk : XD X M σ H c (.str k)) (hne : k1 ≠ k2)
    (mm : M1 X (.Dict [some (.Constant (.str k1) j1 q1), some (.Constant (.str k2) j2 q2)] [a, b] pos) "get" p1 c p2) :
    XD X M σ H (.Call (.Attribute (.Dict [some (.Constant (.str k1) j1 q1), some (.Constant (.str k2) j2 q2)] [a, b] pos) "get" p1) [c] [] p2) (if k = k1 then .int i1 else if k = k2 then .int i2 else .none) := fun H1 s1 Q q =>
  ⟨_, pe_dget1 hu (pe_disp (pps_cons pe_str re_ (pps_cons pe_str re_ pps_nil)) rfl rfl (by simp) (by simp)) re_ mm, fun p hp => ha _ (s1.trans (same_new hp)) _ fun v H2 s2 hv => hb H2 ((s1.trans (same_new hp)).trans s2) _ fun u H3 s3 hu => by
    have s13 : Same H1 H3 := ((same_new hp).trans s2).trans s3
    have h3p : H3 p = some (.dK []) := s3 _ _ (s2 _ _ upd_same)
    refine ⟨h3p, [(.inr k1, .int i1), (.inr k2, .int i2)], by rw [dp_int hv, dp_int hu]; rfl, by simp, p, rfl, .inl ⟨_, .inl upd_same⟩, ?_⟩
    have sx : Same H1 (upd H3 p (.dK (mergeK [] [(.inr k1, .int i1), (.inr k2, .int i2)]))) := fun b o e => by
      rw [upd_ne (ne_of_none e hp)]
      exact s13 b o e
    refine hk _ (s1.trans sx) _ fun y H4 s4 hy => ?_
    rw [dp_str hy]
    have e : mergeK [] [((Sum.inr k1 : L2.Key), V.int i1), (.inr k2, .int i2)] = [(.inr k1, .int i1), (.inr k2, .int i2)] := by
      have n : (Sum.inr k1 : L2.Key) ≠ .inr k2 := fun z => hne (Sum.inr.inj z)
      show putK (putK [] (Sum.inr k1 : L2.Key) (V.int i1)) (.inr k2) (.int i2) = _
      have e1 : putK [] (Sum.inr k1 : L2.Key) (V.int i1) = [(.inr k1, .int i1)] := rfl
      rw [e1]
      unfold putK
      rw [if_neg (by simp [hne])]
      rfl
    rw [e] at s4
    refine ⟨_, DGet.k (k := .inr k) (s4 _ _ upd_same), q _ H4 ?_ ?_⟩
    · rw [e] at sx; exact sx.trans s4
    · by_cases h1 : k = k1
      · subst h1
        rw [valV_pos rfl, if_pos rfl]
        exact .int _
      · rw [valV_neg (fun z => h1 (Sum.inr.inj z).symm), if_neg h1]
        by_cases h2 : k = k2
        · subst h2
          rw [valV_pos rfl, if_pos rfl]
          exact .int _
        · rw [valV_neg (fun z => h2 (Sum.inr.inj z).symm), if_neg h2, valV_nil]
          exact .non⟩
/-! ### [.. for x in range(a, b)], whole numbers -/
theorem xl_range2 {lo hi : Int} (g : Int → Int) (hm : X.mg "range" = none) (L : Live M H) (hN : X.N.Nodup) (ha : XD X M σ H a (.int lo)) (hb : XD X M σ H b (.int hi)) (ok : BlkOk X.N X.env.scope scope own) (hz : (-(1000 : Int) ≤ lo ∧ lo ≤ 1000) ∧ (-(1000 : Int) ≤ hi ∧ hi ≤ 1000))
    (hst : ∀ i H1, Same H H1 → BG X scope tg (.int i) (wipe σ (own.map (·.2))) H1 fun τ H2 => wipe τ (own.map (·.2)) = wipe σ (own.map (·.2)) ∧ Same H1 H2 ∧ BE X scope elt τ H2 fun y H3 => Same H2 H3 ∧ y = .int (g i))
    (hc : X.calm = true := by rfl) (hs : ∀ x, foldedSetIterable (.Call (.Name "range" p1) [a, b] [] p2) X.env x = pure x := by intro _; rfl) (hg : Gl X "range" := by rfl)
    (he : starEach [a, b] X.env = (false, eval a X.env) :: starEach [b] X.env := by rfl) (he2 : starEach [b] X.env = (false, eval b X.env) :: starEach [] X.env := by rfl)
    (he3 : starEach [b] X.env = [(false, eval b X.env)] := by rfl) : XL X M σ H (.ListComp elt [⟨tg, .Call (.Name "range" p1) [a, b] [] p2, [], 0⟩] scope pos) ((List.range (hi - lo).toNat).map fun i : Nat => PyData.int (g (lo + i))) := fun H1 s1 Q q =>
  ⟨_, pe_lc (own := own) hc hN (pi_range2 hg hm ra_ (by rw [he, he3]) he3) ok (fun _ _ _ _ _ => bg_) (fun _ _ _ _ _ => bt_) (fun _ _ _ _ _ => be_) hs, ra_cons (ha H1 s1 _ fun v H2 s2 hv => ra_1 (hb H2 (s1.trans s2) _ fun u H3 s3 hu => by
    have b1 : (1000 : Int) < 2 ^ 62 := by decide
    refine ⟨lo, hi, by rw [dp_int hv, dp_int hu], ⟨by omega, by omega, by omega, by omega⟩, fun p hp => ?_⟩
    have s13 := s2.trans s3
    have L3 := L.mono (s1.trans s13)
    refine lc_range (fun i H' => Same H3 H' ∧ ∃ acc, H' p = some (.lst acc) ∧ acc = ((List.range i).map fun i : Nat => V.int (g (lo + i)))) ⟨same_new hp, [], upd_same, rfl⟩ (fun i H' hi' z => ?_) (fun H' z => ?_)
    · obtain ⟨sH, acc, hacc, ea⟩ := z
      refine bg_mono (hst (lo + i) H' ((s1.trans s13).trans sH)) fun τ Ha ⟨hw, sa, hbe⟩ => ⟨hw, bt_nil (iteT (be_mono hbe fun y Hb ⟨sb, ey⟩ => ?_))⟩
      have sd := sa.trans sb
      refine ⟨acc, sd _ _ hacc, ?_, fun b o e => ?_, _, upd_same, ?_⟩
      · have h4 : 100000 < sizeLine := by decide
        rw [ea, List.length_map, List.length_range]
        omega
      · rw [upd_ne (ne_of_none e hp)]
        exact sd _ _ (sH _ _ e)
      · rw [ea, ey, List.range_succ, List.map_append]
        rfl
    · obtain ⟨sH, acc, hacc, ea⟩ := z
      refine q p acc H' (s13.trans sH) (s13.free hp) hacc ?_
      rw [ea]
      have e := ints_dq (K := X.K) (H := hid M H') ((List.range (hi - lo).toNat).map fun i : Nat => g (lo + i))
      rw [List.map_map, List.map_map] at e
      exact e) he2) he⟩
end
end Dl

set_option Elab.async false
set_option linter.all false
set_option maxRecDepth 100000
set_option maxHeartbeats 4000000
/-! Data layer, part 8: x = [..] on one line. -/
namespace Dl
open PySem PySem.Spec PyProof.Rows L2
section
variable {X : Cx} {M : List Addr} {σ : L2.St} {H H' : Hp} {e a b c o elt tg iter : Expr} {ifs : List Expr} {scope : Scope} {own : List (Str × Nat)} {es : List Expr} {d : PyData} {ds : List PyData} {x : Str} {v : V} {pos p0 p1 p2 p3 p4 : Pos} {D : Ends} {rest : List Stmt}
/-- a comprehension; Pv: what more is known of each item -/
theorem lc_P (f : PyData → Option PyData) (Pv : Addr → V → Hp → Prop) (mono : ∀ p v H1 H2, (∀ b o, b ≠ p → H1 b = some o → H2 b = some o) → Pv p v H1 → Pv p v H2) (L : Live M H) (hN : X.N.Nodup) (hit : XD X M σ H iter (.list ds)) (ok : BlkOk X.N X.env.scope scope own) (hz : ds.length ≤ 100000)
    (hst : ∀ p d v H1, d ∈ ds → H p = none → Same H H1 → Live (p :: M) H1 → Dq X.K (hid (p :: M) H1) v d → BG X scope tg v (wipe σ (own.map (·.2))) H1 fun σ2 H2 => wipe σ2 (own.map (·.2)) = wipe σ (own.map (·.2)) ∧ BT X scope ifs σ2 H2 fun k H3 =>
      Same H1 H3 ∧ ((k = true ∧ ∃ d', f d = some d' ∧ BE X scope elt σ2 H3 fun y H4 => Same H3 H4 ∧ Dq X.K (hid (p :: M) H4) y d' ∧ Pv p y H4) ∨ (k = false ∧ f d = none)))
    {Q : VK} (q : ∀ p xs H2, Same H H2 → H p = none → H2 p = some (.lst xs) → DqAll X.K (hid (p :: M) H2) xs (ds.filterMap f) → (∀ v ∈ xs, Pv p v H2) → Q (.ref p) H2)
    : ∃ wi, PI X tg iter wi ∧ tLc wi (BG X scope tg) (BT X scope ifs) (BE X scope elt) (own.map (·.2)) σ H Q :=
  ⟨_, pi_list re_, hit H (Same.refl H) _ fun v H2 s2 hv => by
    obtain ⟨a, xs, rfl, ha, hx⟩ := dp_lst hv
    have L2' : Live M H2 := L.mono s2
    refine ⟨a, rfl, ⟨xs, SqL.of (hid_le _ _ ha)⟩, fun p hp => ?_⟩
    have hpM : p ∉ M := L2'.fresh hp
    have hp0 : H p = none := s2.free hp
    refine lc_list (xs := xs) (a := a) (fun i H' => Same H2 H' ∧ ∃ acc, H' p = some (.lst acc) ∧ DqAll X.K (hid (p :: M) H') acc ((ds.take i).filterMap f) ∧ ∀ v ∈ acc, Pv p v H') ⟨same_new hp, [], upd_same, by simpa using DqAll.nil, fun v hv => by simp at hv⟩ (fun i H' _ w => SqL.of (w.1 _ _ (hid_le _ _ ha))) (fun i x H' hi w => ?_) (fun H' w => ?_)
    · obtain ⟨sH, acc, hacc, hda, hpv⟩ := w
      obtain ⟨d, hd1, hd2⟩ := dpa_get' hx hi
      have hdm : d ∈ ds := List.mem_of_getElem? hd1
      have etake : ds.take (i + 1) = ds.take i ++ [d] := by
        rw [List.take_add_one, hd1]; rfl
      have hlen : acc.length < sizeLine := by
        rw [dpa_len hda]
        have h1 : ((ds.take i).filterMap f).length ≤ (ds.take i).length := List.length_filterMap_le ..
        have h2 : (ds.take i).length ≤ i := by rw [List.length_take]; omega
        have h3 : i < ds.length := (List.getElem?_eq_some_iff.mp hd1).1
        have h4 : 100000 < sizeLine := by decide
        omega
      have Lp : Live (p :: M) H' := fun b hb => by
        rcases List.mem_cons.mp hb with z | hb
        · subst z; rw [hacc]; simp
        · exact L2'.mono sH b hb
      have kx : Dq X.K (hid (p :: M) H') x d := hd2.up (hid_step hp sH)
      refine bg_mono (hst p d x H' hdm hp0 (s2.trans sH) Lp kx) fun σ2 Ha ⟨hw, hbt⟩ => ⟨hw, bt_mono hbt fun k Hb ⟨sb, hk⟩ => ?_⟩
      have sH' : Same H' Hb := sb
      rcases hk with ⟨hk, d', hf, hbe⟩ | ⟨hk, hf⟩
      · subst hk
        refine iteT (be_mono hbe fun y Hc ⟨sc, hy, hpy⟩ => ?_)
        have sd := sH'.trans sc
        refine ⟨acc, sd _ _ hacc, hlen, fun b o e => ?_, acc ++ [y], upd_same, ?_, fun v hv => ?_⟩
        · have nb : b ≠ p := ne_of_none e hp
          rw [upd_ne nb]
          exact sd _ _ (sH _ _ e)
        · rw [hid_upd_ne, etake, List.filterMap_append]
          have e2 : [d].filterMap f = [d'] := by simp [hf]
          rw [e2]
          exact dpa_app (hda.up (hid_mono sd)) (.cons hy .nil)
        · rcases List.mem_append.mp hv with z | z
          · exact mono p v H' _ (fun b o nb e => by rw [upd_ne nb]; exact sd _ _ e) (hpv v z)
          · rw [List.mem_singleton.mp z]
            exact mono p y Hc _ (fun b o nb e => by rw [upd_ne nb]; exact e) hpy
      · subst hk
        refine iteF ⟨sH.trans sH', acc, sH' _ _ hacc, ?_, fun v hv => mono p v H' _ (fun b o _ e => sH' _ _ e) (hpv v hv)⟩
        rw [etake, List.filterMap_append]
        have e2 : [d].filterMap f = [] := by simp [hf]
        rw [e2, List.append_nil]
        exact hda.up (hid_mono sH')
    · obtain ⟨sH, acc, hacc, hda, hpv⟩ := w
      have e1 : ds.take xs.length = ds := by rw [dpa_len hx]; exact List.take_length
      rw [e1] at hda
      exact q p acc H' (s2.trans sH) hp0 hacc hda hpv⟩
theorem re_compP (f : PyData → Option PyData) (Pv : Addr → V → Hp → Prop) (mono : ∀ p v H1 H2, (∀ b o, b ≠ p → H1 b = some o → H2 b = some o) → Pv p v H1 → Pv p v H2) (L : Live M H) (hN : X.N.Nodup) (hit : XD X M σ H iter (.list ds)) (ok : BlkOk X.N X.env.scope scope own) (hz : ds.length ≤ 100000)
    (hst : ∀ p d v H1, d ∈ ds → H p = none → Same H H1 → Live (p :: M) H1 → Dq X.K (hid (p :: M) H1) v d → BG X scope tg v (wipe σ (own.map (·.2))) H1 fun σ2 H2 => wipe σ2 (own.map (·.2)) = wipe σ (own.map (·.2)) ∧ BT X scope ifs σ2 H2 fun k H3 =>
      Same H1 H3 ∧ ((k = true ∧ ∃ d', f d = some d' ∧ BE X scope elt σ2 H3 fun y H4 => Same H3 H4 ∧ Dq X.K (hid (p :: M) H4) y d' ∧ Pv p y H4) ∨ (k = false ∧ f d = none)))
    {Q : VK} (q : ∀ p xs H2, Same H H2 → H p = none → H2 p = some (.lst xs) → DqAll X.K (hid (p :: M) H2) xs (ds.filterMap f) → (∀ v ∈ xs, Pv p v H2) → Q (.ref p) H2)
    (hc : X.calm = true := by rfl) (hs : ∀ x, foldedSetIterable iter X.env x = pure x := by intro _; rfl) : RE X (.ListComp elt [⟨tg, iter, ifs, 0⟩] scope pos) σ H Q := by
  obtain ⟨wi, h1, h2⟩ := lc_P f Pv mono L hN hit ok hz hst q
  exact ⟨_, pe_lc (own := own) hc hN h1 ok (fun _ _ _ _ _ => bg_) (fun _ _ _ _ _ => bt_) (fun _ _ _ _ _ => be_) hs, h2⟩
/-- x = [..], on one line -/
theorem rb_setC (i : Nat) {py : Pos} {spos : Pos} (f : PyData → Option PyData) (Pv : Addr → V → Hp → Prop) (mono : ∀ p v H1 H2, (∀ b o, b ≠ p → H1 b = some o → H2 b = some o) → Pv p v H1 → Pv p v H2) (L : Live M H) (hN : X.N.Nodup) (hit : XD X M σ H iter (.list ds)) (ok : BlkOk X.N X.env.scope scope own) (hz : ds.length ≤ 100000)
    (hst : ∀ p d v H1, d ∈ ds → H p = none → Same H H1 → Live (p :: M) H1 → Dq X.K (hid (p :: M) H1) v d → BG X scope tg v (wipe σ (own.map (·.2))) H1 fun σ2 H2 => wipe σ2 (own.map (·.2)) = wipe σ (own.map (·.2)) ∧ BT X scope ifs σ2 H2 fun k H3 =>
      Same H1 H3 ∧ ((k = true ∧ ∃ d', f d = some d' ∧ BE X scope elt σ2 H3 fun y H4 => Same H3 H4 ∧ Dq X.K (hid (p :: M) H4) y d' ∧ Pv p y H4) ∨ (k = false ∧ f d = none)))
    (q : ∀ p xs H2, Same H H2 → H p = none → H2 p = some (.lst xs) → DqAll X.K (hid (p :: M) H2) xs (ds.filterMap f) → (∀ v ∈ xs, Pv p v H2) → RB X rest D (σ.set i (some (.ref p))) H2)
    (hi : X.N[i]? = some x := by rfl) (hx : X.env.scope.names.lookup x = some .local := by rfl) (hsw : swapsWith (.ListComp elt [⟨tg, iter, ifs, 0⟩] scope pos) (some (.Name x py)) spos.line X.env = pure true := by exact sw_true rfl rfl rfl rfl)
    (hc : X.calm = true := by rfl) (hs : ∀ x, foldedSetIterable iter X.env x = pure x := by intro _; rfl) : RB X (.Assign [.Name x py] (.ListComp elt [⟨tg, iter, ifs, 0⟩] scope pos) spos :: rest) D σ H := by
  obtain ⟨wi, h1, h2⟩ := lc_P (Q := fun v H1 => RB X rest D (σ.set i (some v)) H1) f Pv mono L hN hit ok hz hst q
  exact ⟨_, pss_cons (ps_setLc (own := own) hc hN hi hx hsw h1 ok (fun _ _ _ _ _ => bg_) (fun _ _ _ _ _ => bt_) (fun _ _ _ _ _ => be_) hs) rb_, h2⟩
/-- x = [..], on one line; nothing more of the items -/
theorem rb_setC0 (i : Nat) {py : Pos} {spos : Pos} (f : PyData → Option PyData) (L : Live M H) (hN : X.N.Nodup) (hit : XD X M σ H iter (.list ds)) (ok : BlkOk X.N X.env.scope scope own) (hz : ds.length ≤ 100000)
    (hst : ∀ p d v H1, d ∈ ds → H p = none → Same H H1 → Live (p :: M) H1 → Dq X.K (hid (p :: M) H1) v d → BG X scope tg v (wipe σ (own.map (·.2))) H1 fun σ2 H2 => wipe σ2 (own.map (·.2)) = wipe σ (own.map (·.2)) ∧ BT X scope ifs σ2 H2 fun k H3 =>
      Same H1 H3 ∧ ((k = true ∧ ∃ d', f d = some d' ∧ BE X scope elt σ2 H3 fun y H4 => Same H3 H4 ∧ Dq X.K (hid (p :: M) H4) y d') ∨ (k = false ∧ f d = none)))
    (q : ∀ p xs H2, Same H H2 → H p = none → H2 p = some (.lst xs) → DqAll X.K (hid M H2) xs (ds.filterMap f) → RB X rest D (σ.set i (some (.ref p))) H2)
    (hi : X.N[i]? = some x := by rfl) (hx : X.env.scope.names.lookup x = some .local := by rfl) (hsw : swapsWith (.ListComp elt [⟨tg, iter, ifs, 0⟩] scope pos) (some (.Name x py)) spos.line X.env = pure true := by exact sw_true rfl rfl rfl rfl)
    (hc : X.calm = true := by rfl) (hs : ∀ x, foldedSetIterable iter X.env x = pure x := by intro _; rfl) : RB X (.Assign [.Name x py] (.ListComp elt [⟨tg, iter, ifs, 0⟩] scope pos) spos :: rest) D σ H :=
  rb_setC i f (fun _ _ _ => True) (fun _ _ _ _ _ _ => trivial) L hN hit ok hz (fun p d v H1 hd hp s Lp hv => bg_mono (hst p d v H1 hd hp s Lp hv) fun σ2 H2 ⟨hw, hbt⟩ => ⟨hw, bt_mono hbt fun k H3 ⟨sk, hk⟩ => ⟨sk, hk.elim (fun ⟨a, d', b, c⟩ => .inl ⟨a, d', b, be_mono c fun y H4 ⟨s4, h4⟩ => ⟨s4, h4, trivial⟩⟩) .inr⟩⟩)
    (fun p xs H2 s hp h2 hx _ => q p xs H2 s hp h2 (hx.up fun b o e => by
      have n1 : b ∉ p :: M := fun z => by unfold hid at e; rw [if_pos z] at e; cases e
      rw [hid_of (fun z => n1 (List.mem_cons_of_mem _ z))]
      exact hid_le _ _ e)) hi hx hsw hc hs
end
end Dl

set_option Elab.async false
set_option linter.all false
set_option maxRecDepth 100000
set_option maxHeartbeats 4000000
/-! Data layer: texts -/
namespace Dl
open PySem PySem.Spec PyProof.Rows L2
/-- the texts of one sign -/
def sg (c : Nat) : Str := ⟨#[c]⟩
section
variable {X : Cx} {M : List Addr} {σ : L2.St} {H H' : Hp} {e a b c o elt tg iter : Expr} {ifs : List Expr} {scope : Scope} {own : List (Str × Nat)} {es : List Expr} {d d1 d2 : PyData} {ds ds2 : List PyData} {x y z : Str} {v : V} {pos p1 p2 p3 : Pos}
theorem xd_addS (ha : XD X M σ H a (.str x)) (hb : XD X M σ H b (.str y)) (hl : x.length + y.length ≤ 100000) : XD X M σ H (.BinOp a .Add b pos) (.str (x ++ y)) :=
  xd_bin op_add_str ha hb fun H1 v w s hv hw Q q => ⟨x, y, dp_str hv, dp_str hw, small_sz hl, q _ H1 (Same.refl _) (.str _)⟩
theorem xd_lenStr (hm : X.mg "len" = none) (ha : XD X M σ H e (.str x)) (hl : x.length ≤ 100000) (hg : Gl X "len" := by rfl) (he : starEach [e] X.env = (false, eval e X.env) :: starEach [] X.env := by rfl) (hpl : (backTo pos (starEach [] X.env)).any (·.1) = false := by rfl) : XD X M σ H (.Call (.Name "len" p1) [e] [] pos) (.int x.length) :=
  xd_B call_len_str (xa_cons ha xa_nil he) (fun H1 vs s h Q q => by
    cases h with
    | cons h1 h2 =>
      cases h2
      exact ⟨x, by rw [dp_str h1], small_sz hl, q _ _ (Same.refl _) (.int _)⟩) hm PySem.boot_len hg (by decide) (by decide) he hpl
theorem xd_ixS {n : Int} {c : Nat} (hs : PlainIx b) (ha : XD X M σ H a (.str x)) (hb : XD X M σ H b (.int n)) (hl : x.length ≤ 100000) (h : atI x.cps.toList n = some c) : XD X M σ H (.Subscript a b pos) (.str (sg c)) := fun H1 s Q q =>
  ⟨_, pe_ix ix_str re_ re_ hs, ha H1 s _ fun v H2 s2 hv => hb H2 (s.trans s2) _ fun w H3 s3 hw => ⟨x, n, c, dp_str hv, dp_int hw, small_sz hl, h, q _ H3 (s2.trans s3) (.str _)⟩⟩
theorem xd_cutS {lo hi : Option Expr} {m n : Option Int} (ha : XD X M σ H a (.str x)) (hl : XO X σ H lo m) (hu : XO X σ H hi n) (hz : x.length ≤ 100000) : XD X M σ H (.Subscript a (.Slice lo hi none p2) pos) (.str (cutS x m n)) := fun H1 s Q q =>
  ⟨_, pe_slice sl_str re_ ro_ ro_, ha H1 s _ fun v H2 s2 hv => hl H2 (s.trans s2) _ fun H3 s3 => hu H3 ((s.trans s2).trans s3) _ fun H4 s4 => ⟨x, dp_str hv, small_sz hz, q _ H4 (s2.trans (s3.trans s4)) (.str _)⟩⟩
theorem xt_inSg {c : Nat} (ha : XD X M σ H a (.str (sg c))) (hb : XD X M σ H b (.str x)) (hm : behindInMarks .In b = false := by rfl) : XT X σ H (.Compare a [.In] [b] pos) (decide (c ∈ x.cps.toList)) :=
  xt_cmp op_inS ha hb (fun H1 v w s hv hw Q q => ⟨c, x, dp_str hv, dp_str hw, q H1 (Same.refl _)⟩) hm
theorem xd_inSg {c : Nat} (ha : XD X M σ H a (.str (sg c))) (hb : XD X M σ H b (.str x)) (hm : behindInMarks .In b = false := by rfl) : XD X M σ H (.Compare a [.In] [b] pos) (.bool (decide (c ∈ x.cps.toList))) :=
  xd_cmp op_inS ha hb (fun H1 v w s hv hw Q q => ⟨c, x, dp_str hv, dp_str hw, q _ H1 (Same.refl _) (.bl _)⟩) hm
theorem xt_notInSg {c : Nat} (ha : XD X M σ H a (.str (sg c))) (hb : XD X M σ H b (.str x)) (hm : behindInMarks .NotIn b = false := by rfl) : XT X σ H (.Compare a [.NotIn] [b] pos) (!decide (c ∈ x.cps.toList)) :=
  xt_cmp op_notInS ha hb (fun H1 v w s hv hw Q q => ⟨c, x, dp_str hv, dp_str hw, q H1 (Same.refl _)⟩) hm
theorem dec_str {m n : Str} : decide (V.str m = V.str n) = decide (m = n) := by
  by_cases h : m = n
  · subst h; simp
  · rw [decide_eq_false h, decide_eq_false fun z => h (V.str.inj z)]
theorem xt_neS (ha : XD X M σ H a (.str x)) (hb : XD X M σ H b (.str y)) : XT X σ H (.Compare a [.NotEq] [b] pos) (!decide (x = y)) :=
  xt_cmp op_ne ha hb fun H1 v w s hv hw Q q => by
    rw [dp_str hv, dp_str hw]
    exact ⟨rfl, by rw [dec_str]; exact q H1 (Same.refl _)⟩
/-- int(text) -/
theorem xd_intS {n : Int} (hm : X.mg "int" = none) (ha : XD X M σ H e (.str x)) (hn : PySem.intText? x = some n) (hl : x.length ≤ 640) (hg : Gl X "int" := by rfl) (he : starEach [e] X.env = (false, eval e X.env) :: starEach [] X.env := by rfl) (hpl : (backTo pos (starEach [] X.env)).any (·.1) = false := by rfl) :
    XD X M σ H (.Call (.Name "int" p1) [e] [] pos) (.int n) := fun H1 s Q q =>
  re_Ty call_int_str (ra_1 (ha H1 s _ fun v H2 s2 hv => ⟨x, n, by rw [dp_str hv], hn, hl, q _ H2 s2 (.int _)⟩) he) hm (by decide +kernel) hg (by decide) (by decide) he hpl
/-- str(int) -/
theorem xd_strI {n : Int} (hm : X.mg "str" = none) (ha : XD X M σ H e (.int n)) (hl : n.natAbs.log2 < 1920) (hg : Gl X "str" := by rfl) (he : starEach [e] X.env = (false, eval e X.env) :: starEach [] X.env := by rfl) (hpl : (backTo pos (starEach [] X.env)).any (·.1) = false := by rfl) :
    XD X M σ H (.Call (.Name "str" p1) [e] [] pos) (.str (Str.ofString (toString n))) := fun H1 s Q q =>
  re_Ty call_str_int (ra_1 (ha H1 s _ fun v H2 s2 hv => ⟨n, by rw [dp_int hv], hl, q _ H2 s2 (.str _)⟩) he) hm (by decide +kernel) hg (by decide) (by decide) he hpl
/-- [elt for tg in text if ..] -/
theorem xl_compS (f : Nat → Option PyData) (L : Live M H) (hN : X.N.Nodup) (hit : XD X M σ H iter (.str x)) (ok : BlkOk X.N X.env.scope scope own) (hz : x.length ≤ 100000)
    (hst : ∀ p c H1, c ∈ x.cps.toList → H p = none → Same H H1 → Live (p :: M) H1 → BG X scope tg (.str (sg c)) (wipe σ (own.map (·.2))) H1 fun σ2 H2 => wipe σ2 (own.map (·.2)) = wipe σ (own.map (·.2)) ∧ BT X scope ifs σ2 H2 fun k H3 =>
      Same H1 H3 ∧ ((k = true ∧ ∃ d', f c = some d' ∧ BE X scope elt σ2 H3 fun y H4 => Same H3 H4 ∧ Dq X.K (hid (p :: M) H4) y d') ∨ (k = false ∧ f c = none)))
    (hc : X.calm = true := by rfl) (hs : ∀ x, foldedSetIterable iter X.env x = pure x := by intro _; rfl) : XL X M σ H (.ListComp elt [⟨tg, iter, ifs, 0⟩] scope pos) (x.cps.toList.filterMap f) := fun H1 s1 Q q =>
  ⟨_, pe_lc (own := own) hc hN (pi_str re_) ok (fun _ _ _ _ _ => bg_) (fun _ _ _ _ _ => bt_) (fun _ _ _ _ _ => be_) hs, hit H1 s1 _ fun v H2 s2 hv => by
    have L2' : Live M H2 := L.mono (s1.trans s2)
    have ev := dp_str hv
    subst ev
    refine ⟨x, rfl, fun p hp => ?_⟩
    have hp0 : H p = none := (s1.trans s2).free hp
    have hsz : x.cps.toList.length = x.cps.size := by simp
    have hzz : x.cps.size ≤ 100000 := hz
    refine ⟨fun i m Hx => m + i = x.cps.size ∧ Same H2 Hx ∧ ∃ acc, Hx p = some (.lst acc) ∧ DqAll X.K (hid (p :: M) Hx) acc ((x.cps.toList.take i).filterMap f), ⟨x.cps.size, rfl, same_new hp, [], upd_same, by simpa using DqAll.nil⟩, fun i m Hx w => ?_⟩
    obtain ⟨hmi, sx, acc, hacc, hda⟩ := w
    by_cases hlt : i < x.cps.size
    · refine .inr ⟨hlt, fun Hy => Same H2 Hy ∧ ∃ acc, Hy p = some (.lst acc) ∧ DqAll X.K (hid (p :: M) Hy) acc ((x.cps.toList.take (i + 1)).filterMap f), fun Hy hy => ⟨m - 1, by omega, by omega, hy⟩, fun v Hy hyl => ?_⟩
      obtain ⟨rfl, c, hc1, rfl⟩ := hyl
      have hc2 : x.cps.toList[i]? = some c := by rw [Array.getElem?_toList]; exact hc1
      have etake : x.cps.toList.take (i + 1) = x.cps.toList.take i ++ [c] := by rw [List.take_add_one, hc2]; rfl
      have Lp : Live (p :: M) Hy := fun b hb => by
        rcases List.mem_cons.mp hb with z | hb
        · subst z; rw [hacc]; simp
        · exact L2'.mono sx b hb
      refine bg_mono (hst p c Hy (List.mem_of_getElem? hc2) hp0 ((s1.trans s2).trans sx) Lp) fun σ2 Ha ⟨hw, hbt⟩ => ⟨hw, bt_mono hbt fun k Hb ⟨sb, hk⟩ => ?_⟩
      rcases hk with ⟨hk, d', hf, hbe⟩ | ⟨hk, hf⟩
      · subst hk
        refine iteT (be_mono hbe fun y Hc ⟨sc, hy⟩ => ?_)
        have sd := sb.trans sc
        refine ⟨acc, sd _ _ hacc, ?_, fun b o e => ?_, acc ++ [y], upd_same, ?_⟩
        · have h1 : ((x.cps.toList.take i).filterMap f).length ≤ (x.cps.toList.take i).length := List.length_filterMap_le ..
          have h2 : (x.cps.toList.take i).length ≤ i := by rw [List.length_take]; omega
          have h4 : 100000 < sizeLine := by decide
          rw [dpa_len hda]
          omega
        · rw [upd_ne (ne_of_none e hp)]
          exact sd _ _ (sx _ _ e)
        · rw [hid_upd_ne, etake, List.filterMap_append]
          have e2 : [c].filterMap f = [d'] := by simp [hf]
          rw [e2]
          exact dpa_app (hda.up (hid_mono sd)) (.cons hy .nil)
      · subst hk
        refine iteF ⟨sx.trans sb, acc, sb _ _ hacc, ?_⟩
        rw [etake, List.filterMap_append]
        have e2 : [c].filterMap f = [] := by simp [hf]
        rw [e2, List.append_nil]
        exact hda.up (hid_mono sb)
    · have ei : x.cps.toList.take i = x.cps.toList := List.take_of_length_le (by omega)
      rw [ei] at hda
      refine .inl ⟨by show x.cps.size ≤ i; omega, q p acc Hx (s2.trans sx) (s2.free hp) hacc (hda.up fun b o e => ?_)⟩
      have n1 : b ∉ p :: M := fun z => by unfold hid at e; rw [if_pos z] at e; cases e
      rw [hid_of (fun z => n1 (List.mem_cons_of_mem _ z))]
      exact hid_le _ _ e⟩
/-- all([..]) -/
theorem bools_v {K : PySem.W.Frag} {H : Hp} : ∀ {bs : List Bool} {xs : List V}, DqAll K H xs (bs.map PyData.bool) → xs = bs.map V.bl
  | [], _, h => by cases h; rfl
  | n :: ns, _, h => by
    cases h with
    | cons a b => rw [dp_bl a, bools_v b]; rfl
end
/-- the number of two digits -/
theorem two_digits : ∀ i : Fin 10, ∀ j : Fin 10, PySem.intText? ⟨#[48 + i.val, 48 + j.val]⟩ = some ((10 * i.val + j.val : Nat) : Int) := by decide +kernel
end Dl

set_option Elab.async false
set_option linter.all false
set_option maxRecDepth 100000
set_option maxHeartbeats 8000000
/-! sorted of a list of tuples of a whole number and a text; comprehensions over range(e), any data -/
namespace Dl
open PySem PySem.Spec PyProof.Rows L2
def encIS (b : Int × Str) : PyData := .tuple [.int b.1, .str b.2]
theorem each_of {K : PySem.W.Frag} {H : Hp} : ∀ {xs : List V} {us : List Value} (bs : List (Int × Str)), Vals xs us → DqAll K H xs (bs.map encIS) → PySem.W.EachIs (fun (u : Value) b => ∃ x, RelV x u ∧ Dq K H x (encIS b)) us bs
  | _, _, [], r, h => by
    cases h
    cases r
    exact .nil
  | _, _, b :: bs, r, h => by
    cases h with
    | cons h1 h2 =>
      cases r with
      | cons r1 r2 => exact .cons ⟨_, r1, h1⟩ (each_of bs r2 h2)
theorem each_back {K : PySem.W.Frag} {H : Hp} : ∀ {us : List Value} {bs : List (Int × Str)}, PySem.W.EachIs (fun (u : Value) b => ∃ x, RelV x u ∧ Dq K H x (encIS b)) us bs → ∃ ys, Vals ys us ∧ DqAll K H ys (bs.map encIS)
  | _, _, .nil => ⟨[], .nil, .nil⟩
  | _, _, .cons ⟨x, r, d⟩ t => by
    obtain ⟨ys, h1, h2⟩ := each_back t
    exact ⟨x :: ys, .cons r h1, .cons d h2⟩
theorem perm_asc : ∀ {xs ys : List (Int × Str)}, ys.Perm xs → xs.Pairwise (fun a b => a.1 < b.1) → ys.Pairwise (fun a b => a.1 ≤ b.1) → ys = xs
  | [], ys, p, _, _ => List.Perm.eq_nil p
  | x :: xs, [], p, _, _ => absurd p.length_eq (by simp)
  | x :: xs, y :: ys, p, hx, hy => by
    obtain ⟨hx1, hx2⟩ := List.pairwise_cons.mp hx
    obtain ⟨hy1, hy2⟩ := List.pairwise_cons.mp hy
    have e : y = x := by
      rcases List.mem_cons.mp (p.mem_iff.mp (List.mem_cons_self (a := y) (l := ys))) with e | m
      · exact e
      · rcases List.mem_cons.mp (p.mem_iff.mpr (List.mem_cons_self (a := x) (l := xs))) with e | m2
        · exact e.symm
        · have a := hx1 y m
          have b := hy1 x m2
          omega
    subst e
    rw [perm_asc p.cons_inv hx2 hy2]
theorem le_first {a b : Int × Str} (h : PySem.W.dataLe false encIS a b = true) : a.1 ≤ b.1 := by
  have h' : (!PySem.W.dataLt (encIS b) (encIS a)) = true := h
  refine Classical.byContradiction fun n => ?_
  have e : PySem.W.dataLt (encIS b) (encIS a) = true := by
    show PySem.W.dataLt (.tuple [.int b.1, .str b.2]) (.tuple [.int a.1, .str a.2]) = true
    rw [PySem.W.dataLt_pair (by simp [PySem.W.alike]) (by simp [PySem.W.alike]), PySem.W.dataLt_int]
    have z : PyData.eqv (.int b.1) (.int a.1) = false := by
      simp only [PyData.eqv, beq_eq_false_iff_ne]
      omega
    rw [z, if_neg Bool.false_ne_true]
    exact decide_eq_true (by omega)
  rw [e] at h'
  cases h'
/-- sorted in this order: the ascending list of the same -/
theorem sort_is {xs ys : List (Int × Str)} (p : ys.Perm xs) (h : xs.Pairwise fun a b => a.1 < b.1) : ys.mergeSort (PySem.W.dataLe false encIS) = xs := by
  refine perm_asc ((List.mergeSort_perm _ _).trans p) h ?_
  exact (PySem.W.sort_pairwise (PySem.W.sortLe_total _ false _) ys).imp fun h => le_first h
section
variable {X : Cx} {M : List Addr} {σ : L2.St} {H : Hp} {e a elt tg : Expr} {p1 p2 pos : Pos} {scope : Scope} {own : List (Str × Nat)} {D : Ends} {rest : List Stmt} {x : Str}
theorem alike_is (b b' : Int × Str) : PySem.W.alike (encIS b) (encIS b') = true := by simp [encIS, PySem.W.alike, PySem.W.alikeAll]
theorem cr_sortedIS (hu : X.A.units + 64 < cLine) : CallR X (.builtin "sorted") (fun vs H Q => ∃ (a : Addr) (xs : List V) (bs : List (Int × Str)) (M : List Addr), vs = [V.ref a] ∧ SqL X.K H a xs ∧ DqAll X.K (hid M H) xs (bs.map encIS) ∧ bs.length ≤ 1000 ∧
    ∀ ys p, DqAll X.K (hid M H) ys ((bs.mergeSort (PySem.W.dataLe false encIS)).map encIS) → H p = none → Q (.ref p) (upd H p (.lst ys))) := by
  intro pins s σ H vs us Q I r h
  obtain ⟨a, xs, bs, M, rfl, hs, hx, hlen, q⟩ := h
  obtain ⟨its, rv, hl, hz⟩ := I.list hs
  obtain ⟨u, rfl, ru⟩ := vals1 r
  obtain rfl : u = Value.ref a := ru
  have e1 := each_of bs rv hx
  refine PySem.W.sorted_data hl.isList e1 (e1.mono fun v b ⟨x, rx, hd⟩ => Dp.reads I (encIS b) x v ((hd.up hid_le).dp) rx) (.of alike_is) (.tuples fun b => ⟨_, _, rfl⟩) (Nat.le_trans hlen (by decide)) (fun b _ => ?_) fun out ho h2 => ?_
  · have z : (encIS b).depth = 1 := by simp [encIS, PyData.depth, PyData.depthAll]
    rw [z]
    omega
  · obtain ⟨ys, y1, y2⟩ := each_back h2
    obtain ⟨n, hn⟩ := sortedAll_at s.heap its out.toArray
    have hyl : ys.length ≤ sizeLine := by
      rw [y1.length, ho]
      exact Nat.le_trans hlen (by decide)
    exact ⟨.ref (s.heap.objs.size + 1), upd H (s.heap.objs.size + 1) (.lst ys), I.laid (t' := s.toks) (fun b o k => sortedAll_old k) (Nat.le_succ _) ⟨hyl, out, n, y1, hn⟩, rfl, q ys _ y2 (I.hok.fresh (Nat.le_succ _))⟩
/-- sorted(l) -/
theorem xl_sortedIS {bs cs : List (Int × Str)} (hu : X.A.units + 64 < cLine) (hm : X.mg "sorted" = none) (L : Live M H) (ha : XD X M σ H e (.list (bs.map encIS))) (hlen : bs.length ≤ 1000) (hp : bs.Perm cs) (hc : cs.Pairwise fun a b => a.1 < b.1) (hg : Gl X "sorted" := by rfl)
    (he : starEach [e] X.env = (false, eval e X.env) :: starEach [] X.env := by rfl) (hpl : (backTo p2 (starEach [] X.env)).any (·.1) = false := by rfl) : XL X M σ H (.Call (.Name "sorted" p1) [e] [] p2) (cs.map encIS) := fun H1 s1 Q q =>
  re_B (cr_sortedIS hu) (ra_1 (ha H1 s1 _ fun v H2 s2 hv => by
    obtain ⟨a, xs, rfl, ha, hx⟩ := dp_lst hv
    refine ⟨a, xs, bs, M, rfl, SqL.of (hid_le _ _ ha), hx, hlen, fun ys l h1 hl => ?_⟩
    rw [sort_is hp hc] at h1
    refine q l ys _ (s2.trans (same_new hl)) (s2.free hl) upd_same ?_
    rw [hid_new (L.mono (s1.trans s2)) hl]
    exact h1.up (same_new (hid_free hl))) he) hm (by decide +kernel) hg (by decide) (by decide) he hpl
/-! comprehensions over range(e) -/
theorem lc_rngD (n : Nat) (hn : n ≤ 1000) (g : Nat → PyData) (L : Live M H) (ha : XD X M σ H a (.int (n : Int)))
    (hst : ∀ p (i : Nat) H1, i < n → H p = none → Same H H1 → Live (p :: M) H1 → BG X scope tg (.int (i : Int)) (wipe σ (own.map (·.2))) H1 fun τ H2 => wipe τ (own.map (·.2)) = wipe σ (own.map (·.2)) ∧ Same H1 H2 ∧ BE X scope elt τ H2 fun y H3 => Same H2 H3 ∧ Dq X.K (hid (p :: M) H3) y (g i))
    {Q : VK} (q : ∀ p xs H2, Same H H2 → H p = none → H2 p = some (.lst xs) → DqAll X.K (hid M H2) xs ((List.range n).map g) → Q (.ref p) H2) (he : starEach [a] X.env = (false, eval a X.env) :: starEach [] X.env := by rfl) :
    tLc (iRng1 (RA X [a])) (BG X scope tg) (BT X scope []) (BE X scope elt) (own.map (·.2)) σ H Q :=
  ra_1 (ha H (Same.refl H) _ fun v H2 s2 hv => by
    refine ⟨(n : Int), by rw [dp_int hv], by omega, by omega, fun p hp => ?_⟩
    have hp0 : H p = none := s2.free hp
    have L2' : Live M H2 := L.mono s2
    refine lc_range (lo := 0) (n := (n : Int).toNat) (fun i H' => Same H2 H' ∧ ∃ acc, H' p = some (.lst acc) ∧ DqAll X.K (hid (p :: M) H') acc ((List.range i).map g)) ⟨same_new hp, [], upd_same, .nil⟩ (fun i H' hi z => ?_) (fun H' z => ?_)
    · obtain ⟨sH, acc, hacc, ea⟩ := z
      have hi' : i < n := by omega
      have Lp : Live (p :: M) H' := fun b hb => by
        rcases List.mem_cons.mp hb with z | hb
        · subst z; rw [hacc]; simp
        · exact L2'.mono sH b hb
      have e0 : (0 : Int) + (i : Int) = (i : Int) := Int.zero_add _
      rw [e0]
      refine bg_mono (hst p i H' hi' hp0 (s2.trans sH) Lp) fun τ Ha ⟨hw, sa, hbe⟩ => ⟨hw, bt_nil (iteT (be_mono hbe fun y Hb ⟨sb, ey⟩ => ?_))⟩
      have sd := sa.trans sb
      refine ⟨acc, sd _ _ hacc, ?_, fun b o e => ?_, acc ++ [y], upd_same, ?_⟩
      · have h4 : 100000 < sizeLine := by decide
        rw [dpa_len ea, List.length_map, List.length_range]
        omega
      · rw [upd_ne (ne_of_none e hp)]
        exact sd _ _ (sH _ _ e)
      · rw [hid_upd_ne, List.range_succ, List.map_append]
        exact dpa_app (ea.up (hid_mono sd)) (.cons ey .nil)
    · obtain ⟨sH, acc, hacc, ea⟩ := z
      rw [Int.toNat_natCast] at ea
      refine q p acc H' (s2.trans sH) hp0 hacc (ea.up fun b o e => ?_)
      have n1 : b ∉ p :: M := fun z => by unfold hid at e; rw [if_pos z] at e; cases e
      rw [hid_of (fun z => n1 (List.mem_cons_of_mem _ z))]
      exact hid_le _ _ e) he
/-- [.. for tg in range(a)] -/
theorem xl_rngD (n : Nat) (hn : n ≤ 1000) (g : Nat → PyData) (hm : X.mg "range" = none) (L : Live M H) (hN : X.N.Nodup) (ha : XD X M σ H a (.int (n : Int))) (ok : BlkOk X.N X.env.scope scope own)
    (hst : ∀ p (i : Nat) H1, i < n → H p = none → Same H H1 → Live (p :: M) H1 → BG X scope tg (.int (i : Int)) (wipe σ (own.map (·.2))) H1 fun τ H2 => wipe τ (own.map (·.2)) = wipe σ (own.map (·.2)) ∧ Same H1 H2 ∧ BE X scope elt τ H2 fun y H3 => Same H2 H3 ∧ Dq X.K (hid (p :: M) H3) y (g i))
    (hc : X.calm = true := by rfl) (hg : Gl X "range" := by rfl) (he : starEach [a] X.env = (false, eval a X.env) :: starEach [] X.env := by rfl) (he1 : starEach [a] X.env = [(false, eval a X.env)] := by rfl) (hs : ∀ x, foldedSetIterable (.Call (.Name "range" p1) [a] [] p2) X.env x = pure x := by intro _; rfl) :
    XL X M σ H (.ListComp elt [⟨tg, .Call (.Name "range" p1) [a] [] p2, [], 0⟩] scope pos) ((List.range n).map g) := fun H1 s1 Q q =>
  ⟨_, pe_lc (own := own) hc hN (pi_range1 hg hm ra_ he1) ok (fun _ _ _ _ _ => bg_) (fun _ _ _ _ _ => bt_) (fun _ _ _ _ _ => be_) hs,
    lc_rngD (own := own) n hn g (L.mono s1) (ha.up s1) (fun p i H2 hi hp s2 Lp => hst p i H2 hi (s1.free hp) (s1.trans s2) Lp) (fun p xs H2 s2 hp h2 hx => q p xs H2 s2 hp h2 hx) he⟩
/-- x = [.. for tg in range(a)], on one line -/
theorem rb_setRD (i : Nat) {py spos : Pos} (n : Nat) (hn : n ≤ 1000) (g : Nat → PyData) (hm : X.mg "range" = none) (L : Live M H) (hN : X.N.Nodup) (ha : XD X M σ H a (.int (n : Int))) (ok : BlkOk X.N X.env.scope scope own)
    (hst : ∀ p (i : Nat) H1, i < n → H p = none → Same H H1 → Live (p :: M) H1 → BG X scope tg (.int (i : Int)) (wipe σ (own.map (·.2))) H1 fun τ H2 => wipe τ (own.map (·.2)) = wipe σ (own.map (·.2)) ∧ Same H1 H2 ∧ BE X scope elt τ H2 fun y H3 => Same H2 H3 ∧ Dq X.K (hid (p :: M) H3) y (g i))
    (q : ∀ p xs H2, Same H H2 → H p = none → H2 p = some (.lst xs) → DqAll X.K (hid M H2) xs ((List.range n).map g) → RB X rest D (σ.set i (some (.ref p))) H2)
    (hi : X.N[i]? = some x := by rfl) (hx : X.env.scope.names.lookup x = some .local := by rfl) (hsw : swapsWith (.ListComp elt [⟨tg, .Call (.Name "range" p1) [a] [] p2, [], 0⟩] scope pos) (some (.Name x py)) spos.line X.env = pure true := by exact sw_true rfl rfl rfl rfl)
    (hc : X.calm = true := by rfl) (hg : Gl X "range" := by rfl) (he : starEach [a] X.env = (false, eval a X.env) :: starEach [] X.env := by rfl) (he1 : starEach [a] X.env = [(false, eval a X.env)] := by rfl) (hs : ∀ x, foldedSetIterable (.Call (.Name "range" p1) [a] [] p2) X.env x = pure x := by intro _; rfl) :
    RB X (.Assign [.Name x py] (.ListComp elt [⟨tg, .Call (.Name "range" p1) [a] [] p2, [], 0⟩] scope pos) spos :: rest) D σ H :=
  ⟨_, pss_cons (ps_setLc (own := own) hc hN hi hx hsw (pi_range1 hg hm ra_ he1) ok (fun _ _ _ _ _ => bg_) (fun _ _ _ _ _ => bt_) (fun _ _ _ _ _ => be_) hs) rb_,
    lc_rngD (own := own) (Q := fun v H1 => RB X rest D (σ.set i (some v)) H1) n hn g L ha hst q he⟩
/-- for tg in range(a, b): .. -/
theorem rb_rangeAB {tg b : Expr} {body : List Stmt} {lo : Int} {n : Nat} (hm : X.mg "range" = none) (hlo : -(2 ^ 61) < lo ∧ lo < 2 ^ 61) (hn : n < 2 ^ 60) (ha : XD X M σ H a (.int lo)) (hb : XD X M σ H b (.int (lo + n)))
    (h : ∀ H1, Same H H1 → ∃ Pv : Nat → L2.St → Hp → Prop, Pv 0 σ H1 ∧
      (∀ k σ' H', k < n → Pv k σ' H' → RG X tg (.int (lo + (k : Int))) σ' H' fun σ2 H2 => RB X body { D with nx := Pv (k + 1), ct := Pv (k + 1), bk := RB X rest D } σ2 H2) ∧ ∀ σ' H', Pv n σ' H' → RB X rest D σ' H')
    (hg : Gl X "range" := by rfl) (he : starEach [a, b] X.env = (false, eval a X.env) :: starEach [b] X.env := by rfl) (he2 : starEach [b] X.env = (false, eval b X.env) :: starEach [] X.env := by rfl) (he3 : starEach [b] X.env = [(false, eval b X.env)] := by rfl)
    (hp : PassesOwn (model X.prog X.w) X.A X.env X.xe := by exact PassesOwn.never) (hc : X.calm = true := by rfl)
    (hs : ∀ x, foldedSetIterable (.Call (.Name "range" p1) [a, b] [] p2) X.env x = pure x := by intro _; rfl) : RB X (.For tg (.Call (.Name "range" p1) [a, b] [] p2) body [] pos :: rest) D σ H :=
  ⟨_, pss_cons (ps_for hp hc (pi_range2 hg hm ra_ (by rw [he, he3]) he3) rg_ rb_ hs) rb_, ra_cons (ha H (Same.refl H) _ fun v H1 s1 hv => ra_1 (hb H1 s1 _ fun u H2 s2 hu => by
    obtain ⟨Pv, h0, hst, hd⟩ := h H2 (s1.trans s2)
    refine ⟨lo, lo + n, by rw [dp_int hv, dp_int hu], ⟨by omega, by omega, by omega, by omega⟩, ?_⟩
    have e : (lo + (n : Int) - lo).toNat = n := by omega
    rw [e]
    exact for_range Pv h0 hst hd) he2) he⟩
end
end Dl

set_option Elab.async false
set_option linter.all false
set_option maxRecDepth 100000
set_option maxHeartbeats 8000000
/-! set(list of whole numbers), sorted of a set by a bound of its own, sums of tuples, stars, two fors, enumerate and zip in comprehensions -/
namespace Dl
open PySem PySem.Spec PyProof.Rows L2
abbrev bareSet (W : World) : Obj := { cls := .type "set", dict := none, data := .set #[] 0 (.fresh 0 0 (!W.params.followText "set-order")) }
section
variable {P : Program} {W : World} {A : Around} {Er : Value → Shared → Prop} {z : Shared}
theorem set_of_ints {l : Addr} {xs : Array Value} (ks : List Int) {Q : Value → Shared → Prop} (calm : A.handled = none) (isL : z.heap.IsList l xs) (areI : IntsAre xs.toList ks) (room : ks.length + 1 < scanBound)
    (fin : ∀ (h' : Heap) (tk c : Nat), SetR W h' z.heap.objs.size (fun j => decide (j ∈ ks)) c → (∀ b o, z.heap.get? b = some o → h'.get? b = some o) → Q (.ref z.heap.objs.size) { z with heap := h', toks := tk }) :
    wpAny (model P W) A (call (.type "set") [.ref l]) Q Er z := by
  have size_xs : xs.size = ks.length := (Array.length_toList (xs := xs)).symm.trans (IntsAre.length areI)
  obtain ⟨c0, tl0, mro0⟩ := F.called_set.mro
  have made0 := F.called_set.made
  have sub0 := F.called_set.sub
  refine wpAny_call (codeAny_of_tree ?_)
  show wpAny _ _ (callAny (.type "set") _) _ _ _
  refine wpAny_pure ⟨Code.quiet_builtin _ (by decide +kernel), codeAny_builtin F.entry_type_call ?_⟩
  rw [Around.under_plain (weight_type_call_type "set" [.ref l] []) rfl]
  have not_ty := F.called_set.notType
  have can := F.called_set.canCreate
  have tc := F.typeCall_set_1 (.ref l)
  repeat (any_goals (first | assumption | wp_step))
  refine codeAny_mono (code_set_led1 (.ref l) (E := Er) (Q₁ := fun y z1 => y = .ref z.heap.objs.size ∧ z1 = { z with heap := z.heap.push (bareSet W) }) ⟨rfl, rfl⟩) fun r z1 hr => ?_
  match r, hr with
  | .error e, hr => exact hr
  | .ok .next, hr => exact hr.elim
  | .ok .brk, hr => exact hr.elim
  | .ok .cont, hr => exact hr.elim
  | .ok (.ret y), hr =>
    obtain ⟨rfl, rfl⟩ := hr
    have at_new : (z.heap.push (bareSet W)).get? z.heap.objs.size = some (bareSet W) := Heap.get?_push_size _ rfl
    have ty_new : Shared.TypeIs { z with heap := z.heap.push (bareSet W) } (.ref z.heap.objs.size) "set" := ⟨_, at_new, rfl⟩
    have look := F.called_set.init.lookup
    have bindS := F.called_set.init.bind (.ref z.heap.objs.size)
    repeat (any_goals (first | assumption | wp_step))
    refine codeAny_mono (codeAny_call_builtin (R := wants (fun r2 z2 => r2 = .none ∧ ∃ h' tk c, z2 = { z with heap := h', toks := tk } ∧ SetR W h' z.heap.objs.size (fun j => decide (j ∈ ks)) c ∧ (∀ b o, z.heap.get? b = some o → h'.get? b = some o)) Er)
      F.called_set.init.plain F.entry_set_init (check_set_init_1 ty_new ?_)) fun r2 z2 hr2 => ?_
    · obtain ⟨⟨oc, od, odt, osl⟩, get_l, cls_l, nl, dat_l⟩ := isL
      simp only at cls_l dat_l
      subst cls_l
      subst dat_l
      have get_l2 : (z.heap.push (bareSet W)).get? l = some { cls := .type "list", dict := od, data := .seq xs nl, slots := osl } := Heap.get?_push_of_some _ get_l
      have no1 := F.sub_list_set
      have no2 := F.sub_list_frozenset
      have no3 : (Value.type "list" == Value.type "dict") = false := by decide
      have list_l : (z.heap.push (bareSet W)).IsList l xs := ⟨_, get_l2, rfl, nl, rfl⟩
      unfold Builtin.«set.__init__» noKeywords Builtin.Frozenset.updateFrom
      generalize walker : pyIter = walk
      wp_walk
      subst walker
      refine wpAny_pyIter_list list_l ?_
      refine wpAny_bind (wpAny_runValue ?_)
      have l_lt : l < z.heap.objs.size := Heap.lt_size get_l
      have size1 : (z.heap.push (bareSet W)).objs.size = z.heap.objs.size + 1 := Heap.size_push ..
      have calm3 : A.in1.in1.in1.handled = none := by simp [calm]
      have lt1 : l < z.heap.objs.size + 1 := Nat.lt_succ_of_lt l_lt
      have ne_new : l ≠ (z.heap.push (bareSet W)).objs.size := fun q => by
        rw [size1] at q
        exact Nat.ne_of_lt lt1 q
      have out_new : z.heap.objs.size ∉ [(z.heap.push (bareSet W)).objs.size, l] := fun q => by
        rw [size1] at q
        rcases List.mem_cons.mp q with q | q
        · exact Nat.ne_of_lt (Nat.lt_succ_self _) q
        · exact Nat.ne_of_lt l_lt (List.mem_singleton.mp q).symm
      refine set_update_ints ((Walks.list calm3 _ l ne_new xs).toS) z.heap.objs.size out_new ks size_xs room (fun i v hv => ?_) (xs.size - 0) 0 _ (by omega) (Nat.zero_le _)
        ⟨⟨_, Heap.get?_push_size _ rfl, rfl, rfl⟩, (list_l.push _)⟩ ⟨0, Nat.le_refl 0, setR_new_at (Heap.get?_push_of_some _ at_new)⟩ fun z3 c3 moved _ new3 => ?_
      · have hi : i < ks.length := by rw [← size_xs]; exact (Array.getElem?_eq_some_iff.mp hv).1
        obtain ⟨tk, e⟩ := PyProof.Rows.IntsAre.int_at areI i v (by rw [Array.getElem?_toList]; exact hv)
        exact ⟨ks[i], tk, List.getElem?_eq_getElem hi, by rw [e, List.getD_eq_getElem?_getD, List.getElem?_eq_getElem hi] <;> rfl⟩
      · obtain ⟨hz, gz, dz, tz, oz⟩ := z3
        have g1 : gz = z.gens := moved.gens
        have g2 : dz = z.drawn := moved.drawn
        have g3 : oz = z.os := moved.os
        subst g1
        subst g2
        subst g3
        show wpAny _ _ _ _ _ _
        refine wpAny_pure ?_
        show wpAny _ _ (ret Value.none) _ _ _
        refine wpAny_pure ⟨rfl, hz, tz, c3, rfl, new3, fun b o e => ?_⟩
        have b_lt : b < z.heap.objs.size := Heap.lt_size e
        have free_b : b ∉ [z.heap.objs.size, (z.heap.push (bareSet W)).objs.size] := fun q => by
          rw [size1] at q
          rcases List.mem_cons.mp q with q | q
          · exact Nat.ne_of_lt b_lt q
          · exact Nat.ne_of_lt (Nat.lt_succ_of_lt b_lt) (List.mem_singleton.mp q)
        exact moved.heap b o free_b (Heap.get?_push_of_some _ (Heap.get?_push_of_some _ e))
    · match r2, hr2 with
      | .error e, hr2 => exact hr2
      | .ok .next, hr2 => exact hr2.elim
      | .ok .brk, hr2 => exact hr2.elim
      | .ok .cont, hr2 => exact hr2.elim
      | .ok (.ret y2), hr2 =>
        obtain ⟨rfl, h', tk, c', rfl, isSet, kept⟩ := hr2
        repeat (any_goals (first | assumption | wp_step))
        exact fin _ _ _ isSet kept
end
theorem nodup_le {α : Type} [DecidableEq α] : ∀ {xs ys : List α}, xs.Nodup → (∀ x ∈ xs, x ∈ ys) → xs.length ≤ ys.length
  | [], _, _, _ => Nat.zero_le _
  | x :: xs, ys, h, s => by
    obtain ⟨h1, h2⟩ := List.nodup_cons.mp h
    have m := s x (List.mem_cons_self ..)
    have e := List.length_erase_of_mem m
    have p := List.length_pos_of_mem m
    have r := nodup_le (xs := xs) (ys := ys.erase x) h2 fun y hy => (List.mem_erase_of_ne (fun z => h1 (by rw [← z]; exact hy))).mpr (s y (List.mem_cons_of_mem _ hy))
    rw [List.length_cons]
    omega
theorem setR_le {w : World} {h : Heap} {a : Addr} {S : Int → Bool} {n : Nat} (R : SetR w h a S n) {T : List Int} (hT : ∀ k, S k = true → k ∈ T) : n ≤ T.length := by
  obtain ⟨o, es, ep, t, _, _, _, _, nd, mem, _, _, e, _⟩ := R
  have r := nodup_le nd fun k hk => hT k ((mem k).mpr hk)
  rw [List.length_map, Array.length_toList] at r
  omega
section
variable {X : Cx} {M : List Addr} {σ : L2.St} {H H' : Hp} {e a b c o elt tg iter iter1 tg1 : Expr} {ifs ifs1 : List Expr} {scope : Scope} {own : List (Str × Nat)} {es : List Expr} {d d1 d2 : PyData} {ds ds2 : List PyData} {x : Str} {v : V} {pos p1 p2 p3 tpos : Pos}
/-- sorted(set), the set's members among fewer than 64 -/
theorem cr_sortedB (hc : X.calm = true) : CallR X (.builtin "sorted") (fun vs H Q => ∃ (a : Addr) (S : Int → Bool) (n : Nat) (T : List Int), vs = [V.ref a] ∧ H a = some (SetO X.w a S n) ∧ T.length < 64 ∧ (∀ k, S k = true → k ∈ T) ∧
    ∀ (ns : List Int) (p : Addr), ns.Pairwise (· < ·) → (∀ k : Int, k ∈ ns ↔ S k = true) → H p = none → Q (.ref p) (upd H p (.lst (ns.map V.int)))) := by
  intro pins s σ H vs us Q I r h
  obtain ⟨a, S, n, T, rfl, ha, hT, sub, q⟩ := h
  exact cr_sortedSet hc pins s σ H _ us Q I r ⟨a, S, n, rfl, ha, Nat.lt_of_le_of_lt (setR_le (setO_get I ha) sub) hT, fun ns p h1 h2 _ hp => q ns p h1 h2 hp⟩
/-- set(l) -/
theorem cr_setOf (hc : X.calm = true) : CallR X (.type "set") (fun vs H Q => ∃ (l : Addr) (ks : List Int), vs = [V.ref l] ∧ SqL X.K H l (ks.map V.int) ∧ ks.length ≤ 4000 ∧ ∀ p c, H p = none → Q (.ref p) (upd H p (SetO X.w p (fun j => decide (j ∈ ks)) c))) := by
  intro pins s σ H vs us Q I r h
  obtain ⟨l, ks, rfl, hl, hz, q⟩ := h
  obtain ⟨its, rv, isl, _⟩ := I.list hl
  obtain ⟨u, rfl, ru⟩ := vals1 r
  obtain rfl : u = Value.ref l := ru
  refine set_of_ints ks (I.ok.hd hc) isl.isList (by simpa using rv.ints) (Nat.lt_of_le_of_lt (Nat.succ_le_succ hz) (by decide)) fun h' tk c new kept => ?_
  exact ⟨.ref s.heap.objs.size, upd H s.heap.objs.size (SetO X.w s.heap.objs.size (fun j => decide (j ∈ ks)) c), I.laid (t' := tk) kept (Nat.le_refl _) (setO_new new), rfl, q _ c (I.hok.fresh (Nat.le_refl _))⟩
/-- sorted(set(e)) -/
theorem xl_sortedOf {ks ns : List Int} {pa pb : Pos} (T : List Int) (hm : X.mg "sorted" = none) (hm2 : X.mg "set" = none) (L : Live M H) (ha : XD X M σ H e (.list (ks.map PyData.int))) (hz : ks.length ≤ 4000) (hT : T.length < 64) (hsub : ∀ k ∈ ks, k ∈ T) (hasc : ns.Pairwise (· < ·)) (hmem : ∀ k, k ∈ ns ↔ k ∈ ks) (hc : X.calm = true := by rfl) (hg : Gl X "sorted" := by rfl) (hg2 : Gl X "set" := by rfl)
    (he : starEach [.Call (.Name "set" pa) [e] [] pb] X.env = (false, eval (.Call (.Name "set" pa) [e] [] pb) X.env) :: starEach [] X.env := by rfl) (he2 : starEach [e] X.env = (false, eval e X.env) :: starEach [] X.env := by rfl) (hpl : (backTo p2 (starEach [] X.env)).any (·.1) = false := by rfl) (hpl2 : (backTo pb (starEach [] X.env)).any (·.1) = false := by rfl) :
    XL X M σ H (.Call (.Name "sorted" p1) [.Call (.Name "set" pa) [e] [] pb] [] p2) (ns.map PyData.int) := fun H1 s1 Q q => by
  refine re_B (cr_sortedB hc) (ra_1 ⟨_, pe_callTy (cr_setOf hc) hg2 hm2 (by decide +kernel) ra_ (by decide) (by decide) he2 hpl2, ra_1 (ha H1 s1 _ fun v H2 s2 hv => ?_) he2⟩ he) hm (by decide +kernel) hg (by decide) (by decide) he hpl
  obtain ⟨a, xs, rfl, ha, hx⟩ := dp_lst hv
  have ex := ints_v hx
  subst ex
  refine ⟨a, ks, rfl, SqL.of (hid_le _ _ ha), hz, fun p c hp => ⟨p, _, c, T, rfl, upd_same, hT, fun k hk => hsub k (of_decide_eq_true hk), fun ms l h1 h2 hl => ?_⟩⟩
  have e : ms = ns := asc_eq h1 hasc fun k => (h2 k).trans ((decide_eq_true_iff).trans (hmem k).symm)
  subst e
  have hl2 : H2 l = none := by
    by_cases z : l = p
    · subst z; exact hp
    · rw [upd_ne z] at hl; exact hl
  refine q l _ _ ((s2.trans (same_new hp)).trans (same_new hl)) (s2.free hl2) upd_same ?_
  exact ints_dq ms
/-- sorted({elt for tg in iter if ..}), the members among fewer than 64 -/
theorem xl_sortedSetB (f : PyData → Option Int) (ns T : List Int) (hm : X.mg "sorted" = none) (L : Live M H) (hN : X.N.Nodup) (hit : XD X M σ H iter (.list ds)) (ok : BlkOk X.N X.env.scope scope own) (hz : ds.length ≤ 4000)
    (hst : ∀ p d v H1, d ∈ ds → H p = none → Same H H1 → Live (p :: M) H1 → Dq X.K (hid (p :: M) H1) v d → BG X scope tg v (wipe σ (own.map (·.2))) H1 fun τ H2 => wipe τ (own.map (·.2)) = wipe σ (own.map (·.2)) ∧ BT X scope ifs τ H2 fun k H3 =>
      Same H1 H3 ∧ ((k = true ∧ ∃ n, f d = some n ∧ BE X scope elt τ H3 fun y H4 => Same H3 H4 ∧ y = .int n) ∨ (k = false ∧ f d = none)))
    (hasc : ns.Pairwise (· < ·)) (hmem : ∀ k, k ∈ ns ↔ ∃ d ∈ ds, f d = some k) (hT : T.length < 64) (hsub : ∀ k ∈ ns, k ∈ T) (hc : X.calm = true := by rfl) (hs : ∀ x, foldedSetIterable iter X.env x = pure x := by intro _; rfl) (hg : Gl X "sorted" := by rfl)
    (he : starEach [.SetComp elt [⟨tg, iter, ifs, 0⟩] scope pos] X.env = (false, eval (.SetComp elt [⟨tg, iter, ifs, 0⟩] scope pos) X.env) :: starEach [] X.env := by rfl) (hpl : (backTo p2 (starEach [] X.env)).any (·.1) = false := by rfl) :
    XL X M σ H (.Call (.Name "sorted" p1) [.SetComp elt [⟨tg, iter, ifs, 0⟩] scope pos] [] p2) (ns.map PyData.int) := fun H1 s1 Q q => by
  refine re_B (cr_sortedB hc) (ra_1 ⟨_, pe_setI (own := own) hc hN (pi_list re_) ok (fun _ _ _ _ _ => bg_) (fun _ _ _ _ _ => bt_) (fun _ _ _ _ _ => be_) hs, hit H1 s1 _ fun v H2 s2 hv => ?_⟩ he) hm (by decide +kernel) hg (by decide) (by decide) he hpl
  obtain ⟨a, xs, rfl, ha, hx⟩ := dp_lst hv
  have L2' : Live M H2 := L.mono (s1.trans s2)
  refine ⟨a, rfl, ⟨xs, SqL.of (hid_le _ _ ha)⟩, fun p hp => ?_⟩
  have hp0 : H p = none := (s1.trans s2).free hp
  refine set_list (xs := xs) (a := a) (fun i H' => Same H2 H' ∧ ∃ S c, H' p = some (SetO X.w p S c) ∧ c ≤ i ∧ ∀ k, S k = true ↔ ∃ d ∈ ds.take i, f d = some k)
    ⟨same_new hp, fun _ => false, 0, upd_same, Nat.le_refl _, fun k => by simp⟩ (fun i H' _ z => SqL.of (z.1 _ _ (hid_le _ _ ha))) (fun i x H' hi z => ?_) (fun H' z => ?_)
  · obtain ⟨sH, S, n, hS, hn, hk⟩ := z
    obtain ⟨d, hd1, hd2⟩ := dpa_get' hx hi
    have hdm : d ∈ ds := List.mem_of_getElem? hd1
    have hi60 : i < 4000 := by have := (List.getElem?_eq_some_iff.mp hd1).1; omega
    have etake : ds.take (i + 1) = ds.take i ++ [d] := by rw [List.take_add_one, hd1]; rfl
    have Lp : Live (p :: M) H' := fun b hb => by
      rcases List.mem_cons.mp hb with z | hb
      · subst z; rw [hS]; simp
      · exact L2'.mono sH b hb
    refine bg_mono (hst p d x H' hdm hp0 ((s1.trans s2).trans sH) Lp (hd2.up (hid_step hp sH))) fun τ Ha ⟨hw, hbt⟩ => ⟨hw, bt_mono hbt fun k Hb ⟨sb, hk'⟩ => ?_⟩
    rcases hk' with ⟨hk1, m, hf, hbe⟩ | ⟨hk1, hf⟩
    · subst hk1
      refine iteT (be_mono hbe fun y Hc ⟨sc, hy⟩ => ?_)
      have sd := sb.trans sc
      refine ⟨m, S, n, hy, sd _ _ hS, Nat.lt_of_lt_of_le (by omega : n + 1 < 4096) (Nat.le_refl _), fun b o e => ?_, fun j => S j || decide (j = m), (if S m = true then n else n + 1), upd_same, by split <;> omega, fun j => ?_⟩
      · rw [upd_ne (ne_of_none e hp)]
        exact sd _ _ (sH _ _ e)
      · rw [Bool.or_eq_true, decide_eq_true_eq, hk j, etake]
        constructor
        · rintro (⟨d', h1, h2⟩ | h)
          · exact ⟨d', List.mem_append_left _ h1, h2⟩
          · exact ⟨d, List.mem_append_right _ (List.mem_singleton.mpr rfl), by rw [hf, h]⟩
        · rintro ⟨d', h1, h2⟩
          rcases List.mem_append.mp h1 with h1 | h1
          · exact .inl ⟨d', h1, h2⟩
          · rw [List.mem_singleton.mp h1, hf] at h2
            exact .inr (Option.some.inj h2).symm
    · subst hk1
      refine iteF ⟨sH.trans sb, S, n, sb _ _ hS, by omega, fun j => ?_⟩
      rw [hk j, etake]
      constructor
      · rintro ⟨d', h1, h2⟩
        exact ⟨d', List.mem_append_left _ h1, h2⟩
      · rintro ⟨d', h1, h2⟩
        rcases List.mem_append.mp h1 with h1 | h1
        · exact ⟨d', h1, h2⟩
        · rw [List.mem_singleton.mp h1, hf] at h2
          cases h2
  · obtain ⟨sH, S, n, hS, hn, hk⟩ := z
    have hlen := dpa_len hx
    rw [hlen, List.take_length] at hk
    refine ⟨p, S, n, T, rfl, hS, hT, fun k hk1 => hsub k ((hmem k).mpr ((hk k).mp hk1)), fun ks l h1 h2 hl => ?_⟩
    have e : ks = ns := asc_eq h1 hasc fun k => (h2 k).trans ((hk k).trans (hmem k).symm)
    subst e
    refine q l _ _ ((s2.trans sH).trans (same_new hl)) ((s2.trans sH).free hl) upd_same ?_
    rw [hid_new (L2'.mono sH) hl]
    exact ints_dq ks
/-- sum(t) -/
theorem cr_sumT (hc : X.calm = true) : CallR X (.builtin "sum") (fun vs H Q => ∃ (a : Addr) (ns : List Int), vs = [V.ref a] ∧ SqT X.K H a (ns.map V.int) ∧ Q (.int ns.sum) H) := by
  intro pins s σ H vs us Q I r h
  obtain ⟨a, ns, rfl, hs, q⟩ := h
  obtain ⟨its, rv, ⟨o, ho, hcl, n, hd⟩, _⟩ := I.tuple hs
  obtain ⟨u, rfl, ru⟩ := vals1 r
  obtain rfl : u = Value.ref a := ru
  obtain ⟨xs, e⟩ := rv.ints.allInts.items
  have hn : numsOf (intItems xs).toList = ns := by rw [← e]; exact rv.ints.numsOf
  rw [nums_intItems] at hn
  rw [e] at hd
  refine PySem.W.ktm_sumG (I.ok.hd hc) ⟨o, ho, hcl, n, hd⟩ fun h' tk t' hk => ?_
  rw [preSum_eq, List.take_of_length_le (by simp), hn]
  exact ⟨.int _, H, I.kept hk, ⟨_, rfl⟩, q⟩
theorem xd_sumT {ns : List Int} (hm : X.mg "sum" = none) (ha : XD X M σ H e (.tuple (ns.map PyData.int))) (hc : X.calm = true := by rfl) (hg : Gl X "sum" := by rfl)
    (he : starEach [e] X.env = (false, eval e X.env) :: starEach [] X.env := by rfl) (hpl : (backTo p2 (starEach [] X.env)).any (·.1) = false := by rfl) : XD X M σ H (.Call (.Name "sum" p1) [e] [] p2) (.int ns.sum) := fun H1 s1 Q q =>
  re_B (cr_sumT hc) (ra_1 (ha H1 s1 _ fun v H2 s2 hv => by
    obtain ⟨a, xs, rfl, ha, hx⟩ := dp_tup hv
    have ex := ints_v hx
    subst ex
    exact ⟨a, ns, rfl, same_seqT hid_le ha, q _ H2 s2 (.int _)⟩) he) hm (by decide +kernel) hg (by decide) (by decide) he hpl
end
end Dl

set_option Elab.async false
set_option linter.all false
set_option maxRecDepth 100000
set_option maxHeartbeats 8000000
/-! enumerate of a tuple; comprehensions over enumerate, of two clauses, over zip; a tuple's star -/
namespace Dl
open PySem PySem.Spec PyProof.Rows L2
section
theorem meets_enum1 {v : Value} {ob : Obj} {Pre : Heap → Prop} (G : Begins v ob Pre) : Meets (Builtin.«enumerate.__new__» ⟨[.type "enumerate", v], []⟩) fun _ Post z => Pre z.heap ∧
    Post (.ok (.ret (.ref (z.heap.push ob).objs.size))) { z with heap := (z.heap.push ob).push { cls := .type "enumerate", data := .fields #[.none, .bool false, .ref z.heap.objs.size, rawInt 0, .none, .none] } } :=
  .of_wp fun pr wd Ar Post z pre => by
    obtain ⟨hz, gz, dz, tz, oz⟩ := z
    obtain ⟨k1, k2⟩ := pre
    have sub1 := sub_enumerate
    have it1 : ∀ {B : Around} {Er : Value → Shared → Prop} {Qz : Value → Shared → Prop}, Qz (.ref hz.objs.size) ⟨hz.push ob, gz, dz, tz, oz⟩ → wpAny (model pr wd) B (pyIter v) Qz Er ⟨hz, gz, dz, tz, oz⟩ := fun k => G.iter pr wd _ _ ⟨hz, gz, dz, tz, oz⟩ _ k1 k
    wp_walk using it1
    refine wpAny_stack_any fun stk => wpAny_pure ?_
    split
    · rename_i cl _ _ _ _ _
      cases (cl == Value.type "enumerate") <;> (wp_walk using it1; exact ⟨_, rfl, k2⟩)
    · wp_walk using it1
      exact ⟨_, rfl, k2⟩
theorem enum1_begins {pr : Program} {wd : World} {Ar : Around} {Er : Value → Shared → Prop} {z : Shared} {v : Value} {ob : Obj} {Pre : Heap → Prop} {Post : Value → Shared → Prop} (G : Begins v ob Pre) (pre : Pre z.heap)
    (fin : ∀ h', IsEnum h' (z.heap.objs.size + 1) z.heap.objs.size 0 .none → h'.get? z.heap.objs.size = some ob → (∀ b u, z.heap.get? b = some u → h'.get? b = some u) → Post (.ref (z.heap.objs.size + 1)) { z with heap := h' }) :
    wpAny (model pr wd) Ar (call (.type "enumerate") [v]) Post Er z := by
  refine callType_new F.called_enumerate (by decide) (F.typeCall_enumerate_1 _) (F.newCall_enumerate_1 _) (fun ob2 => F.args_object_init_2 ob2 _) F.entry_enumerate_new (meets_enum1 G) ⟨pre, ?_⟩
  have sz : (z.heap.push ob).objs.size = z.heap.objs.size + 1 := Heap.size_push ..
  show _ ∧ _
  rw [sz]
  have en : IsEnum ((z.heap.push ob).push { cls := .type "enumerate", data := .fields #[.none, .bool false, .ref z.heap.objs.size, rawInt 0, .none, .none] }) (z.heap.objs.size + 1) z.heap.objs.size 0 .none := by
    have q := Heap.get?_push_size (z.heap.push ob) (o := { cls := .type "enumerate", data := .fields #[.none, .bool false, .ref z.heap.objs.size, rawInt 0, .none, .none] }) rfl
    rw [sz] at q
    exact q
  exact ⟨⟨_, en, rfl⟩, fin _ en (Heap.get?_push_of_some _ (Heap.get?_push_size _ G.free)) fun b u x => Heap.get?_push_of_some _ (Heap.get?_push_of_some _ x)⟩
/-- the tuple at a, each item in a new pair -/
def IteT (K : PySem.W.Frag) (a : Addr) : It :=
  ⟨fun i H => ∃ (ys : List V) (y : V), SqT K H a ys ∧ ys[i]? = some y, fun i H v H' => ∃ T y, v = .ref T ∧ H T = none ∧ H' = upd H T (.tup [.int (i : Nat), y]) ∧ ∀ ys, SqT K H a ys → ys[i]? = some y, fun i H => ∃ ys : List V, SqT K H a ys ∧ ys.length ≤ i⟩
theorem tup_apart {h : Heap} {a it : Addr} {i : Nat} {its : Array Value} (h1 : h.IsTuple a its) (h2 : h.IsTupleIter it a i) : a ≠ it := fun z => by
  subst z
  obtain ⟨o, ho, hc, n, hd⟩ := h1
  obtain ⟨o2, ho2, hc2, hd2⟩ := h2
  rw [ho] at ho2
  cases ho2
  rw [hd] at hd2
  cases hd2
theorem turn_enumT {P : Program} {w : World} {K : PySem.W.Frag} {elts : List Expr} {kk : Nat} {tpos : Pos} (a e it : Addr) :
    Turn P w K (.Tuple elts kk tpos) (IteT K a) [e, it] e (fun i h => (∃ old, IsEnum h e it ((i : Nat) : Int) old) ∧ h.IsTupleIter it a i ∧ e ≠ it) where
  mem := List.mem_cons_self ..
  obj := fun i h st b hb => by
    obtain ⟨⟨old, he⟩, ⟨o, ho, hc, hd⟩, _⟩ := st
    rcases (show b = e ∨ b = it by simpa using hb) with z | z
    · subst z; exact ⟨_, he, fun v q => nomatch q⟩
    · subst z; exact ⟨o, ho, fun v q => by rw [hd] at q; cases q⟩
  keep := fun i h h' st k => by
    obtain ⟨⟨old, he⟩, hi, hne⟩ := st
    exact ⟨⟨old, k e (List.mem_cons_self ..) _ he⟩, hi.at fun o q => k it (List.mem_cons_of_mem _ (List.mem_cons_self ..)) o q, hne⟩
  item := by
    intro X hP hw hK hc i pins s σ H E I hf st hg
    subst hP hw hK
    obtain ⟨⟨old, he⟩, hit, hne⟩ := st
    obtain ⟨ys, y, hq, hy⟩ := hg
    obtain ⟨its, rv, p, hz⟩ := I.tuple hq
    obtain ⟨u, hu, ru⟩ := rv.get hy
    have le : e < s.heap.objs.size := Heap.lt_size he
    have li : it < s.heap.objs.size := by obtain ⟨_, q, _⟩ := hit; exact Heap.lt_size q
    have p' : s.heap.IsTuple a its.toArray := p
    have hea : e ≠ a := fun z => by
      subst z
      obtain ⟨o, ho, hcl, n, hd⟩ := p'
      have he2 : s.heap.get? e = some _ := he
      rw [ho] at he2
      cases he2
      cases hd
    have D := Draws.tuple (prog := X.prog) (w := X.w) (A := X.A.in1) (by have := I.ok.hd hc; simpa using this) it a (tup_apart p' hit) its.toArray
    refine wpAny_pyNext_enum_itemD D he ⟨hit, p'⟩ (by have := (List.getElem?_eq_some_iff.mp hu).1; simpa using this) hne (by simp [hne, hea]) fun x h' tk hx ho stt hT hsz hk => ?_
    have ex : x = u := by
      have q : its.toArray[i]? = some x := hx
      rw [List.getElem?_toArray, hu] at q
      exact (Option.some.inj q).symm
    subst ex
    refine ⟨_, rfl, wpAny_letOwnedTupleGo_enum (s := { s with heap := h', toks := tk + 1 }) ho fun h2 he2 sb => ?_⟩
    have hT2 : h2.get? s.heap.objs.size = some { cls := .type "tuple", data := .seq #[.int i tk, x] } := (sb.2 _ (Nat.ne_of_gt le)).trans hT
    have nw : ObjOk X.prog X.w (upd H s.heap.objs.size (.tup [.int (i : Nat), y])) h2 s.heap.objs.size (.tup [.int (i : Nat), y]) :=
      ⟨by show 2 ≤ sizeLine; decide, [.int i tk, x], .cons ⟨_, rfl⟩ (.cons ru .nil), ⟨_, hT2, rfl, _, rfl⟩⟩
    have J1 : Inv X pins σ (upd H s.heap.objs.size (.tup [.int (i : Nat), y])) { s with heap := h2, toks := tk + 1 } :=
      I.turnedNew (ch := [e, it]) (fun b ob hb q => (sb.2 b (fun z => hb (by simp [z]))).trans (hk b ob (fun z => hb (by simp [z])) (fun z => hb (by simp [z])) q)) hf (Nat.le_refl _) nw
    refine ⟨.ref s.heap.objs.size, _, J1, rfl, ⟨_, y, rfl, I.hok.fresh (Nat.le_refl _), rfl, fun zs hzs => by rw [I.tuple_inj hzs hq]; exact hy⟩, ⟨⟨x, ?_⟩, stt.1.at fun o q => (sb.2 it (Ne.symm hne)).trans q, hne⟩, fun b hb => ?_⟩
    · have e1 : (((i + 1 : Nat) : Nat) : Int) = (i : Int) + 1 := Int.natCast_add i 1
      rw [e1]
      exact he2
    · have lb : b < s.heap.objs.size := by
        rcases (show b = e ∨ b = it by simpa using hb) with z | z
        · rw [z]; exact le
        · rw [z]; exact li
      rw [upd_ne (Nat.ne_of_lt lb)]
      exact (hf b hb).1
  done := by
    intro X hP hw hK hc i pins s σ H E I hf st hg
    subst hP hw hK
    obtain ⟨⟨old, he⟩, hit, hne⟩ := st
    obtain ⟨ys, hq, hy⟩ := hg
    obtain ⟨its, rv, p, hz⟩ := I.tuple hq
    have p' : s.heap.IsTuple a its.toArray := p
    obtain ⟨f0, f1, f2, f3, f4, f5⟩ := hf it (List.mem_cons_of_mem _ (List.mem_cons_self ..))
    have hl := rv.length
    -- at the end the place is the length; beyond it the iterator has not come
    by_cases hi : i = its.toArray.size
    · have D := Draws.tuple (prog := X.prog) (w := X.w) (A := X.A.in1) (by have := I.ok.hd hc; simpa using this) it a (tup_apart p' hit) its.toArray
      subst hi
      exact wpAny_pyNext_enum_endD D he ⟨hit, p'⟩ fun h' eb => ⟨rfl, I.turned (t' := s.toks) (fun b o hb q => eb b o hb q) f0 f1 f3 f4 f5⟩
    · have hT : s.TypeIs (.ref e) "enumerate" := ⟨_, he, rfl⟩
      unfold pyNext
      refine wpAny_bind (wpAny_attempt (wpAny_callSpecial?_slot (name := Str.ofString "__next__") hT F.slot_enumerate_next (wpAny_call_entry F.slot_enumerate_next hT F.entry_enumerate_next ?_ (F.args_enumerate_next_1 _))))
      show wpAny _ _ (field (.ref e) 2 >>= _) _ _ _
      refine wpAny_bind (wpAny_field he rfl (x := .ref it) rfl ?_)
      refine wpAny_bind (wpAny_nextOf_tuple_end (by have := I.ok.hd hc; simpa using this) hit p' (by simp; omega) fun h' xx eb hxx => ?_)
      obtain ⟨o, ho, hcc⟩ := hxx
      refine wpAny_bind (wpAny_isInstance (T := "StopIteration") (b := true) ⟨o, ho, hcc⟩ isSubtype_stop (wpAny_pure ⟨rfl, I.turned (t' := s.toks) (fun b o hb q => eb b o hb q) f0 f1 f3 f4 f5⟩))
  self := fun A i s Q E st h => let ⟨⟨_, he⟩, _⟩ := st; wpAny_pyIter_enum he h
def iEnumT (K : PySem.W.Frag) (ta : TA) : TI := fun σ H R => ta σ H fun vs H1 => ∃ a ys, vs = [.ref a] ∧ SqT K H1 a ys ∧ R (IteT K a) H1
theorem pi_enumT {X : Cx} {e : Expr} {ta : TA} {p pos tpos : Pos} {elts : List Expr} {kk : Nat} (hg : Gl X "enumerate") (hm : X.mg "enumerate" = none) (ha : PA X [e] ta) (hs : starEach [e] X.env = [(false, eval e X.env)]) :
    PI X (.Tuple elts kk tpos) (.Call (.Name "enumerate" p) [e] [] pos) (iEnumT X.K ta) := by
  refine ⟨fun pins s σ H R I h => ?_⟩
  refine Call_ (ld_blt I hg hm boot_enumerate (PyProof.Rows.callWith_type1 (thn (ha.run pos pins s σ H _ I h) fun us z ⟨vs, H1, I1, r1, a, ys, ex, hq, q⟩ => ?_) hs rfl))
  subst ex
  obtain ⟨u, rfl, ru⟩ := vals1 r1
  obtain rfl : u = Value.ref a := ru
  obtain ⟨its, rv, p', hz⟩ := I1.tuple hq
  refine enum1_begins (begins_tuple a its.toArray) p' fun h' he hit hk => wpAny_pyIter_enum he ?_
  have J2 : Inv X pins σ H1 { z with heap := h' } := I1.kept (t' := z.toks) hk
  refine ⟨z.heap.objs.size + 1, [z.heap.objs.size + 1, z.heap.objs.size], _, _, H1, rfl, J2, turn_enumT a (z.heap.objs.size + 1) z.heap.objs.size, ⟨⟨.none, he⟩, ⟨_, hit, rfl, rfl⟩, Nat.succ_ne_self _⟩, fun b hb => ?_, q⟩
  have lb : z.heap.objs.size ≤ b := by
    rcases (show b = z.heap.objs.size + 1 ∨ b = z.heap.objs.size by simpa using hb) with y | y
    · rw [y]; exact Nat.le_add_right _ _
    · rw [y]; exact Nat.le_refl _
  exact I1.fpOk lb (I1.hok.fresh lb)
end
end Dl

set_option Elab.async false
set_option linter.all false
set_option maxRecDepth 100000
set_option maxHeartbeats 8000000
namespace Dl
open PySem PySem.Spec PyProof.Rows L2
/-- each item with its place -/
def enumM (g : Nat → PyData → PyData) : Nat → List PyData → List PyData
  | _, [] => []
  | i, d :: ds => g i d :: enumM g (i + 1) ds
theorem enumM_snoc (g : Nat → PyData → PyData) : ∀ (k : Nat) (ds : List PyData) (d : PyData), enumM g k (ds ++ [d]) = enumM g k ds ++ [g (k + ds.length) d]
  | k, [], d => rfl
  | k, e :: ds, d => by
    show g k e :: enumM g (k + 1) (ds ++ [d]) = g k e :: (enumM g (k + 1) ds ++ [_])
    rw [enumM_snoc g (k + 1) ds d, List.length_cons]
    have e1 : k + 1 + ds.length = k + (ds.length + 1) := by omega
    rw [e1]
theorem enumM_len (g : Nat → PyData → PyData) : ∀ (k : Nat) (ds : List PyData), (enumM g k ds).length = ds.length
  | _, [] => rfl
  | k, d :: ds => by show _ + 1 = _ + 1; rw [enumM_len g _ ds]
theorem zip_snoc {α β γ : Type} (g : α → β → γ) {xs : List α} {ys : List β} {i : Nat} {x : α} {y : β} (h1 : xs[i]? = some x) (h2 : ys[i]? = some y) : (List.zipWith g xs ys).take (i + 1) = (List.zipWith g xs ys).take i ++ [g x y] := by
  rw [List.take_add_one, List.getElem?_zipWith, h1, h2]
  rfl
section
variable {X : Cx} {M : List Addr} {σ : L2.St} {H H' : Hp} {e a b c o elt tg iter iter1 tg1 : Expr} {ifs : List Expr} {scope : Scope} {own : List (Str × Nat)} {es : List Expr} {d d1 d2 : PyData} {ds ds2 eds : List PyData} {x : Str} {v : V} {pos p1 p2 p3 tpos py spos : Pos} {D : Ends} {rest : List Stmt} {Q : VK}
theorem re_up (h : ∀ H1, Same H H1 → RE X e σ H1 Q) : RE X e σ H Q := h H (Same.refl H)
theorem out_of {p : Addr} {M : List Addr} {H : Hp} {vs : List V} {ds : List PyData} {K : PySem.W.Frag} (h : DqAll K (hid (p :: M) H) vs ds) : DqAll K (hid M H) vs ds := h.up fun b o e => by
  have n1 : b ∉ p :: M := fun z => by unfold hid at e; rw [if_pos z] at e; cases e
  rw [hid_of (fun z => n1 (List.mem_cons_of_mem _ z))]
  exact hid_le _ _ e
/-- [elt for (i, x) in enumerate(e)], e a tuple -/
theorem xl_enumT {elts : List Expr} {kk : Nat} (g : Nat → PyData → PyData) (hm : X.mg "enumerate" = none) (L : Live M H) (hN : X.N.Nodup) (ha : XD X M σ H a (.tuple ds)) (ok : BlkOk X.N X.env.scope scope own) (hz : ds.length ≤ 100000)
    (hst : ∀ p (i : Nat) d T y H1, ds[i]? = some d → H p = none → Same H H1 → Live (p :: M) H1 → Dq X.K (hid (p :: M) H1) y d → H1 T = some (.tup [.int (i : Nat), y]) → BG X scope (.Tuple elts kk tpos) (.ref T) (wipe σ (own.map (·.2))) H1 fun τ H2 => wipe τ (own.map (·.2)) = wipe σ (own.map (·.2)) ∧ Same H1 H2 ∧
      BE X scope elt τ H2 fun u H3 => Same H2 H3 ∧ Dq X.K (hid (p :: M) H3) u (g i d))
    (hc : X.calm = true := by rfl) (hs : ∀ x, foldedSetIterable (.Call (.Name "enumerate" p1) [a] [] p2) X.env x = pure x := by intro _; rfl) (hg : Gl X "enumerate" := by rfl) (he : starEach [a] X.env = [(false, eval a X.env)] := by rfl) :
    XL X M σ H (.ListComp elt [⟨.Tuple elts kk tpos, .Call (.Name "enumerate" p1) [a] [] p2, [], 0⟩] scope pos) (enumM g 0 ds) := fun H1 s1 Q q =>
  ⟨_, pe_lc (own := own) hc hN (pi_enumT hg hm ra_ he) ok (fun _ _ _ _ _ => bg_) (fun _ _ _ _ _ => bt_) (fun _ _ _ _ _ => be_) hs, ra_1 (ha H1 s1 _ fun v H2 s2 hv => by
    obtain ⟨t, xs, rfl, ht, hx⟩ := dp_tup hv
    have ht0 := same_seqT hid_le ht
    have L2' : Live M H2 := L.mono (s1.trans s2)
    refine ⟨t, xs, rfl, ht0, fun p hp => ?_⟩
    have hp0 : H p = none := (s1.trans s2).free hp
    refine ⟨fun i m Hx => m + i = xs.length ∧ Same H2 Hx ∧ ∃ acc, Hx p = some (.lst acc) ∧ DqAll X.K (hid (p :: M) Hx) acc (enumM g 0 (ds.take i)), ⟨xs.length, rfl, same_new hp, [], upd_same, .nil⟩, fun i m Hx w => ?_⟩
    obtain ⟨hmi, sx, acc, hacc, hda⟩ := w
    have gt : SqT X.K Hx t xs := same_seqT sx ht0
    cases ex : xs[i]? with
    | none =>
      have hge : xs.length ≤ i := List.getElem?_eq_none_iff.mp ex
      have ei : ds.take i = ds := List.take_of_length_le (by rw [← dpa_len hx]; exact hge)
      rw [ei] at hda
      exact .inl ⟨⟨xs, gt, hge⟩, q p acc Hx (s2.trans sx) (s2.free hp) hacc (out_of hda)⟩
    | some x0 =>
      have hlt := (List.getElem?_eq_some_iff.mp ex).1
      refine .inr ⟨⟨xs, x0, gt, ex⟩, fun Hy => Same H2 Hy ∧ ∃ acc, Hy p = some (.lst acc) ∧ DqAll X.K (hid (p :: M) Hy) acc (enumM g 0 (ds.take (i + 1))), fun Hy hy => ⟨m - 1, by omega, by omega, hy⟩, fun v Hy hyl => ?_⟩
      obtain ⟨T, y, rfl, hT, rfl, h1⟩ := hyl
      obtain ⟨d, hd1, hd2⟩ := dpa_get' hx (h1 xs gt)
      have sy : Same Hx (upd Hx T (.tup [.int (i : Nat), y])) := same_new hT
      have hpy := sy _ _ hacc
      have Lp : Live (p :: M) (upd Hx T (.tup [.int (i : Nat), y])) := fun b hb => by
        rcases List.mem_cons.mp hb with z | hb
        · subst z; rw [hpy]; simp
        · exact (L2'.mono sx).mono sy b hb
      have hids : Same (hid M H2) (hid (p :: M) (upd Hx T (.tup [.int (i : Nat), y]))) := hid_step hp (sx.trans sy)
      refine bg_mono (hst p i d T y _ hd1 hp0 (((s1.trans s2).trans sx).trans sy) Lp (hd2.up hids) upd_same) fun τ Ha ⟨hw, sa, hbe⟩ => ⟨hw, bt_nil (iteT (be_mono hbe fun u Hb ⟨sb, hu⟩ => ?_))⟩
      have sd := (sy.trans sa).trans sb
      refine ⟨acc, sd _ _ hacc, ?_, fun b o e => ?_, acc ++ [u], upd_same, ?_⟩
      · have h4 : 100000 < sizeLine := by decide
        have h5 : (enumM g 0 (ds.take i)).length ≤ i := by rw [enumM_len, List.length_take]; omega
        have h6 := dpa_len hx
        rw [dpa_len hda]
        omega
      · rw [upd_ne (ne_of_none e hp)]
        exact sd _ _ (sx _ _ e)
      · rw [hid_upd_ne, List.take_add_one, hd1]
        show DqAll X.K (hid (p :: M) Hb) (acc ++ [u]) (enumM g 0 (ds.take i ++ [d]))
        have hl : (ds.take i).length = i := by rw [List.length_take]; have := (List.getElem?_eq_some_iff.mp hd1).1; omega
        rw [enumM_snoc, hl, Nat.zero_add]
        exact dpa_app (hda.up (hid_mono sd)) (.cons hu .nil)) he⟩
/-- .. over a list, as a statement of its own line -/
theorem lc_enumL {elts : List Expr} {kk : Nat} (g : Nat → PyData → PyData) (L : Live M H) (ha : XD X M σ H a (.list ds)) (hz : ds.length ≤ 100000)
    (hst : ∀ p (i : Nat) d T y H1, ds[i]? = some d → H p = none → Same H H1 → Live (p :: M) H1 → Dq X.K (hid (p :: M) H1) y d → H1 T = some (.tup [.int (i : Nat), y]) → BG X scope (.Tuple elts kk tpos) (.ref T) (wipe σ (own.map (·.2))) H1 fun τ H2 => wipe τ (own.map (·.2)) = wipe σ (own.map (·.2)) ∧ Same H1 H2 ∧
      BE X scope elt τ H2 fun u H3 => Same H2 H3 ∧ Dq X.K (hid (p :: M) H3) u (g i d))
    (q : ∀ p xs H2, Same H H2 → H p = none → H2 p = some (.lst xs) → DqAll X.K (hid M H2) xs (enumM g 0 ds) → Q (.ref p) H2) (he1 : starEach [a] X.env = (false, eval a X.env) :: starEach [] X.env := by rfl) :
    tLc (iEnum X.K (RA X [a])) (BG X scope (.Tuple elts kk tpos)) (BT X scope []) (BE X scope elt) (own.map (·.2)) σ H Q :=
  ra_1 (ha H (Same.refl H) _ fun v H2 s2 hv => by
    obtain ⟨t, xs, rfl, ht, hx⟩ := dp_lst hv
    have ht0 := hid_le _ _ ht
    have L2' : Live M H2 := L.mono s2
    refine ⟨t, xs, rfl, SqL.of ht0, fun p hp => ?_⟩
    have hp0 : H p = none := s2.free hp
    refine ⟨fun i m Hx => m + i = xs.length ∧ Same H2 Hx ∧ ∃ acc, Hx p = some (.lst acc) ∧ DqAll X.K (hid (p :: M) Hx) acc (enumM g 0 (ds.take i)), ⟨xs.length, rfl, same_new hp, [], upd_same, .nil⟩, fun i m Hx w => ?_⟩
    obtain ⟨hmi, sx, acc, hacc, hda⟩ := w
    have gt : SqL X.K Hx t xs := SqL.of (sx _ _ ht0)
    cases ex : xs[i]? with
    | none =>
      have hge : xs.length ≤ i := List.getElem?_eq_none_iff.mp ex
      have ei : ds.take i = ds := List.take_of_length_le (by rw [← dpa_len hx]; exact hge)
      rw [ei] at hda
      exact .inl ⟨⟨xs, gt, hge⟩, q p acc Hx (s2.trans sx) (s2.free hp) hacc (out_of hda)⟩
    | some x0 =>
      have hlt := (List.getElem?_eq_some_iff.mp ex).1
      refine .inr ⟨⟨xs, x0, gt, ex⟩, fun Hy => Same H2 Hy ∧ ∃ acc, Hy p = some (.lst acc) ∧ DqAll X.K (hid (p :: M) Hy) acc (enumM g 0 (ds.take (i + 1))), fun Hy hy => ⟨m - 1, by omega, by omega, hy⟩, fun v Hy hyl => ?_⟩
      obtain ⟨T, y, rfl, hT, rfl, h1⟩ := hyl
      obtain ⟨d, hd1, hd2⟩ := dpa_get' hx (h1 xs gt)
      have sy : Same Hx (upd Hx T (.tup [.int (i : Nat), y])) := same_new hT
      have hpy := sy _ _ hacc
      have Lp : Live (p :: M) (upd Hx T (.tup [.int (i : Nat), y])) := fun b hb => by
        rcases List.mem_cons.mp hb with z | hb
        · subst z; rw [hpy]; simp
        · exact (L2'.mono sx).mono sy b hb
      have hids : Same (hid M H2) (hid (p :: M) (upd Hx T (.tup [.int (i : Nat), y]))) := hid_step hp (sx.trans sy)
      refine bg_mono (hst p i d T y _ hd1 hp0 ((s2.trans sx).trans sy) Lp (hd2.up hids) upd_same) fun τ Ha ⟨hw, sa, hbe⟩ => ⟨hw, bt_nil (iteT (be_mono hbe fun u Hb ⟨sb, hu⟩ => ?_))⟩
      have sd := (sy.trans sa).trans sb
      refine ⟨acc, sd _ _ hacc, ?_, fun b o e => ?_, acc ++ [u], upd_same, ?_⟩
      · have h4 : 100000 < sizeLine := by decide
        have h5 : (enumM g 0 (ds.take i)).length ≤ i := by rw [enumM_len, List.length_take]; omega
        have h6 := dpa_len hx
        rw [dpa_len hda]
        omega
      · rw [upd_ne (ne_of_none e hp)]
        exact sd _ _ (sx _ _ e)
      · rw [hid_upd_ne, List.take_add_one, hd1]
        show DqAll X.K (hid (p :: M) Hb) (acc ++ [u]) (enumM g 0 (ds.take i ++ [d]))
        have hl : (ds.take i).length = i := by rw [List.length_take]; have := (List.getElem?_eq_some_iff.mp hd1).1; omega
        rw [enumM_snoc, hl, Nat.zero_add]
        exact dpa_app (hda.up (hid_mono sd)) (.cons hu .nil)) he1
/-- [elt for (x, y) in zip(a, b)] -/
theorem lc_zip {elts : List Expr} {kk : Nat} (g : PyData → PyData → PyData) (L : Live M H) (ha : XD X M σ H a (.list ds)) (hb : XD X M σ H b (.list ds2)) (hz : ds.length ≤ 100000)
    (hst : ∀ p (i : Nat) d d2 T y z H1, ds[i]? = some d → ds2[i]? = some d2 → H p = none → Same H H1 → Live (p :: M) H1 → Dq X.K (hid (p :: M) H1) y d → Dq X.K (hid (p :: M) H1) z d2 → H1 T = some (.tup [y, z]) → BG X scope (.Tuple elts kk tpos) (.ref T) (wipe σ (own.map (·.2))) H1 fun τ H2 => wipe τ (own.map (·.2)) = wipe σ (own.map (·.2)) ∧ Same H1 H2 ∧
      BE X scope elt τ H2 fun u H3 => Same H2 H3 ∧ Dq X.K (hid (p :: M) H3) u (g d d2))
    (q : ∀ p xs H2, Same H H2 → H p = none → H2 p = some (.lst xs) → DqAll X.K (hid M H2) xs (List.zipWith g ds ds2) → Q (.ref p) H2)
    (he : starEach [a, b] X.env = (false, eval a X.env) :: starEach [b] X.env := by rfl) (he2 : starEach [b] X.env = (false, eval b X.env) :: starEach [] X.env := by rfl) :
    tLc (iZip X.K (RA X [a, b])) (BG X scope (.Tuple elts kk tpos)) (BT X scope []) (BE X scope elt) (own.map (·.2)) σ H Q :=
  ra_cons (ha H (Same.refl H) _ fun v H2 s2 hv => ra_1 (hb H2 s2 _ fun u H3 s3 hu => by
    obtain ⟨pa, xs, rfl, hpa, hx⟩ := dp_lst (hv.up (hid_mono s3))
    obtain ⟨pb, ys, rfl, hpb, hy⟩ := dp_lst hu
    have s03 := s2.trans s3
    have L3 : Live M H3 := L.mono s03
    refine ⟨pa, pb, xs, ys, rfl, SqL.of (hid_le _ _ hpa), SqL.of (hid_le _ _ hpb), fun p hp => ?_⟩
    have hp0 : H p = none := s03.free hp
    have hlx := dpa_len hx
    have hly := dpa_len hy
    refine ⟨fun i m Hx => m + i = min xs.length ys.length ∧ Same H3 Hx ∧ ∃ acc, Hx p = some (.lst acc) ∧ DqAll X.K (hid (p :: M) Hx) acc ((List.zipWith g ds ds2).take i), ⟨min xs.length ys.length, rfl, same_new hp, [], upd_same, .nil⟩, fun i m Hx w => ?_⟩
    obtain ⟨hmi, sx, acc, hacc, hda⟩ := w
    have ga : SqL X.K Hx pa xs := SqL.of (sx _ _ (hid_le _ _ hpa))
    have gb : SqL X.K Hx pb ys := SqL.of (sx _ _ (hid_le _ _ hpb))
    by_cases hlt : i < min xs.length ys.length
    · have l1 : i < xs.length := by omega
      have l2 : i < ys.length := by omega
      refine .inr ⟨⟨xs, ys, xs[i], ys[i], ga, gb, List.getElem?_eq_getElem l1, List.getElem?_eq_getElem l2⟩, fun Hy => Same H3 Hy ∧ ∃ acc, Hy p = some (.lst acc) ∧ DqAll X.K (hid (p :: M) Hy) acc ((List.zipWith g ds ds2).take (i + 1)), fun Hy hy => ⟨m - 1, by omega, by omega, hy⟩, fun v Hy hyl => ?_⟩
      obtain ⟨T, y, z, rfl, hT, rfl, h1, h2⟩ := hyl
      obtain ⟨d, hd1, hd2⟩ := dpa_get' hx (h1 xs ga)
      obtain ⟨d2, hd3, hd4⟩ := dpa_get' hy (h2 ys gb)
      have sy : Same Hx (upd Hx T (.tup [y, z])) := same_new hT
      have hpy := sy _ _ hacc
      have Lp : Live (p :: M) (upd Hx T (.tup [y, z])) := fun b hb => by
        rcases List.mem_cons.mp hb with z | hb
        · subst z; rw [hpy]; simp
        · exact (L3.mono sx).mono sy b hb
      have hids : Same (hid M H3) (hid (p :: M) (upd Hx T (.tup [y, z]))) := hid_step hp (sx.trans sy)
      refine bg_mono (hst p i d d2 T y z _ hd1 hd3 hp0 ((s03.trans sx).trans sy) Lp (hd2.up hids) (hd4.up hids) upd_same) fun τ Ha ⟨hw, sa, hbe⟩ => ⟨hw, bt_nil (iteT (be_mono hbe fun u Hb ⟨sb, hu⟩ => ?_))⟩
      have sd := (sy.trans sa).trans sb
      refine ⟨acc, sd _ _ hacc, ?_, fun b o e => ?_, acc ++ [u], upd_same, ?_⟩
      · have h4 : 100000 < sizeLine := by decide
        have h5 : ((List.zipWith g ds ds2).take i).length ≤ i := by rw [List.length_take]; omega
        rw [dpa_len hda]
        omega
      · rw [upd_ne (ne_of_none e hp)]
        exact sd _ _ (sx _ _ e)
      · rw [hid_upd_ne, zip_snoc g hd1 hd3]
        exact dpa_app (hda.up (hid_mono sd)) (.cons hu .nil)
    · have ei : (List.zipWith g ds ds2).take i = List.zipWith g ds ds2 := List.take_of_length_le (by rw [List.length_zipWith]; omega)
      rw [ei] at hda
      exact .inl ⟨⟨xs, ys, ga, gb, by omega⟩, q p acc Hx (s03.trans sx) hp0 hacc (out_of hda)⟩) he2) he
/-- [elt for tg in iter for tg1 in iter1], iter a list, iter1 always the tuple eds -/
theorem lc_comp2 {vs1 : List Nat} (g : PyData → PyData → PyData) (L : Live M H) (hit : XD X M σ H iter (.list ds)) (hz : ds.length * eds.length ≤ 100000)
    (hst : ∀ p d v H1, d ∈ ds → H p = none → Same H H1 → Live (p :: M) H1 → Dq X.K (hid (p :: M) H1) v d → BG X scope tg v (wipe σ (own.map (·.2))) H1 fun τ H2 => wipe τ (own.map (·.2)) = wipe σ (own.map (·.2)) ∧ Same H1 H2 ∧
      (∀ (s : Shared) (H0 : Hp) (C : Addr) (cl : List (Str × Addr)) (fp : List Addr), XD (X.blk s H0 scope (compEnvC scope cl C X.env) fp) (p :: M) τ H2 iter1 (.tuple eds)) ∧
      ∀ ed w H3, ed ∈ eds → (∀ b o, b ≠ p → H2 b = some o → H3 b = some o) → Live (p :: M) H3 → Dq X.K (hid (p :: M) H3) w ed → BG X scope tg1 w (wipe τ vs1) H3 fun τ2 H4 => wipe τ2 vs1 = wipe τ vs1 ∧ Same H3 H4 ∧ BE X scope elt τ2 H4 fun u H5 => Same H4 H5 ∧ Dq X.K (hid (p :: M) H5) u (g d ed))
    (q : ∀ p xs H2, Same H H2 → H p = none → H2 p = some (.lst xs) → DqAll X.K (hid M H2) xs (ds.flatMap fun d => eds.map (g d)) → Q (.ref p) H2) :
    tLc2 (iList X.K (RE X iter)) (BG X scope tg) (BT X scope []) (iTup X.K (BE X scope iter1)) (BG X scope tg1) (BT X scope []) (BE X scope elt) (own.map (·.2)) vs1 σ H Q :=
  hit H (Same.refl H) _ fun v H2 s2 hv => by
    obtain ⟨a, xs, rfl, ha, hx⟩ := dp_lst hv
    have L2' : Live M H2 := L.mono s2
    have hlx := dpa_len hx
    refine ⟨a, rfl, ⟨xs, SqL.of (hid_le _ _ ha)⟩, fun p hp => ?_⟩
    have hp0 : H p = none := s2.free hp
    have flen : ∀ l : List PyData, (l.flatMap fun d => eds.map (g d)).length = l.length * eds.length := fun l => by
      induction l with
      | nil => simp
      | cons x l ih => rw [List.flatMap_cons, List.length_append, ih, List.length_map, List.length_cons, Nat.succ_mul]; omega
    refine ⟨fun i m Hx => m + i = xs.length ∧ Same H2 Hx ∧ ∃ acc, Hx p = some (.lst acc) ∧ DqAll X.K (hid (p :: M) Hx) acc ((ds.take i).flatMap fun d => eds.map (g d)), ⟨xs.length, rfl, same_new hp, [], upd_same, .nil⟩, fun i m Hx w => ?_⟩
    obtain ⟨hmi, sx, acc, hacc, hda⟩ := w
    have gt : SqL X.K Hx a xs := SqL.of (sx _ _ (hid_le _ _ ha))
    cases ex : xs[i]? with
    | none =>
      have hge : xs.length ≤ i := List.getElem?_eq_none_iff.mp ex
      have ei : ds.take i = ds := List.take_of_length_le (by omega)
      rw [ei] at hda
      exact .inl ⟨⟨xs, gt, hge⟩, q p acc Hx (s2.trans sx) (s2.free hp) hacc (out_of hda)⟩
    | some x0 =>
      have hlt := (List.getElem?_eq_some_iff.mp ex).1
      refine .inr ⟨⟨xs, x0, gt, ex⟩, fun Hy => Same H2 Hy ∧ ∃ acc, Hy p = some (.lst acc) ∧ DqAll X.K (hid (p :: M) Hy) acc ((ds.take (i + 1)).flatMap fun d => eds.map (g d)), fun Hy hy => ⟨m - 1, by omega, by omega, hy⟩, fun v Hy hyl => ?_⟩
      obtain ⟨rfl, h1⟩ := hyl
      obtain ⟨d, hd1, hd2⟩ := dpa_get' hx (h1 xs gt)
      have hdi := (List.getElem?_eq_some_iff.mp hd1).1
      have Lp : Live (p :: M) Hy := fun b hb => by
        rcases List.mem_cons.mp hb with z | hb
        · subst z; rw [hacc]; simp
        · exact L2'.mono sx b hb
      refine bg_mono (hst p d v Hy (List.mem_of_getElem? hd1) hp0 (s2.trans sx) Lp (hd2.up (hid_step hp sx))) fun τ Ha ⟨hw, sa, hin, hel⟩ => ⟨hw, bt_nil (iteT fun s0 H0 C0 cl fp => ?_)⟩
      refine hin s0 H0 C0 cl fp Ha (Same.refl _) _ fun w Hb sb hwv => ?_
      obtain ⟨a1, ys, rfl, ha1, hy⟩ := dp_tup hwv
      have ha10 := same_seqT hid_le ha1
      have hly := dpa_len hy
      refine ⟨a1, rfl, ⟨ys, ha10⟩, ?_⟩
      have sab := sa.trans sb
      have pMem : p ∈ p :: M := List.mem_cons_self ..
      have hbp : Hb p = some (.lst acc) := sab _ _ hacc
      have upM : ∀ {Hz : Hp}, (∀ b o, b ≠ p → Hb b = some o → Hz b = some o) → Same (hid (p :: M) Hb) (hid (p :: M) Hz) := fun {Hz} z b o e => by
        have n1 : b ∉ p :: M := fun y => by unfold hid at e; rw [if_pos y] at e; cases e
        rw [hid_of n1]
        rw [hid_of n1] at e
        exact z b o (fun y => n1 (by rw [y]; exact pMem)) e
      refine ⟨fun j k Hz => k + j = ys.length ∧ (∀ b o, b ≠ p → Hb b = some o → Hz b = some o) ∧ ∃ acc', Hz p = some (.lst acc') ∧ DqAll X.K (hid (p :: M) Hz) acc' (((ds.take i).flatMap fun d => eds.map (g d)) ++ (eds.take j).map (g d)), ⟨ys.length, rfl, fun b o _ e => e, acc, hbp, ?_⟩, fun j k Hz hz => ?_⟩
      · simpa using hda.up (hid_mono sab)
      · obtain ⟨hkj, sz, acc', hacc', hda'⟩ := hz
        have gz : SqT X.K Hz a1 ys := by
          rcases ha1 with (h | ⟨o, h⟩) | h
          · exact .inl (.inl (hid_le _ _ (upM sz _ _ h)))
          · exact .inl (.inr ⟨o, hid_le _ _ (upM sz _ _ h)⟩)
          · exact .inr h
        have s2z : Same H2 Hz := fun b o e => sz b o (ne_of_none e hp) (sab b o (sx b o e))
        cases ey : ys[j]? with
        | none =>
          have hge : ys.length ≤ j := List.getElem?_eq_none_iff.mp ey
          have ej : eds.take j = eds := List.take_of_length_le (by omega)
          rw [ej] at hda'
          refine .inl ⟨⟨ys, gz, hge⟩, s2z, acc', hacc', ?_⟩
          rw [List.take_add_one, hd1]
          show DqAll X.K (hid (p :: M) Hz) acc' ((ds.take i ++ [d]).flatMap fun d => eds.map (g d))
          rw [List.flatMap_append]
          simpa using hda'
        | some y0 =>
          have hltj := (List.getElem?_eq_some_iff.mp ey).1
          refine .inr ⟨⟨ys, y0, gz, ey⟩, fun Hu => (∀ b o, b ≠ p → Hb b = some o → Hu b = some o) ∧ ∃ acc', Hu p = some (.lst acc') ∧ DqAll X.K (hid (p :: M) Hu) acc' (((ds.take i).flatMap fun d => eds.map (g d)) ++ (eds.take (j + 1)).map (g d)), fun Hu hu => ⟨k - 1, by omega, by omega, hu⟩, fun v Hu hyl => ?_⟩
          obtain ⟨rfl, h2⟩ := hyl
          obtain ⟨ed, he1, he2⟩ := dpa_get' hy (h2 ys gz)
          have Lz : Live (p :: M) Hu := fun b hb => by
            by_cases z : b = p
            · subst z; rw [hacc']; simp
            · intro q0
              rcases List.mem_cons.mp hb with y | hb
              · exact z y
              · cases q1 : Hb b with
                | none => exact ((L2'.mono sx).mono sab) b hb q1
                | some o => rw [sz b o z q1] at q0; cases q0
          refine bg_mono (hel ed v Hu (List.mem_of_getElem? he1) (fun b o nb e => sz b o nb (sb b o e)) Lz (he2.up (upM sz))) fun τ2 Hc ⟨hw2, sc, hbe⟩ => ⟨hw2, bt_nil (iteT (be_mono hbe fun u Hd ⟨sd, hu⟩ => ?_))⟩
          have scd := sc.trans sd
          refine ⟨acc', scd _ _ hacc', ?_, fun b o nb e => ?_, acc' ++ [u], upd_same, ?_⟩
          · have h4 : 100000 < sizeLine := by decide
            have h7 : i * eds.length + eds.length ≤ ds.length * eds.length := by
              have : (i + 1) * eds.length ≤ ds.length * eds.length := Nat.mul_le_mul_right _ hdi
              rw [Nat.succ_mul] at this; exact this
            have h8 : (ds.take i).length ≤ i := by rw [List.length_take]; omega
            have h9 := Nat.mul_le_mul_right eds.length h8
            have h10 : (eds.take j).length ≤ j := by rw [List.length_take]; omega
            rw [dpa_len hda', List.length_append, flen, List.length_map]
            omega
          · rw [upd_ne nb]
            exact scd _ _ (sz b o nb e)
          · rw [hid_upd_ne, List.take_add_one, he1]
            show DqAll X.K (hid (p :: M) Hd) (acc' ++ [u]) (((ds.take i).flatMap fun d => eds.map (g d)) ++ (eds.take j ++ [ed]).map (g d))
            rw [List.map_append, ← List.append_assoc]
            exact dpa_app (hda'.up (hid_mono scd)) (.cons hu .nil)
/-- x = .., such a comprehension, on one line -/
theorem rb_setC2 (i : Nat) {vs1 : List Nat} (g : PyData → PyData → PyData) (L : Live M H) (hN : X.N.Nodup) (hit : XD X M σ H iter (.list ds)) (ok : BlkOk X.N X.env.scope scope own) (hv : ∀ i ∈ vs1, i ∈ own.map (·.2)) (hz : ds.length * eds.length ≤ 100000)
    (hst : ∀ p d v H1, d ∈ ds → H p = none → Same H H1 → Live (p :: M) H1 → Dq X.K (hid (p :: M) H1) v d → BG X scope tg v (wipe σ (own.map (·.2))) H1 fun τ H2 => wipe τ (own.map (·.2)) = wipe σ (own.map (·.2)) ∧ Same H1 H2 ∧
      (∀ (s : Shared) (H0 : Hp) (C : Addr) (cl : List (Str × Addr)) (fp : List Addr), XD (X.blk s H0 scope (compEnvC scope cl C X.env) fp) (p :: M) τ H2 iter1 (.tuple eds)) ∧
      ∀ ed w H3, ed ∈ eds → (∀ b o, b ≠ p → H2 b = some o → H3 b = some o) → Live (p :: M) H3 → Dq X.K (hid (p :: M) H3) w ed → BG X scope tg1 w (wipe τ vs1) H3 fun τ2 H4 => wipe τ2 vs1 = wipe τ vs1 ∧ Same H3 H4 ∧ BE X scope elt τ2 H4 fun u H5 => Same H4 H5 ∧ Dq X.K (hid (p :: M) H5) u (g d ed))
    (q : ∀ p xs H2, Same H H2 → H p = none → H2 p = some (.lst xs) → DqAll X.K (hid M H2) xs (ds.flatMap fun d => eds.map (g d)) → RB X rest D (σ.set i (some (.ref p))) H2)
    (hi : X.N[i]? = some x := by rfl) (hx : X.env.scope.names.lookup x = some .local := by rfl) (hsw : swapsWith (.ListComp elt [⟨tg, iter, [], 0⟩, ⟨tg1, iter1, [], 0⟩] scope pos) (some (.Name x py)) spos.line X.env = pure true := by exact sw_true rfl rfl rfl rfl)
    (hc : X.calm = true := by rfl) (hs : ∀ x, foldedSetIterable iter X.env x = pure x := by intro _; rfl) (hs1 : ∀ env x, foldedSetIterable iter1 env x = pure x := by intro _ _; rfl) : RB X (.Assign [.Name x py] (.ListComp elt [⟨tg, iter, [], 0⟩, ⟨tg1, iter1, [], 0⟩] scope pos) spos :: rest) D σ H :=
  ⟨_, pss_cons (ps_setLc2 (own := own) (vs1 := vs1) hc hN hi hx hsw (pi_list re_) ok hv (fun _ _ _ _ _ => bg_) (fun _ _ _ _ _ => bt_) (fun _ _ _ _ _ => pi_tup be_) (fun _ _ _ _ _ => bg_) (fun _ _ _ _ _ => bt_) (fun _ _ _ _ _ => be_) hs hs1) rb_,
    lc_comp2 (own := own) (vs1 := vs1) (Q := fun v H1 => RB X rest D (σ.set i (some v)) H1) g L hit hz hst q⟩
/-- *e, e a tuple, in a display -/
theorem xa_starT {sp : Pos} (ha : XD X M σ H e (.tuple ds)) (hr : XA X M σ H es ds2) (hs : starEach (.Starred e sp :: es) X.env = (true, eval e X.env) :: starEach es X.env := by rfl) : XA X M σ H (.Starred e sp :: es) (ds ++ ds2) := fun H1 s Q q =>
  ⟨_, StX.pa_star re_ ra_ hs, ha H1 s _ fun v H2 s2 hv => by
    obtain ⟨p, xs, rfl, hp, hx⟩ := dp_tup hv
    exact ⟨p, xs, rfl, .inl (same_seqT hid_le hp), hr H2 (s.trans s2) _ fun vs H3 s3 hvs => q _ H3 (s2.trans s3) (dpa_app (hx.up (hid_mono s3)) hvs)⟩⟩
end
end Dl

set_option Elab.async false
set_option linter.all false
set_option maxRecDepth 100000
set_option maxHeartbeats 4000000
/-! exceptions of own classes over any built-in class of exceptions (LookupError, ..), with one field set by __init__ -/
namespace PySem
namespace SLx
open PySem.W PySem.Calls PyProof.Rows PySem.HandSPX
open Builtin Builtin.ObjectAttr
/-- a built-in's line of classes, as a tail -/
structure TlF (tl : List Value) : Prop where
  pass : ∀ u : Value, refuseLoop u "__setattr__" tl = pure ()
  obj : tl.contains (.type "object") = true
abbrev leTl : List Value := [.type "LookupError", .type "Exception", .type "BaseException", .type "object"]
theorem leTl_ok : TlF leTl := ⟨fun u => by kernel_rfl, by decide +kernel⟩
/-- own classes first -/
def Tl (tl l : List Value) : Prop := ∃ rs : List Addr, l = rs.map Value.ref ++ tl
theorem Tl.more {tl l : List Value} {a : Addr} (h : Tl tl l) : Tl tl (.ref a :: l) := by
  obtain ⟨rs, e⟩ := h
  exact ⟨a :: rs, by rw [e]; rfl⟩
theorem Tl.pass {tl l : List Value} (F : TlF tl) (h : Tl tl l) (u : Value) : refuseLoop u "__setattr__" l = pure () := by
  obtain ⟨rs, rfl⟩ := h
  induction rs with
  | nil => exact F.pass u
  | cons a rs ih => exact (refuseLoop_ref u "__setattr__" a _).trans ih
theorem Tl.has {tl l : List Value} (h : Tl tl l) (X : String) : l.contains (.type X) = tl.contains (.type X) := by
  obtain ⟨rs, rfl⟩ := h
  induction rs with
  | nil => rfl
  | cons a rs ih =>
    show ((Value.ref a :: (rs.map Value.ref ++ tl)).contains (.type X)) = _
    rw [List.contains_cons, ih]
    rfl
theorem Tl.ne {tl l : List Value} (F : TlF tl) (h : Tl tl l) : l.isEmpty = false := by
  have e := h.has "object"
  rw [F.obj] at e
  cases l with
  | nil => cases e
  | cons _ _ => rfl
section
variable {prog : Program} {w : World} {A : Around} {R : Result → Shared → Prop} {hp : Heap} {g : Array GenState} {d : Drawn} {t : Nat} {os : OsState}
/-- self.name = v on an exception without a dict -/
theorem osa_tl {K : W.Frag} {tl : List Value} {nm : Str} {tk : Tok} {v : Value} {x C : Addr} {fv : Array Value} {cd : ClassData} (F : TlF tl) (KX : K.In hp)
    (ox : hp.get? x = some { cls := .ref C, data := .fields fv }) (cc : W.clsIn K C = some cd) (mt : Tl tl cd.mro) (hasD : cd.hasDict = true) (noA : W.findIn K (.ref C) nm = some none)
    (q : ∀ h2 t2 dx, (∀ c o, c ≠ x → hp.get? c = some o → h2.get? c = some o) → hp.objs.size ≤ dx → dx ≠ x →
      h2.get? x = some { cls := .ref C, dict := some dx, data := .fields fv } → h2.Ns1 dx (fun y => if y = nm then some v else none) → R (.ok (.ret .none)) ⟨h2, g, d, t2, os⟩) :
    codeAny (model prog w) A (.call (.builtin "object.__setattr__") ⟨[.ref x, .str nm tk, v], []⟩) R ⟨hp, g, d, t, os⟩ := by
  have In0 : W.InstAt hp x { cls := .ref C, data := .fields fv } C none := ⟨ox, rfl, rfl, trivial⟩
  have SO := PySem.F.store_object
  have nE := mt.ne F
  have hO : cd.mro.contains (.type "object") = true := (mt.has "object").trans F.obj
  have xn : x ≠ hp.objs.size := Nat.ne_of_lt (Heap.lt_size ox)
  have isO : W.Looks (model prog w) hp (isInstance (.ref x) (.type "object")) true :=
    In0.type.andThen (W.looks_mroIn KX (by
      unfold W.mroIn
      rw [cc, Option.bind_some, if_neg (by rw [nE]; decide), hO]))
  refine codeAny_call_builtin SO.slot.plain SO.entry
    (@W.check_slot (model prog w) _ _ ⟨hp, g, d, t, os⟩ "object.__setattr__" "object" "__setattr__" (.ref x) [.str nm tk, v] [] _ SO.kind SO.split isO (SO.args (.ref x) (.str nm tk) v) ?_)
  have lm : W.Looks (model prog w) hp (mroOf (.ref C)) cd.mro :=
    (W.looks_clsIn KX cc).andThen .now
  have lt : W.Looks (model prog w) hp (storeTaker? none) none :=
    .now
  have lc : W.Looks (model prog w) hp (classData C) cd :=
    W.looks_clsIn KX cc
  rw [W.osa_eq, refuse_eq]
  refine wpAny_bind (wpAny_bind (In0.type.at (wpAny_bind (lm.at ?_))))
  rw [mt.pass F]
  refine wpAny_pure (wpAny_bind (In0.type.at (wpAny_bind ((W.looks_findIn KX noA).at (wpAny_bind (lt.at ?_))))))
  show wpAny _ _ (storeInOwnDict (.ref x) (.ref C) (.str nm tk) nm v false) _ _ _
  obtain ⟨n1, bs1, mro1, ns1, qn1, hd1, sn1, sb1, ab1, col1, del1⟩ := cd
  dsimp only at hasD
  subst hasD
  unfold storeInOwnDict ownDictForStores
  repeat (first
    | with_reducible refine store_in_new ?_ ?_
    | with_reducible refine wpAny_loadPart_at ox ?_
    | with_reducible refine lc.at ?_
    | wp_step)
  · exact ⟨_, #[], _, (Heap.get?_update_ne _ _ _ _ xn.symm).trans (Heap.get?_push_at rfl rfl),
      rfl, fun e he => absurd he (by simp), fun _ => rfl⟩
  · intro h2 t2 hn2 hs2
    have ox2 : (hp.push { cls := .type "dict", data := .dict #[] }).get? x = some { cls := .ref C, data := .fields fv } :=
      Heap.get?_push_of_some _ ox
    refine q h2 t2 hp.objs.size (fun c o hc ho => ?_) (Nat.le_refl _) xn.symm ?_ hn2
    · exact (hs2.2 c (Nat.ne_of_lt (Heap.lt_size ho))).trans
        ((Heap.get?_update_ne _ _ _ _ hc).trans (Heap.get?_push_of_some _ ho))
    · exact (hs2.2 x xn).trans (Heap.get?_update_self _ ox2 rfl)
end
end SLx
end PySem
namespace L2
open PySem PySem.Spec PyProof.Rows PySem.SLx
/-- a class of exceptions over the built-in whose line of classes is tl -/
structure OexG (K : PySem.W.Frag) (C : Addr) (tl : List Value) (newId : String) : Prop where
  F : TlF tl
  cls : ∃ nm q N bs bm sn sub ab col dd k0 k1 k2 k3 k5, K.lookup C = some (excClassObj nm q C N bs bm true sn sub ab col dd k0 k1 k2 k3 k5 newId) ∧ Tl tl bm
  sa : PySem.W.findIn K (.ref C) "__setattr__" = some (some (.builtin "object.__setattr__"))
  ex : PySem.W.subIn K (.ref C) (.type "BaseException") = some true
  ty : PySem.W.typeIn K (.ref C) = some (.type "type")
  kp : PySem.W.keepIn K (.ref C) = true
section
variable {X : Cx} {pins : List (Addr × Obj)} {σ : St} {H : Hp} {s : Shared} {a C : Addr} {f : Str} {y : V} {u : Value} {Q : Unit → Shared → Prop} {E : Value → Shared → Prop} {A : Around} {tl : List Value} {newId : String}
theorem ostG_new (T : OexG X.K C tl newId) (I : Inv X pins σ H s) (ea : H a = some (exo a C none)) (no : PySem.W.findIn X.K (.ref C) f = some none) (ry : RelV y u)
    (q : ∀ dx s2, H dx = none → dx ≠ a → Inv X pins σ (upd (upd H dx (exd dx [(f, y)])) a (exo a C (some dx))) s2 → Q () s2) : wpAny (model X.prog X.w) A (setAttr (.ref a) f u) Q E s := by
  obtain ⟨nm, qq, N, bs, bm, sn, sub, ab, col, dd, k0, k1, k2, k3, k5, hC, hbm⟩ := T.cls
  have hcl : PySem.W.clsIn X.K C = some { name := nm, bases := bs, mro := .ref C :: bm, ns := N, qualname := qq, hasDict := true, slotNames := sn, subclasses := sub, abstract := ab, collection := col, hasDel := false } := by
    unfold PySem.W.clsIn
    rw [hC] <;> rfl
  obtain ⟨t1, ho⟩ := exo_at I.hok ea
  obtain ⟨hp, g, d, t, os⟩ := s
  refine PySem.W.set_plain I.kIn (ox := { cls := .ref C, dict := none, data := .fields #[.ref t1, .none, .none, .none, .bool false, .none] })
    (od := none) ⟨ho, rfl, rfl, trivial⟩ T.sa ?_
  refine osa_tl T.F I.kIn ho hcl hbm.more rfl no (fun h2 t2 dx kp dn dne hx hn => ?_)
  have dN : H dx = none := I.hok.fresh dn
  have old : ∀ {c : Addr} {o : Obj}, hp.get? c = some o → c ≠ dx := fun {c o} z => Nat.ne_of_lt (Nat.lt_of_lt_of_le (Heap.lt_size z) dn)
  have off : ∀ {c : Addr}, H c = none → c ≠ a := fun {c} n z => by rw [z, ea] at n; cases n
  have U : Un X.fs [] H (upd (upd H dx (exd dx [(f, y)])) a (exo a C (some dx))) hp h2 := by
    refine ⟨?_, ?_, ?_, ?_, ?_, ?_, ?_⟩
    · exact fun c o z n _ _ => kp c o (off n) z
    · exact fun c o z n _ _ => ⟨o.slots, kp c o (off n) z⟩
    · exact fun c o z n _ => by rw [upd_ne (off n), upd_ne (old z)]; exact n
    · intro c o z _
      by_cases e : c = a
      · exact ⟨_, by rw [e]; exact hx⟩
      · exact ⟨o, kp c o e z⟩
    · exact fun c xs z => by rw [upd_ne (at_ne ea z exo_tup), upd_ne (ne_of_none z dN)]; exact z
    · exact fun c o v z => by rw [upd_ne (at_ne ea z exo_frz), upd_ne (ne_of_none z dN)]; exact z
    · exact fun c ps z => ⟨#[], by rw [upd_ne (at_ne ea z exo_tbl), upd_ne (ne_of_none z dN), z]; simp⟩
  refine q dx _ dN dne (I.un (t' := t2) U fun c o z => ?_)
  by_cases e : c = a
  · subst e
    rw [upd_same] at z
    cases z
    exact exo_ok hx
  · rw [upd_ne e] at z
    by_cases e2 : c = dx
    · subst e2
      rw [upd_same] at z
      cases z
      exact exd_ok hn (relO_put (fs := []) ry fun _ => True.intro)
    · rw [upd_ne e2] at z
      refine (I.hok c o z).stay (fun c' v hc z' => kp c' v ?_ z') (fun c' hc => ?_) (fun c' xs hc => ?_)
      · rcases hc with hc | hc
        · rw [hc]; exact e
        · exact at_ne ea hc exo_own
      · rw [upd_ne (at_ne ea hc exo_own), upd_ne (ne_of_none hc dN)]; exact hc
      · rw [upd_ne (at_ne ea hc exo_tup), upd_ne (ne_of_none hc dN)]; exact hc
end
/-- self.f = e, self a new exception -/
def tOstG (K : PySem.W.Frag) (tl : List Value) (newId : String) (f : Str) (to te : TE) : TS := fun D σ H => te σ H fun y H1 => to σ H1 fun x H2 => ∃ a C : Addr, x = .ref a ∧ OexG K C tl newId ∧ PySem.W.findIn K (.ref C) f = some none ∧
  H2 a = some (exo a C none) ∧ ∀ dx, H2 dx = none → dx ≠ a → D.nx σ (upd (upd H2 dx (exd dx [(f, y)])) a (exo a C (some dx)))
section
variable {X : Cx} {o e : Expr} {es : List Expr} {to te : TE} {ta : TA} {f : Str} {p p' pos : Pos} {tl : List Value} {newId initId B : String}
theorem ps_ostG (ho : PE X o to) (he : PE X e te) (hs : swapsWith e (some (.Attribute o f p')) pos.line X.env = pure false := by rfl) : PS X (.Assign [.Attribute o f p'] e pos) (tOstG X.K tl newId f to te) := by
  refine ⟨fun pins s σ H D I h => ?_⟩
  refine plainObj_wpAny_Assign_Attribute (thn (he.run pins s σ H _ I h) fun v s1 ⟨y, H1, I1, r1, q1⟩ =>
    thn (ho.run pins s1 σ H1 _ I1 q1) fun u s2 ⟨x, H2, I2, r2, a, C, ex, T, no, ea, q⟩ => ?_) hs
  subst ex
  obtain rfl : u = Value.ref a := r2
  exact ostG_new T I2 ea no r1 fun dx s3 n ne J => ⟨σ, _, J, q dx n ne⟩
theorem pmk_oexG {CX : CXT} {x : Str} {C fI : Addr} {k : Nat} {fd : FuncData} {ps : List Str} {sp : Sp} (FB : ExcBaseFacts B newId initId tl) (T : OexG X.K C tl newId) (iC : PySem.W.findIn X.K (.ref C) "__init__" = some (some (.ref fI))) (tI : PySem.W.typeIn X.K (.ref fI) = some (.type "function"))
    (G : FnOk X.prog X.w X.K X.mg X.base CX k fI fd ps sp) (hr : Room (k + 1) X.A) (hb : Binds X.K fd ps []) (hx : Passes CX X (fun _ _ _ => False)) (hg : Gl X x) (hm : X.mg x = some (.ref C)) (ha : PA X (e :: es) ta)
    (hdb : (x == ("__debug__" : Str)) = false := by decide) (he : starEach (e :: es) X.env = (false, eval e X.env) :: starEach es X.env := by rfl) (hpl : (backTo pos (starEach es X.env)).any (·.1) = false := by rfl) :
    PMk X (.Call (.Name x p) (e :: es) [] pos) (tMkO C sp [] ta) := by
  intro pins s σ H Q I h
  obtain ⟨nm, qq, N, bs, bm, sn, sub, ab, col, dd, k0, k1, k2, k3, k5, hC, hbm⟩ := T.cls
  refine wpAny_Call_Name_kw (ld_glob I hg hm ?_ hdb)
  refine PySem.W.callWith_K (h₀ := X.base) I.ok.mod.kin T.kp (thn (ha.run pos pins s σ H _ I h) fun us s1 ⟨vs, H1, I1, r1, hz, q1⟩ => ⟨I1.kIn, ?_⟩) he hpl
  show wpAny _ _ (call (.ref C) us) _ _ _
  obtain ⟨hp, g, dr, tk, os⟩ := s1
  have up1 : hp.objs.size ≤ hp.objs.size + 1 := Nat.le_succ _
  have new1 : H1 (hp.objs.size + 1) = none := I1.hok.fresh up1
  have q2 := q1 (hp.objs.size + 1) new1
  have keep2 : ∀ c o, hp.get? c = some o → ((hp.push (PySem.W.kdv_tup us)).push (PySem.HandSPX.excO C hp.objs.size)).get? c = some o :=
    fun c o z => Heap.get?_push_of_some _ (Heap.get?_push_of_some _ z)
  have at2 : ((hp.push (PySem.W.kdv_tup us)).push (PySem.HandSPX.excO C hp.objs.size)).get? (hp.objs.size + 1) = some (PySem.HandSPX.excO C hp.objs.size) := by
    heap_get
  have I2 : Inv X pins σ (upd H1 (hp.objs.size + 1) (exo (hp.objs.size + 1) C none)) ⟨(hp.push (PySem.W.kdv_tup us)).push (PySem.HandSPX.excO C hp.objs.size), g, dr, tk, os⟩ :=
    I1.laid (t' := tk) (a := hp.objs.size + 1) (o := exo (hp.objs.size + 1) C none)
      (h' := (hp.push (PySem.W.kdv_tup us)).push (PySem.HandSPX.excO C hp.objs.size)) keep2 up1 (exo_ok at2)
  have r2 : Vals (V.ref (hp.objs.size + 1) :: (vs ++ [])) (Value.ref (hp.objs.size + 1) :: (us ++ [])) :=
    .cons rfl (r1.append .nil)
  have hl : (Value.ref (hp.objs.size + 1) :: us ++ []).length = ps.length := by
    have e2 := r2.length
    rw [G.len _ _ _ _ q2] at e2
    exact e2.symm
  have small : us.length ≤ sizeLine := by
    rw [← Paired.length r1, sizeLine_eq]
    omega
  have hb2 := hb ⟨(hp.push (PySem.W.kdv_tup us)).push (PySem.HandSPX.excO C hp.objs.size), g, dr, tk, os⟩ (Value.ref (hp.objs.size + 1) :: us) I2.kIn hl
  rw [List.cons_append] at hb2
  refine wpAny_call (PySem.HandSPX.call_own FB (fun Y => hbm.has Y) (I1.kIn _ _ hC) (PySem.W.looks_findIn I1.kIn iC) (fun self => PySem.W.bind_fn I1.kIn self tI) small ?_)
  refine codeAny_mono (G.run _ X.stack _ _ ⟨Value.ref (hp.objs.size + 1) :: us, []⟩ (Value.ref (hp.objs.size + 1) :: (us ++ [])) _ _ (fun _ _ _ => False)
    (hr.make C us []) (I2.env0.make C us []) hb2 r2 q2) fun r s2 z => ?_
  cases r with
  | error er => exact hx pins σ _ _ er s2 I2 z
  | ok fl =>
    cases fl with
    | ret u =>
      obtain ⟨v, H2, os2, bare2, un2, hok2, rv, ev, d, fs, ea, ed, hd1, q3⟩ := z
      subst ev
      obtain ⟨h2, g2, d2, t2, os'⟩ := s2
      exact ⟨rv, mk_end (raises_own T.ex T.ty) I1 up1 keep2 un2 hok2 os2 bare2 ea ed hd1 q3⟩
    | next => exact z.elim
    | brk => exact z.elim
    | cont => exact z.elim
end
end L2
namespace Dl
open PySem PySem.Spec PyProof.Rows L2 PySem.SLx
section
variable {X : Cx} {M : List Addr} {σ : L2.St} {H H' : Hp} {e o : Expr} {es : List Expr} {x n : Str} {v : V} {pos p1 p2 p3 hp : Pos} {D : Ends} {rest body : List Stmt} {k i : Nat} {f C fI : Addr} {fd : FuncData} {W : WX} {Q : VK} {tl : List Value} {newId initId B : String}
theorem rb_ostG {m : Str} {a : Addr} {ap : Pos} (T : OexG X.K C tl newId) (no : PySem.W.findIn X.K (.ref C) m = some none) (he : XV X σ H e v) (ho : XV X σ H o (.ref a)) (ha : H a = some (exo a C none)) (q : ∀ H2, Same H H2 → ∀ dx, H2 dx = none → dx ≠ a → RB X rest D σ (upd (upd H2 dx (exd dx [(m, v)])) a (exo a C (some dx))))
    (hs : swapsWith e (some (.Attribute o m ap)) pos.line X.env = pure false := by rfl) : RB X (.Assign [.Attribute o m ap] e pos :: rest) D σ H :=
  ⟨_, pss_cons (ps_ostG (tl := tl) (newId := newId) re_ re_ hs) rb_, he H (Same.refl H) _ fun H1 s1 => ho H1 s1 _ fun H2 s2 => ⟨a, C, rfl, T, no, (s1.trans s2) _ _ ha, fun dx h1 h2 => q H2 (s1.trans s2) dx h1 h2⟩⟩
/-- a class of exceptions with one field, over another built-in -/
structure XClsG (P : Program) (w : World) (K : PySem.W.Frag) (mg : Str → Option Value) (base : Heap) (tl : List Value) (newId initId B : String) (x fl : Str) (C fI : Addr) (fd : FuncData) : Prop where
  FB : ExcBaseFacts B newId initId tl
  mgC : mg x = some (.ref C)
  T : OexG K C tl newId
  iC : PySem.W.findIn K (.ref C) "__init__" = some (some (.ref fI))
  tI : PySem.W.typeIn K (.ref fI) = some (.type "function")
  G : FnOk P w K mg base CX0 1 fI fd ["self", fl] (spXI C fl)
  b : Binds K fd ["self", fl] []
  xf : XfC K C
  no : PySem.W.findIn K (.ref C) fl = some none
  te : PySem.W.exmOne K (.ref C) (.ref C) = some true
/-- raise C(e) -/
theorem rb_raiseG {fl : Str} (Y : XClsG X.prog X.w X.K X.mg X.base tl newId initId B x fl C fI fd) (hr : Room 2 X.A) (tk : Takes X W) (h : RE X e σ H fun v H1 => ∀ d H2, Same H1 H2 → H2 d = some (.xd [(fl, v)]) → W (.ref C) (some d) σ H2) (hc : X.calm = true := by rfl) (hg : Gl X x := by rfl)
    (hdb : (x == ("__debug__" : Str)) = false := by decide) (he : starEach [e] X.env = (false, eval e X.env) :: starEach [] X.env := by rfl) (hpl : (backTo pos (starEach [] X.env)).any (·.1) = false := by rfl) : RB X (.Raise (some (.Call (.Name x p1) [e] [] pos)) none p2 :: rest) D σ H :=
  ⟨_, pss_cons (ps_raise hc tk (pmk_oexG Y.FB Y.T Y.iC Y.tI Y.G hr Y.b pass0 hg Y.mgC ra_ hdb he hpl)) rb_, ra_1 (re_mono h fun v H1 q => by
    refine ⟨by show 1 ≤ 1000; decide, fun a ha => ⟨a, v, rfl, upd_same, fun H2 s2 d h1 h2 => ⟨rfl, d, _, upd_same, by rw [upd_ne h2, upd_same], ?_, q d _ (del_upd ha s2 h1 h2) upd_same⟩⟩⟩
    cases e3 : H1 d with
    | none => rfl
    | some o =>
      have e4 := s2 d o (by rw [upd_ne h2]; exact e3)
      rw [h1] at e4
      cases e4) he⟩
end
end Dl

set_option Elab.async false
set_option linter.all false
set_option maxRecDepth 100000
set_option maxHeartbeats 4000000
/-! exceptions of own classes over a built-in class that is made by another one's __new__ (KeyError by LookupError's), with one field set by __init__ -/
namespace PySem
namespace SKx
open PySem.W PySem.Calls PyProof.Rows PySem.HandSPX
abbrev keTl : List Value := [.type "KeyError", .type "LookupError", .type "Exception", .type "BaseException", .type "object"]
theorem keTl_ok : SLx.TlF keTl := ⟨fun u => by kernel_rfl, by decide +kernel⟩
/-- what of the line of classes making looks at -/
structure Sees (B : String) (bm : List Value) : Prop where
  b : bm.contains (.type B) = true
  a : bm.contains (.type "AttributeError") = false
  n : bm.contains (.type "NameError") = false
theorem sees_ke {l : List Value} (h : SLx.Tl keTl l) : Sees "LookupError" l := ⟨(h.has _).trans (by decide +kernel), (h.has _).trans (by decide +kernel), (h.has _).trans (by decide +kernel)⟩
section
variable {prog : Program} {w : World} {A : Around} {E : Value → Shared → Prop} {R : Result → Shared → Prop} {h : Heap} {g : Array GenState} {d : Drawn} {t : Nat} {os : OsState}
variable {nm q : Str} {C N : Addr} {bs bm bmB : List Value} {hdct : Bool} {sn : List Str} {sub : List Value} {ab : Bool} {col : Option Bool} {dd : Option Addr} {k0 k1 k2 k3 k5 : Option Value} {B newId initId : String} {rest : List Value}
theorem made (F : ExcBaseFacts B newId initId bmB) (S : Sees B bm) (hC : h.get? C = some (excClassObj nm q C N bs bm hdct sn sub ab col dd k0 k1 k2 k3 k5 newId)) (small : rest.length ≤ sizeLine)
    (z : R (.ok (.ret (.ref (h.objs.size + 1)))) ⟨(h.push (W.kdv_tup rest)).push (excO C h.objs.size), g, d, t, os⟩) : codeAny (model prog w) A (.builtin newId ⟨.ref C :: rest, []⟩) R ⟨h, g, d, t, os⟩ := by
  have ends := F.ends
  have cB : (Value.ref C :: bm).contains (.type B) = true := by rw [List.contains_cons, S.b, Bool.or_true]
  have cA : (Value.ref C :: bm).contains (.type "AttributeError") = false := by rw [List.contains_cons, S.a]; rfl
  have cN : (Value.ref C :: bm).contains (.type "NameError") = false := by rw [List.contains_cons, S.n]; rfl
  refine codeAny_builtinAt F.entry ?_
  unfold Builtin.«BaseException.__new__»
  refine wpAt_bind ?_
  show wpAt _ _ _ (stack >>= _) _ _ _
  refine wpAt_bind (wpAt_stack fun p below => wpAt_of_wpAny ?_)
  wp_walk
  refine wpAt_of_wpAny ?_
  rw [F.owner]
  repeat (first | with_reducible refine wpAny_madeHere_exc F.canon hC ?_ | with_reducible refine wpAny_loadPart_at hC ?_ | (with_reducible refine wpAny_isSubtype_exc hC ?_; first | rw [cB] | rw [cA] | rw [cN]) | wp_step)
  show R _ _
  rw [Heap.size_push]
  exact z
theorem checked (F : ExcBaseFacts B newId initId bmB) (S : Sees B bm) {Q : Unit → Shared → Prop} (hC : h.get? C = some (excClassObj nm q C N bs bm hdct sn sub ab col dd k0 k1 k2 k3 k5 newId)) (z : Q () ⟨h, g, d, t, os⟩) : wpAny (model prog w) A (checkBuiltinCall newId ⟨.ref C :: rest, []⟩) Q E ⟨h, g, d, t, os⟩ := by
  have cB : (Value.ref C :: bm).contains (.type B) = true := by rw [List.contains_cons, S.b, Bool.or_true]
  have star := F.noStar
  simp only [checkBuiltinCall, F.newKind, F.newSplit, F.newRow]
  repeat (first | refine wpAny_loadPart_at hC ?_ | (refine wpAny_isSubtype_exc hC ?_; rw [cB]) | refine wpAny_staticBase_exc hC ?_ | refine wpAny_madeBy_exc hC ?_ | simp only [bne_self_eq_false, Bool.false_eq_true, if_false] | wp_step)
  exact z
theorem typed (F : ExcBaseFacts B newId initId bmB) (S : Sees B bm) {fI : Addr} {Q : Fin → Shared → Prop} (hC : h.get? C = some (excClassObj nm q C N bs bm hdct sn sub ab col dd k0 k1 k2 k3 k5 newId))
    (hi : W.Looks (model prog w) h (typeLookup (.ref C) "__init__") (some (.ref fI))) (hb : ∀ self, W.Looks (model prog w) h (bindSpecial (.ref fI) self) (.ref fI, [self])) (small : rest.length ≤ sizeLine)
    (z : codeAny (model prog w) A (.call (.ref fI) ⟨.ref (h.objs.size + 1) :: rest, []⟩) (fun r s' => match r with | .ok (.ret v) => v = .none ∧ Q (.done (.ret (.ref (h.objs.size + 1)))) s' | .ok _ => False | .error e => E e s') ⟨(h.push (W.kdv_tup rest)).push (excO C h.objs.size), g, d, t, os⟩) :
    wpAny (model prog w) A (Builtin.«type.__call__» ⟨.ref C :: rest, []⟩) Q E ⟨h, g, d, t, os⟩ := by
  repeat (first | with_reducible refine wpAny_loadPart_at hC ?_ | with_reducible refine wpAny_madeBy_exc hC ?_ | wp_step)
  refine codeAny_call_builtin_code (Code.quiet_builtin _ F.quiet) (checked F S hC (made F S hC small ?_))
  show wpAny _ _ _ _ _ _
  have k : ∀ b o, h.get? b = some o → ((h.push (W.kdv_tup rest)).push (excO C h.objs.size)).get? b = some o := fun b o e => Heap.get?_push_of_some _ (Heap.get?_push_of_some _ e)
  have hC' := k _ _ hC
  have new : ((h.push (W.kdv_tup rest)).push (excO C h.objs.size)).get? (h.objs.size + 1) = some (excO C h.objs.size) := by heap_get
  have self : (Value.ref C :: bm).contains (.ref C) = true := by simp
  unfold isInstance
  repeat (first | with_reducible refine wpAny_loadPart_at new ?_ | (with_reducible refine wpAny_isSubtype_exc hC' ?_; rw [self]) | wp_step)
  show wpAny _ _ (typeLookup (.ref C) _) _ _ _
  refine (hi.keeps k).at ?_
  refine wpAny_holding (wpAny_bind (((hb (.ref (h.objs.size + 1))).keeps k).at ?_))
  refine wpAny_bind (wpAny_call (codeAny_mono z fun r s' y => ?_))
  rcases r with e | (v | _ | _ | _) <;> first | exact y | exact y.elim | skip
  obtain ⟨rfl, y⟩ := y
  first
    | exact wpAny_pure (wpAny_pure y)
    | (wp_walk; exact y)
theorem called (F : ExcBaseFacts B newId initId bmB) (S : Sees B bm) {fI : Addr} (hC : h.get? C = some (excClassObj nm q C N bs bm hdct sn sub ab col dd k0 k1 k2 k3 k5 newId))
    (hi : W.Looks (model prog w) h (typeLookup (.ref C) "__init__") (some (.ref fI))) (hb : ∀ self, W.Looks (model prog w) h (bindSpecial (.ref fI) self) (.ref fI, [self])) (small : rest.length ≤ sizeLine)
    (z : codeAny (model prog w) (A.under (.builtin "type.__call__" ⟨.ref C :: rest, []⟩)) (.call (.ref fI) ⟨.ref (h.objs.size + 1) :: rest, []⟩) (W.InitBack (h.objs.size + 1) R) ⟨(h.push (W.kdv_tup rest)).push (excO C h.objs.size), g, d, t, os⟩) :
    codeAny (model prog w) A (.call (.ref C) ⟨rest, []⟩) R ⟨h, g, d, t, os⟩ := by
  have f1 := tc_lookup
  have f2 := tc_bind (.ref C)
  have ty : (⟨h, g, d, t, os⟩ : Shared).TypeIs (.ref C) "type" := ⟨_, hC, rfl⟩
  refine codeAny_of_tree ?_
  show wpAny _ _ (callAny (.ref C) _) _ _ _
  repeat (any_goals (first | assumption | with_reducible refine wpAny_loadPart_at hC ?_ | wp_step))
  refine ⟨rfl, ?_⟩
  refine codeAny_call_builtin_at (Code.quiet_builtin _ (by decide +kernel)) entry_typeCall (wpAny_check_type_call_sub hC (typed F S hC hi hb small ?_))
  refine codeAny_mono z fun r s' y => ?_
  rcases r with e | (v | _ | _ | _) <;> exact y
end
end SKx
end PySem
namespace L2
open PySem PySem.Spec PyProof.Rows PySem.SLx
section
variable {X : Cx} {o e : Expr} {es : List Expr} {to te : TE} {ta : TA} {f : Str} {p p' pos : Pos} {tl : List Value} {newId initId B : String}
variable {tlB : List Value}
theorem pmk_oexK {CX : CXT} {x : Str} {C fI : Addr} {k : Nat} {fd : FuncData} {ps : List Str} {sp : Sp} (FB : ExcBaseFacts B newId initId tlB) (SV : ∀ l, Tl tl l → PySem.SKx.Sees B l) (T : OexG X.K C tl newId) (iC : PySem.W.findIn X.K (.ref C) "__init__" = some (some (.ref fI))) (tI : PySem.W.typeIn X.K (.ref fI) = some (.type "function"))
    (G : FnOk X.prog X.w X.K X.mg X.base CX k fI fd ps sp) (hr : Room (k + 1) X.A) (hb : Binds X.K fd ps []) (hx : Passes CX X (fun _ _ _ => False)) (hg : Gl X x) (hm : X.mg x = some (.ref C)) (ha : PA X (e :: es) ta)
    (hdb : (x == ("__debug__" : Str)) = false := by decide) (he : starEach (e :: es) X.env = (false, eval e X.env) :: starEach es X.env := by rfl) (hpl : (backTo pos (starEach es X.env)).any (·.1) = false := by rfl) :
    PMk X (.Call (.Name x p) (e :: es) [] pos) (tMkO C sp [] ta) := by
  intro pins s σ H Q I h
  obtain ⟨nm, qq, N, bs, bm, sn, sub, ab, col, dd, k0, k1, k2, k3, k5, hC, hbm⟩ := T.cls
  refine wpAny_Call_Name_kw (ld_glob I hg hm ?_ hdb)
  refine PySem.W.callWith_K (h₀ := X.base) I.ok.mod.kin T.kp (thn (ha.run pos pins s σ H _ I h) fun us s1 ⟨vs, H1, I1, r1, hz, q1⟩ => ⟨I1.kIn, ?_⟩) he hpl
  show wpAny _ _ (call (.ref C) us) _ _ _
  obtain ⟨hp, g, dr, tk, os⟩ := s1
  have up1 : hp.objs.size ≤ hp.objs.size + 1 := Nat.le_succ _
  have new1 : H1 (hp.objs.size + 1) = none := I1.hok.fresh up1
  have q2 := q1 (hp.objs.size + 1) new1
  have keep2 : ∀ c o, hp.get? c = some o → ((hp.push (PySem.W.kdv_tup us)).push (PySem.HandSPX.excO C hp.objs.size)).get? c = some o :=
    fun c o z => Heap.get?_push_of_some _ (Heap.get?_push_of_some _ z)
  have at2 : ((hp.push (PySem.W.kdv_tup us)).push (PySem.HandSPX.excO C hp.objs.size)).get? (hp.objs.size + 1) = some (PySem.HandSPX.excO C hp.objs.size) := by
    heap_get
  have I2 : Inv X pins σ (upd H1 (hp.objs.size + 1) (exo (hp.objs.size + 1) C none)) ⟨(hp.push (PySem.W.kdv_tup us)).push (PySem.HandSPX.excO C hp.objs.size), g, dr, tk, os⟩ :=
    I1.laid (t' := tk) (a := hp.objs.size + 1) (o := exo (hp.objs.size + 1) C none)
      (h' := (hp.push (PySem.W.kdv_tup us)).push (PySem.HandSPX.excO C hp.objs.size)) keep2 up1 (exo_ok at2)
  have r2 : Vals (V.ref (hp.objs.size + 1) :: (vs ++ [])) (Value.ref (hp.objs.size + 1) :: (us ++ [])) :=
    .cons rfl (r1.append .nil)
  have hl : (Value.ref (hp.objs.size + 1) :: us ++ []).length = ps.length := by
    have e2 := r2.length
    rw [G.len _ _ _ _ q2] at e2
    exact e2.symm
  have small : us.length ≤ sizeLine := by
    rw [← Paired.length r1, sizeLine_eq]
    omega
  have hb2 := hb ⟨(hp.push (PySem.W.kdv_tup us)).push (PySem.HandSPX.excO C hp.objs.size), g, dr, tk, os⟩ (Value.ref (hp.objs.size + 1) :: us) I2.kIn hl
  rw [List.cons_append] at hb2
  refine wpAny_call (PySem.SKx.called FB (SV _ hbm) (I1.kIn _ _ hC) (PySem.W.looks_findIn I1.kIn iC) (fun self => PySem.W.bind_fn I1.kIn self tI) small ?_)
  refine codeAny_mono (G.run _ X.stack _ _ ⟨Value.ref (hp.objs.size + 1) :: us, []⟩ (Value.ref (hp.objs.size + 1) :: (us ++ [])) _ _ (fun _ _ _ => False)
    (hr.make C us []) (I2.env0.make C us []) hb2 r2 q2) fun r s2 z => ?_
  cases r with
  | error er => exact hx pins σ _ _ er s2 I2 z
  | ok fl =>
    cases fl with
    | ret u =>
      obtain ⟨v, H2, os2, bare2, un2, hok2, rv, ev, d, fs, ea, ed, hd1, q3⟩ := z
      subst ev
      obtain ⟨h2, g2, d2, t2, os'⟩ := s2
      exact ⟨rv, mk_end (raises_own T.ex T.ty) I1 up1 keep2 un2 hok2 os2 bare2 ea ed hd1 q3⟩
    | next => exact z.elim
    | brk => exact z.elim
    | cont => exact z.elim
end
end L2
namespace Dl
open PySem PySem.Spec PyProof.Rows L2 PySem.SLx
section
variable {X : Cx} {M : List Addr} {σ : L2.St} {H H' : Hp} {e o : Expr} {es : List Expr} {x n : Str} {v : V} {pos p1 p2 p3 hp : Pos} {D : Ends} {rest body : List Stmt} {k i : Nat} {f C fI : Addr} {fd : FuncData} {W : WX} {Q : VK} {tl : List Value} {newId initId B : String}
variable {tlB : List Value}
structure XClsK (P : Program) (w : World) (K : PySem.W.Frag) (mg : Str → Option Value) (base : Heap) (tl tlB : List Value) (newId initId B : String) (x fl : Str) (C fI : Addr) (fd : FuncData) : Prop where
  FB : ExcBaseFacts B newId initId tlB
  SV : ∀ l, Tl tl l → PySem.SKx.Sees B l
  mgC : mg x = some (.ref C)
  T : OexG K C tl newId
  iC : PySem.W.findIn K (.ref C) "__init__" = some (some (.ref fI))
  tI : PySem.W.typeIn K (.ref fI) = some (.type "function")
  G : FnOk P w K mg base CX0 1 fI fd ["self", fl] (spXI C fl)
  b : Binds K fd ["self", fl] []
  xf : XfC K C
  no : PySem.W.findIn K (.ref C) fl = some none
  te : PySem.W.exmOne K (.ref C) (.ref C) = some true
theorem rb_raiseK {fl : Str} (Y : XClsK X.prog X.w X.K X.mg X.base tl tlB newId initId B x fl C fI fd) (hr : Room 2 X.A) (tk : Takes X W) (h : RE X e σ H fun v H1 => ∀ d H2, Same H1 H2 → H2 d = some (.xd [(fl, v)]) → W (.ref C) (some d) σ H2) (hc : X.calm = true := by rfl) (hg : Gl X x := by rfl)
    (hdb : (x == ("__debug__" : Str)) = false := by decide) (he : starEach [e] X.env = (false, eval e X.env) :: starEach [] X.env := by rfl) (hpl : (backTo pos (starEach [] X.env)).any (·.1) = false := by rfl) : RB X (.Raise (some (.Call (.Name x p1) [e] [] pos)) none p2 :: rest) D σ H :=
  ⟨_, pss_cons (ps_raise hc tk (pmk_oexK Y.FB Y.SV Y.T Y.iC Y.tI Y.G hr Y.b pass0 hg Y.mgC ra_ hdb he hpl)) rb_, ra_1 (re_mono h fun v H1 q => by
    refine ⟨by show 1 ≤ 1000; decide, fun a ha => ⟨a, v, rfl, upd_same, fun H2 s2 d h1 h2 => ⟨rfl, d, _, upd_same, by rw [upd_ne h2, upd_same], ?_, q d _ (del_upd ha s2 h1 h2) upd_same⟩⟩⟩
    cases e3 : H1 d with
    | none => rfl
    | some o =>
      have e4 := s2 d o (by rw [upd_ne h2]; exact e3)
      rw [h1] at e4
      cases e4) he⟩
end
end Dl

set_option Elab.async false
set_option linter.all false
set_option maxRecDepth 100000
set_option maxHeartbeats 4000000
/-! exceptions of own classes as values (made, held, read), their args known -/
namespace L2
open PySem PySem.Spec PyProof.Rows PySem.SLx
/-- at e: an exception of the class at C, its args at t1, its dict (none as yet | at d) -/
def exv (e C t1 : Addr) (d : Option Addr) : HO := .ext fun h => h.get? e = some ({ cls := .ref C, dict := d, data := .fields #[.ref t1, .none, .none, .none, .bool false, .none] } : Obj)
theorem exv_own {e C t1 x : Addr} {d : Option Addr} : exv e C t1 d ≠ .own x := fun z => by
  have z' : HO.ext _ = HO.own x := z
  cases z'
theorem exv_tup {e C t1 : Addr} {d : Option Addr} {xs : List V} : exv e C t1 d ≠ .tup xs := fun z => by
  have z' : HO.ext _ = HO.tup xs := z
  cases z'
theorem exv_frz {e C t1 : Addr} {d : Option Addr} {o : Obj} {u : HO} : exv e C t1 d ≠ .frz o u := fun z => by
  have z' : HO.ext _ = HO.frz o u := z
  cases z'
theorem exv_tbl {e C t1 : Addr} {d : Option Addr} {ps : Array Value} : exv e C t1 d ≠ .tbl ps := fun z => by
  have z' : HO.ext _ = HO.tbl ps := z
  cases z'
theorem exv_ok {P : Program} {w : World} {H : Hp} {h : Heap} {e C t1 : Addr} {d : Option Addr} (he : h.get? e = some ({ cls := .ref C, dict := d, data := .fields #[.ref t1, .none, .none, .none, .bool false, .none] } : Obj)) : ObjOk P w H h e (exv e C t1 d) :=
  ⟨he, ⟨_, he⟩, fun h1 h2 z k => k _ z⟩
theorem exv_at {P : Program} {w : World} {H : Hp} {h : Heap} {e C t1 : Addr} {d : Option Addr} (hok : HOk P w H h) (he : H e = some (exv e C t1 d)) : h.get? e = some ({ cls := .ref C, dict := d, data := .fields #[.ref t1, .none, .none, .none, .bool false, .none] } : Obj) := by
  have x : ObjOk P w H h e (.ext fun h => h.get? e = some ({ cls := .ref C, dict := d, data := .fields #[.ref t1, .none, .none, .none, .bool false, .none] } : Obj)) := hok e _ he
  exact x.1
section
variable {X : Cx} {pins : List (Addr × Obj)} {σ : St} {H : Hp} {s : Shared} {a C t1 : Addr} {f : Str} {y : V} {u : Value} {Q : Unit → Shared → Prop} {E : Value → Shared → Prop} {A : Around} {tl : List Value} {newId : String}
theorem osv_new (T : OexG X.K C tl newId) (I : Inv X pins σ H s) (ea : H a = some (exv a C t1 none)) (no : PySem.W.findIn X.K (.ref C) f = some none) (ry : RelV y u)
    (q : ∀ dx s2, H dx = none → dx ≠ a → Inv X pins σ (upd (upd H dx (exd dx [(f, y)])) a (exv a C t1 (some dx))) s2 → Q () s2) : wpAny (model X.prog X.w) A (setAttr (.ref a) f u) Q E s := by
  obtain ⟨nm, qq, N, bs, bm, sn, sub, ab, col, dd, k0, k1, k2, k3, k5, hC, hbm⟩ := T.cls
  have hcl : PySem.W.clsIn X.K C = some { name := nm, bases := bs, mro := .ref C :: bm, ns := N, qualname := qq, hasDict := true, slotNames := sn, subclasses := sub, abstract := ab, collection := col, hasDel := false } := by
    unfold PySem.W.clsIn
    rw [hC] <;> rfl
  have ho := exv_at I.hok ea
  obtain ⟨hp, g, d, t, os⟩ := s
  refine PySem.W.set_plain I.kIn (ox := { cls := .ref C, dict := none, data := .fields #[.ref t1, .none, .none, .none, .bool false, .none] })
    (od := none) ⟨ho, rfl, rfl, trivial⟩ T.sa ?_
  refine osa_tl T.F I.kIn ho hcl hbm.more rfl no (fun h2 t2 dx kp dn dne hx hn => ?_)
  have dN : H dx = none := I.hok.fresh dn
  have old : ∀ {c : Addr} {o : Obj}, hp.get? c = some o → c ≠ dx := fun {c o} z => Nat.ne_of_lt (Nat.lt_of_lt_of_le (Heap.lt_size z) dn)
  have off : ∀ {c : Addr}, H c = none → c ≠ a := fun {c} n z => by rw [z, ea] at n; cases n
  have U : Un X.fs [] H (upd (upd H dx (exd dx [(f, y)])) a (exv a C t1 (some dx))) hp h2 := by
    refine ⟨?_, ?_, ?_, ?_, ?_, ?_, ?_⟩
    · exact fun c o z n _ _ => kp c o (off n) z
    · exact fun c o z n _ _ => ⟨o.slots, kp c o (off n) z⟩
    · exact fun c o z n _ => by rw [upd_ne (off n), upd_ne (old z)]; exact n
    · intro c o z _
      by_cases e : c = a
      · exact ⟨_, by rw [e]; exact hx⟩
      · exact ⟨o, kp c o e z⟩
    · exact fun c xs z => by rw [upd_ne (at_ne ea z exv_tup), upd_ne (ne_of_none z dN)]; exact z
    · exact fun c o v z => by rw [upd_ne (at_ne ea z exv_frz), upd_ne (ne_of_none z dN)]; exact z
    · exact fun c ps z => ⟨#[], by rw [upd_ne (at_ne ea z exv_tbl), upd_ne (ne_of_none z dN), z]; simp⟩
  refine q dx _ dN dne (I.un (t' := t2) U fun c o z => ?_)
  by_cases e : c = a
  · subst e
    rw [upd_same] at z
    cases z
    exact exv_ok hx
  · rw [upd_ne e] at z
    by_cases e2 : c = dx
    · subst e2
      rw [upd_same] at z
      cases z
      exact exd_ok hn (relO_put (fs := []) ry fun _ => True.intro)
    · rw [upd_ne e2] at z
      refine (I.hok c o z).stay (fun c' v hc z' => kp c' v ?_ z') (fun c' hc => ?_) (fun c' xs hc => ?_)
      · rcases hc with hc | hc
        · rw [hc]; exact e
        · exact at_ne ea hc exv_own
      · rw [upd_ne (at_ne ea hc exv_own), upd_ne (ne_of_none hc dN)]; exact hc
      · rw [upd_ne (at_ne ea hc exv_tup), upd_ne (ne_of_none hc dN)]; exact hc
end
/-- self.f = e, self a new exception -/
def tOsv (K : PySem.W.Frag) (tl : List Value) (newId : String) (f : Str) (to te : TE) : TS := fun D σ H => te σ H fun y H1 => to σ H1 fun x H2 => ∃ a C t1 : Addr, x = .ref a ∧ OexG K C tl newId ∧ PySem.W.findIn K (.ref C) f = some none ∧
  H2 a = some (exv a C t1 none) ∧ ∀ dx, H2 dx = none → dx ≠ a → D.nx σ (upd (upd H2 dx (exd dx [(f, y)])) a (exv a C t1 (some dx)))
/-- C(e, ..), held as a value -/
def tMkV (C : Addr) (sp : Sp) (ta : TA) : TE := fun σ H Q => ta σ H fun vs H1 => vs.length ≤ 1000 ∧ ∀ a t1, H1 a = none → H1 t1 = none → t1 ≠ a → sp (.ref a :: vs) (upd (upd H1 t1 (.tup vs)) a (exv a C t1 none)) (fun v H2 => v = .non ∧ Q (.ref a) H2) (fun _ _ _ => False)
section
variable {X : Cx} {o e : Expr} {es : List Expr} {to te : TE} {ta : TA} {f : Str} {p p' pos : Pos} {tl : List Value} {newId initId B : String}
theorem ps_osv (ho : PE X o to) (he : PE X e te) (hs : swapsWith e (some (.Attribute o f p')) pos.line X.env = pure false := by rfl) : PS X (.Assign [.Attribute o f p'] e pos) (tOsv X.K tl newId f to te) := by
  refine ⟨fun pins s σ H D I h => ?_⟩
  refine plainObj_wpAny_Assign_Attribute (thn (he.run pins s σ H _ I h) fun v s1 ⟨y, H1, I1, r1, q1⟩ =>
    thn (ho.run pins s1 σ H1 _ I1 q1) fun u s2 ⟨x, H2, I2, r2, a, C, t1, ex, T, no, ea, q⟩ => ?_) hs
  subst ex
  obtain rfl : u = Value.ref a := r2
  exact osv_new T I2 ea no r1 fun dx s3 n ne J => ⟨σ, _, J, q dx n ne⟩
theorem pe_oev {CX : CXT} {x : Str} {C fI : Addr} {k : Nat} {fd : FuncData} {ps : List Str} {sp : Sp} {tlB : List Value} (FB : ExcBaseFacts B newId initId tlB) (SV : ∀ l, Tl tl l → PySem.SKx.Sees B l) (T : OexG X.K C tl newId) (iC : PySem.W.findIn X.K (.ref C) "__init__" = some (some (.ref fI))) (tI : PySem.W.typeIn X.K (.ref fI) = some (.type "function"))
    (G : FnOk X.prog X.w X.K X.mg X.base CX k fI fd ps sp) (hr : Room (k + 1) X.A) (hb : Binds X.K fd ps []) (hx : Passes CX X (fun _ _ _ => False)) (hg : Gl X x) (hm : X.mg x = some (.ref C)) (ha : PA X (e :: es) ta)
    (hdb : (x == ("__debug__" : Str)) = false := by decide) (he : starEach (e :: es) X.env = (false, eval e X.env) :: starEach es X.env := by rfl) (hpl : (backTo pos (starEach es X.env)).any (·.1) = false := by rfl) :
    PE X (.Call (.Name x p) (e :: es) [] pos) (tMkV C sp ta) := by
  refine ⟨fun pins s σ H Q I h => ?_⟩
  obtain ⟨nm, qq, N, bs, bm, sn, sub, ab, col, dd, k0, k1, k2, k3, k5, hC, hbm⟩ := T.cls
  refine wpAny_Call_Name_kw (ld_glob I hg hm ?_ hdb)
  refine PySem.W.callWith_K (h₀ := X.base) I.ok.mod.kin T.kp (thn (ha.run pos pins s σ H _ I h) fun us s1 ⟨vs, H1, I1, r1, hz, q1⟩ => ⟨I1.kIn, ?_⟩) he hpl
  show wpAny _ _ (call (.ref C) us) _ _ _
  obtain ⟨hp, g, dr, tk, os⟩ := s1
  have up1 : hp.objs.size ≤ hp.objs.size + 1 := Nat.le_succ _
  have new0 : H1 hp.objs.size = none := I1.hok.fresh (Nat.le_refl _)
  have new1 : H1 (hp.objs.size + 1) = none := I1.hok.fresh up1
  have q2 := q1 (hp.objs.size + 1) hp.objs.size new1 new0 (Nat.ne_of_lt (Nat.lt_succ_self _))
  have small : us.length ≤ sizeLine := by
    rw [← Paired.length r1, sizeLine_eq]
    omega
  have I1' : Inv X pins σ (upd H1 hp.objs.size (.tup vs)) ⟨hp.push (PySem.W.kdv_tup us), g, dr, tk, os⟩ :=
    I1.laid (t' := tk) (a := hp.objs.size) (o := .tup vs) (h' := hp.push (PySem.W.kdv_tup us)) (fun c o z => Heap.get?_push_of_some _ z) (Nat.le_refl _) ⟨by rw [Paired.length r1]; exact small, us, r1, ⟨_, Heap.get?_push_at rfl rfl, rfl, _, rfl⟩⟩
  have at2 : ((hp.push (PySem.W.kdv_tup us)).push (PySem.HandSPX.excO C hp.objs.size)).get? (hp.objs.size + 1) = some (PySem.HandSPX.excO C hp.objs.size) := by
    heap_get
  have sz1 : (hp.push (PySem.W.kdv_tup us)).objs.size ≤ hp.objs.size + 1 := by
    rw [Heap.size_push]
    exact Nat.le_refl _
  have I2 : Inv X pins σ (upd (upd H1 hp.objs.size (.tup vs)) (hp.objs.size + 1) (exv (hp.objs.size + 1) C hp.objs.size none)) ⟨(hp.push (PySem.W.kdv_tup us)).push (PySem.HandSPX.excO C hp.objs.size), g, dr, tk, os⟩ :=
    I1'.laid (t' := tk) (a := hp.objs.size + 1) (o := exv (hp.objs.size + 1) C hp.objs.size none)
      (h' := (hp.push (PySem.W.kdv_tup us)).push (PySem.HandSPX.excO C hp.objs.size)) (fun c o z => Heap.get?_push_of_some _ z) sz1 (exv_ok at2)
  have r2 : Vals (V.ref (hp.objs.size + 1) :: (vs ++ [])) (Value.ref (hp.objs.size + 1) :: (us ++ [])) :=
    .cons rfl (r1.append .nil)
  rw [List.append_nil] at r2
  have hl : (Value.ref (hp.objs.size + 1) :: us ++ []).length = ps.length := by
    have e2 := r2.length
    rw [G.len _ _ _ _ q2] at e2
    rw [List.append_nil] at e2 ⊢
    exact e2.symm
  have hb2 := hb ⟨(hp.push (PySem.W.kdv_tup us)).push (PySem.HandSPX.excO C hp.objs.size), g, dr, tk, os⟩ (Value.ref (hp.objs.size + 1) :: us) I2.kIn hl
  rw [List.cons_append, List.append_nil] at hb2
  rw [List.append_nil] at r2
  refine wpAny_call (PySem.SKx.called FB (SV _ hbm) (I1.kIn _ _ hC) (PySem.W.looks_findIn I1.kIn iC) (fun self => PySem.W.bind_fn I1.kIn self tI) small ?_)
  refine codeAny_mono (G.run _ X.stack _ _ ⟨Value.ref (hp.objs.size + 1) :: us, []⟩ (Value.ref (hp.objs.size + 1) :: us) _ _ (fun _ _ _ => False)
    (hr.make C us []) (I2.env0.make C us []) hb2 r2 q2) fun r s2 z => ?_
  cases r with
  | error er => exact hx pins σ _ _ er s2 I2 z
  | ok fl =>
    cases fl with
    | ret u =>
      obtain ⟨v, H', I3, rv, ev, q3⟩ := I2.after z
      subst ev
      exact ⟨rv, ⟨V.ref (hp.objs.size + 1), H', I3, rfl, q3⟩⟩
    | next => exact z.elim
    | brk => exact z.elim
    | cont => exact z.elim
end
end L2

set_option Elab.async false
set_option linter.all false
set_option maxRecDepth 100000
set_option maxHeartbeats 4000000
namespace Dl
open PySem PySem.Spec PyProof.Rows L2 PySem.SLx
/-! making an exception as a value; its field; isinstance -/
def spXV (C : Addr) (fl : Str) : Sp := fun vs H Q _ => ∃ (a t1 : Addr) (v : V), vs = [.ref a, v] ∧ H a = some (exv a C t1 none) ∧ ∀ H2, Same H H2 → ∀ dx, H2 dx = none → dx ≠ a → Q .non (upd (upd H2 dx (exd dx [(fl, v)])) a (exv a C t1 (some dx)))
structure XClsV (P : Program) (w : World) (K : PySem.W.Frag) (mg : Str → Option Value) (base : Heap) (tl : List Value) (newId initId B : String) (x fl : Str) (C fI : Addr) (fd : FuncData) : Prop where
  FB : ∃ tlB, ExcBaseFacts B newId initId tlB
  SV : ∀ l, Tl tl l → PySem.SKx.Sees B l
  mgC : mg x = some (.ref C)
  T : OexG K C tl newId
  iC : PySem.W.findIn K (.ref C) "__init__" = some (some (.ref fI))
  tI : PySem.W.typeIn K (.ref fI) = some (.type "function")
  G : FnOk P w K mg base CX0 1 fI fd ["self", fl] (spXV C fl)
  b : Binds K fd ["self", fl] []
/-- what a class of exceptions tells where its instances are asked -/
structure XAsk (K : PySem.W.Frag) (C : Addr) : Prop where
  xf : XfC K C
  cl : (PySem.W.clsIn K C).isSome = true
  ha : PySem.W.findIn K (.ref C) "__class__" = some (some (.builtin "object.__class__"))
  hn : PySem.W.specialIn K (.builtin "object.__class__") "__get__" = some (some (.builtin "getset_descriptor.__get__"))
  ht : PySem.W.takesIn K (.builtin "object.__class__") = some true
  hm : PySem.W.mroIn K C (.type "object") = some true
/-- the class of a thing, as isinstance asks for it -/
inductive TyV (K : PySem.W.Frag) (H : Hp) : V → Value → Prop where
  | non : TyV K H .non (.type "NoneType")
  | bl {b : Bool} : TyV K H (.bl b) (.type "bool")
  | int {i : Int} : TyV K H (.int i) (.type "int")
  | str {x : Str} : TyV K H (.str x) (.type "str")
  | lst {a : Addr} {xs : List V} : H a = some (.lst xs) → TyV K H (.ref a) (.type "list")
  | tup {a : Addr} {xs : List V} : H a = some (.tup xs) → TyV K H (.ref a) (.type "tuple")
  | dct {a : Addr} {kvs : List (Key × V)} : H a = some (.dK kvs) → TyV K H (.ref a) (.type "dict")
  | exv {a C t1 d : Addr} {fs : List (Str × V)} : XAsk K C → H a = some (exv a C t1 (some d)) → H d = some (exd d fs) → TyV K H (.ref a) (.ref C)
  | ex0 {a C : Addr} : XAsk K C → H a = some (ExO (.ref C) a) → TyV K H (.ref a) (.ref C)
theorem TyV.up {K : PySem.W.Frag} {H H' : Hp} {v : V} {t : Value} (h : TyV K H v t) (s : Same H H') : TyV K H' v t := by
  cases h with
  | non => exact .non
  | bl => exact .bl
  | int => exact .int
  | str => exact .str
  | lst e => exact .lst (s _ _ e)
  | tup e => exact .tup (s _ _ e)
  | dct e => exact .dct (s _ _ e)
  | exv x e1 e2 => exact .exv x (s _ _ e1) (s _ _ e2)
  | ex0 x e => exact .ex0 x (s _ _ e)
theorem exO_at {P : Program} {w : World} {H : Hp} {h : Heap} {a : Addr} {cls : Value} (hok : HOk P w H h) (e : H a = some (ExO cls a)) : ∃ (oe : Obj) (vs : Array Value), h.get? a = some oe ∧ Zc cls none oe ∧ oe.data = .fields vs := by
  have x : ObjOk P w H h a (.ext fun h => ∃ (oe : Obj) (vs : Array Value), h.get? a = some oe ∧ Zc cls none oe ∧ oe.data = .fields vs ∧ vs[1]? = some .none ∧ vs[2]? = some .none ∧ 4 < vs.size) := hok a _ e
  obtain ⟨oe, vs, h1, h2, h3, _⟩ := x.1
  exact ⟨oe, vs, h1, h2, h3⟩
theorem kit_of {X : Cx} {pins : List (Addr × Obj)} {σ : L2.St} {H : Hp} {s : Shared} {v : V} {t u : Value} (I : Inv X pins σ H s) (h : TyV X.K H v t) (r : RelV v u) : ∃ Pd : Heap → Prop, PySem.W.KitX X.K u t Pd ∧ Pd s.heap ∧ u ≠ .builtin "__main__.__loader__#opaque" := by
  cases h with
  | non => obtain rfl : u = Value.none := r; exact ⟨_, PySem.W.kitx_none, trivial, fun z => nomatch z⟩
  | bl => obtain rfl : u = Value.bool _ := r; exact ⟨_, PySem.W.kitx_bool, trivial, fun z => nomatch z⟩
  | int => obtain ⟨t, rfl⟩ := r; exact ⟨_, PySem.W.kitx_int, trivial, fun z => nomatch z⟩
  | str => obtain ⟨t, rfl⟩ := r; exact ⟨_, PySem.W.kitx_str, trivial, fun z => nomatch z⟩
  | @lst a xs e =>
    obtain rfl : u = Value.ref a := r
    obtain ⟨_, its, n, _, g⟩ := (show ObjOk X.prog X.w H s.heap a (.lst xs) from I.hok a _ e)
    exact ⟨_, PySem.W.kitx_list, ⟨_, g, rfl⟩, fun z => nomatch z⟩
  | @tup a xs e =>
    obtain rfl : u = Value.ref a := r
    obtain ⟨_, its, _, o, g, c, _⟩ := (show ObjOk X.prog X.w H s.heap a (.tup xs) from I.hok a _ e)
    exact ⟨_, PySem.W.kitx_tuple, ⟨_, g, c⟩, fun z => nomatch z⟩
  | @dct a kvs e =>
    obtain rfl : u = Value.ref a := r
    obtain ⟨_, _, vs, _, o, es, ep, g, c, _⟩ := (show ObjOk X.prog X.w H s.heap a (.dK kvs) from I.hok a _ e)
    exact ⟨_, PySem.W.kitx_dict, ⟨_, g, c.1⟩, fun z => nomatch z⟩
  | @exv a C t1 d fs T e1 e2 =>
    obtain rfl : u = Value.ref a := r
    have g := exv_at I.hok e1
    obtain ⟨mA, ns, _⟩ := exd_at I.hok e2
    obtain ⟨od, there, _⟩ := lookIn_ns ns
    exact ⟨_, PySem.W.kitx_exc (od := some od) T.cl T.xf.ga T.xf.gg T.xf.exC T.ha T.hn T.ht T.hm, ⟨g, rfl, rfl, there⟩, fun z => nomatch z⟩
  | @ex0 a C T e =>
    obtain rfl : u = Value.ref a := r
    obtain ⟨⟨oc, od, oda, osl⟩, vs, g, ⟨z1, z2⟩, hd⟩ := exO_at I.hok e
    dsimp only at z1 z2 hd
    subst z1 z2 hd
    exact ⟨_, PySem.W.kitx_exc (od := none) T.cl T.xf.ga T.xf.gg T.xf.exC T.ha T.hn T.ht T.hm, ⟨g, rfl, rfl, trivial⟩, fun z => nomatch z⟩
/-- isinstance(v, c) -/
theorem call_isV {X : Cx} : CallR X (.builtin "isinstance") (fun xs H Q => ∃ (v c : V) (cv t : Value) (b : Bool), xs = [v, c] ∧ TyV X.K H v t ∧ (∀ u, RelV c u → u = cv) ∧ PySem.W.kitOne X.K t cv = some b ∧ Q (.bl b) H) := by
  intro pins s σ H xs us Q I rel ⟨v, c, cv, t, b, exs, ty, hc, kit, q⟩
  subst exs
  cases rel with
  | cons r1 rel =>
    cases rel with
    | cons r2 rel =>
      cases rel
      have ec := hc _ r2
      subst ec
      obtain ⟨Pd, Z, p, nb⟩ := kit_of I ty r1
      exact PySem.W.kia_one Z I.kIn p kit nb fun tk => ⟨.bl b, H, I.kept (t' := tk) fun _ _ w => w, rfl, q⟩
/-- isinstance(v, (c, ..)) -/
theorem call_isVT {X : Cx} : CallR X (.builtin "isinstance") (fun xs H Q => ∃ (v : V) (tp : Addr) (cs : List V) (cvs : List Value) (t : Value) (b : Bool), xs = [v, .ref tp] ∧ TyV X.K H v t ∧ H tp = some (.tup cs) ∧ (∀ us, Vals cs us → us = cvs) ∧ PySem.W.kitAny X.K t cvs = some b ∧ Q (.bl b) H) := by
  intro pins s σ H xs us Q I rel ⟨v, tp, cs, cvs, t, b, exs, ty, htp, hc, kit, q⟩
  subst exs
  cases rel with
  | cons r1 rel =>
    cases rel with
    | cons r2 rel =>
      cases rel
      cases r2
      obtain ⟨Pd, Z, p, nb⟩ := kit_of I ty r1
      obtain ⟨_, its, rv, ⟨oc, od, oda, osl⟩, g, c, n, hd⟩ := (show ObjOk X.prog X.w H s.heap tp (.tup cs) from I.hok tp _ htp)
      dsimp only at c hd
      subst c hd
      have ec := hc _ rv
      subst ec
      exact PySem.W.kia_tup Z I.kIn p g kit nb fun tk => ⟨.bl b, H, I.kept (t' := tk) fun _ _ w => w, rfl, q⟩
section
variable {X : Cx} {M : List Addr} {σ : L2.St} {H : Hp} {a o e ce : Expr} {es : List Expr} {x fl : Str} {v c : V} {cv t : Value} {b : Bool} {pos p1 p2 ap : Pos} {D : Ends} {rest : List Stmt} {C fI : Addr} {fd : FuncData} {tl : List Value} {newId initId B : String} {Q : VK}
theorem rb_osv {m : Str} {ad t1 : Addr} (T : OexG X.K C tl newId) (no : PySem.W.findIn X.K (.ref C) m = some none) (he : XV X σ H e v) (ho : XV X σ H o (.ref ad)) (ha : H ad = some (exv ad C t1 none)) (q : ∀ H2, Same H H2 → ∀ dx, H2 dx = none → dx ≠ ad → RB X rest D σ (upd (upd H2 dx (exd dx [(m, v)])) ad (exv ad C t1 (some dx))))
    (hs : swapsWith e (some (.Attribute o m ap)) pos.line X.env = pure false := by rfl) : RB X (.Assign [.Attribute o m ap] e pos :: rest) D σ H :=
  ⟨_, pss_cons (ps_osv (tl := tl) (newId := newId) re_ re_ hs) rb_, he H (Same.refl _) _ fun H1 s1 => ho H1 s1 _ fun H2 s2 => ⟨ad, C, t1, rfl, T, no, (s1.trans s2) _ _ ha, fun dx h1 h2 => q H2 (s1.trans s2) dx h1 h2⟩⟩
/-- C(e), held as a value -/
theorem re_exv (Y : XClsV X.prog X.w X.K X.mg X.base tl newId initId B x fl C fI fd) (hr : Room 2 X.A) (h : RE X e σ H fun v H1 => ∀ a t1 d H2, H1 a = none → H1 t1 = none → H1 d = none → t1 ≠ a → Same H1 H2 → H2 a = some (exv a C t1 (some d)) → H2 d = some (exd d [(fl, v)]) → H2 t1 = some (.tup [v]) → Q (.ref a) H2) (hg : Gl X x := by rfl)
    (hdb : (x == ("__debug__" : Str)) = false := by decide) (he : starEach [e] X.env = (false, eval e X.env) :: starEach [] X.env := by rfl) (hpl : (backTo pos (starEach [] X.env)).any (·.1) = false := by rfl) : RE X (.Call (.Name x p1) [e] [] pos) σ H Q :=
  let ⟨_, FB⟩ := Y.FB
  ⟨_, pe_oev FB Y.SV Y.T Y.iC Y.tI Y.G hr Y.b pass0 hg Y.mgC ra_ hdb he hpl, ra_1 (re_mono h fun v H1 q => ⟨by show 1 ≤ 1000; decide, fun a t1 ha ht hne => ⟨a, t1, v, rfl, upd_same, fun H2 s2 dx hd hda => ⟨rfl, by
    have s1 : Same H1 H2 := fun z o e => s2 z o (by
      have n1 : z ≠ a := fun w => by rw [w, ha] at e; cases e
      have n2 : z ≠ t1 := fun w => by rw [w, ht] at e; cases e
      rw [upd_ne n1, upd_ne n2]; exact e)
    have hd1 : H1 dx = none := s1.free hd
    have ht2 : H2 t1 = some (.tup [v]) := s2 _ _ (by rw [upd_ne hne, upd_same])
    have ndt : t1 ≠ dx := fun w => by rw [← w, ht2] at hd; cases hd
    refine q a t1 dx _ ha ht hd1 hne (fun z o e => ?_) upd_same (by rw [upd_ne hda, upd_same]) (by rw [upd_ne hne, upd_ne ndt]; exact ht2)
    have n1 : z ≠ a := fun w => by rw [w, ha] at e; cases e
    have n2 : z ≠ dx := fun w => by rw [w, hd1] at e; cases e
    rw [upd_ne n1, upd_ne n2]
    exact s1 z o e⟩⟩⟩) he⟩
/-- isinstance -/
theorem xd_isV (ho : XV X σ H o v) (ty : TyV X.K H v t) (hce : XV X σ H ce c) (hc : ∀ u, RelV c u → u = cv) (kit : PySem.W.kitOne X.K t cv = some b) (hm : X.mg "isinstance" = none) (hg : Gl X "isinstance" := by rfl)
    (he : starEach [o, ce] X.env = (false, eval o X.env) :: starEach [ce] X.env := by rfl) (he2 : starEach [ce] X.env = (false, eval ce X.env) :: starEach [] X.env := by rfl) (hpl : (backTo pos (starEach [ce] X.env)).any (·.1) = false := by rfl) :
    XD X M σ H (.Call (.Name "isinstance" p1) [o, ce] [] pos) (.bool b) := fun H1 s Q q =>
  re_B call_isV (ra_cons (ho H1 s _ fun H2 s2 => ra_1 (hce H2 (s.trans s2) _ fun H3 s3 => ⟨v, c, cv, t, b, rfl, ty.up ((s.trans s2).trans s3), hc, kit, q _ H3 (s2.trans s3) (.bl _)⟩) he2) he) hm (by decide +kernel) hg (by decide) (by decide) he hpl
end
/-- e.f of an exception that is held -/
def tXv (K : PySem.W.Frag) (f : Str) (te : TE) : TE := fun σ H Q => te σ H fun x H1 => ∃ (a C t1 d : Addr) (fs : List (Str × V)) (v : V), x = .ref a ∧ XfC K C ∧ PySem.W.findIn K (.ref C) f = some none ∧ H1 a = some (exv a C t1 (some d)) ∧ H1 d = some (exd d fs) ∧ fs.lookup f = some v ∧ Q v H1
theorem pe_xv {X : Cx} {e : Expr} {te : TE} {pos : Pos} {n : Str} (he : PE X e te) (hb : attributeBase e n X.env (eval e X.env) = eval e X.env := by rfl) : PE X (.Attribute e n pos) (tXv X.K n te) := by
  refine ⟨fun pins s σ H Q I h => ?_⟩
  refine attr_of hb (thn (he.run pins s σ H _ I h) fun u s1 hh => ?_)
  obtain ⟨x, H1, I1, rx, a, C, t1, d, fs, v, ex, T, hno, ea, ed, l, q⟩ := hh
  subst ex
  obtain rfl : u = Value.ref a := rx
  have g := exv_at I1.hok ea
  obtain ⟨mA, hns, hr⟩ := exd_at I1.hok ed
  obtain ⟨od, ho, hl⟩ := lookIn_ns hns
  obtain ⟨u, hu, ru⟩ := RelO.some_of (v := v) (o := mA n) (by rw [← l]; exact hr n)
  exact HandSPX.exc_get I1.kIn (⟨g, rfl, rfl, ho⟩ : PySem.W.InstAt s1.heap a _ C (some od)) T.ga T.gg T.exC (PySem.W.findObj_own T.hdC hno rfl (by rw [hl, hu])) (handed_of ru) ⟨v, H1, I1.tok _, ru, q⟩
theorem xv_xv {X : Cx} {σ : L2.St} {H : Hp} {e : Expr} {pos : Pos} {n : Str} {a C t1 d : Addr} {fs : List (Str × V)} {v : V} (T : XfC X.K C) (no : PySem.W.findIn X.K (.ref C) n = some none) (ho : XV X σ H e (.ref a)) (ea : H a = some (exv a C t1 (some d))) (ed : H d = some (exd d fs)) (hl : fs.lookup n = some v)
    (hb : attributeBase e n X.env (eval e X.env) = eval e X.env := by rfl) : XV X σ H (.Attribute e n pos) v := fun H1 s Q q =>
  ⟨_, pe_xv re_ hb, ho H1 s _ fun H2 s2 => ⟨a, C, t1, d, fs, v, rfl, T, no, (s.trans s2) _ _ ea, (s.trans s2) _ _ ed, hl, q H2 s2⟩⟩
end Dl

set_option Elab.async false
set_option linter.all false
set_option maxRecDepth 100000
set_option maxHeartbeats 4000000
/-! an own exception made with one argument by name -/
namespace PySem
namespace HandSPX
open PySem.W PySem.Calls PyProof.Rows
open Builtin Builtin.ObjectAttr
section
variable {M : Model} {A : Around} {E : Value → Shared → Prop} {h : Heap} {g : Array GenState} {d : Drawn} {t : Nat} {os : OsState}
variable {nm q : Str} {C N : Addr} {bs bm bmB : List Value} {hdct : Bool} {sn : List Str} {sub : List Value} {ab : Bool} {col : Option Bool} {dd : Option Addr} {k0 k1 k2 k3 k5 : Option Value} {B newId initId : String} {kn : Str} {kv : Value}
theorem check_new_kw (F : ExcBaseFacts B newId initId bmB) (S : SKx.Sees B bm) {Q : Unit → Shared → Prop}
    (hC : h.get? C = some (excClassObj nm q C N bs bm hdct sn sub ab col dd k0 k1 k2 k3 k5 newId)) (hq : Q () ⟨h, g, d, t, os⟩) : wpAny M A (checkBuiltinCall newId ⟨[.ref C], [(kn, kv)]⟩) Q E ⟨h, g, d, t, os⟩ := by
  have hcont : (Value.ref C :: bm).contains (.type B) = true := by rw [List.contains_cons, S.b, Bool.or_true]
  have hstar := F.noStar
  simp only [checkBuiltinCall, F.newKind, F.newSplit, F.newRow]
  repeat (first | refine wpAny_loadPart_at hC ?_ | (refine wpAny_isSubtype_exc hC ?_; rw [hcont]) | refine wpAny_staticBase_exc hC ?_ | refine wpAny_madeBy_exc hC ?_ | simp only [bne_self_eq_false, Bool.false_eq_true, if_false] | wp_step)
  exact hq
end
section
variable {prog : Program} {w : World} {A : Around} {E : Value → Shared → Prop} {R : Result → Shared → Prop} {h : Heap} {g : Array GenState} {d : Drawn} {t : Nat} {os : OsState}
variable {nm q : Str} {C N : Addr} {bs bm bmB : List Value} {hdct : Bool} {sn : List Str} {sub : List Value} {ab : Bool} {col : Option Bool} {dd : Option Addr} {k0 k1 k2 k3 k5 : Option Value} {B newId initId : String} {kn : Str} {kv : Value}
theorem new_kw (F : ExcBaseFacts B newId initId bmB) (S : SKx.Sees B bm)
    (hC : h.get? C = some (excClassObj nm q C N bs bm hdct sn sub ab col dd k0 k1 k2 k3 k5 newId))
    (hq : R (.ok (.ret (.ref (h.objs.size + 1)))) ⟨(h.push { cls := .type "tuple", data := .seq ([] : List Value).toArray }).push
      { cls := .ref C, data := .fields #[.ref h.objs.size, .none, .none, .none, .bool false, .none] }, g, d, t, os⟩) :
    codeAny (model prog w) A (.builtin newId ⟨[.ref C], [(kn, kv)]⟩) R ⟨h, g, d, t, os⟩ := by
  have hends := F.ends
  have hcB : (Value.ref C :: bm).contains (.type B) = true := by rw [List.contains_cons, S.b, Bool.or_true]
  have hcA : (Value.ref C :: bm).contains (.type "AttributeError") = false := by rw [List.contains_cons, S.a]; rfl
  have hcN : (Value.ref C :: bm).contains (.type "NameError") = false := by rw [List.contains_cons, S.n]; rfl
  refine codeAny_builtinAt F.entry ?_
  unfold Builtin.«BaseException.__new__»
  refine wpAt_bind ?_
  show wpAt _ _ _ (stack >>= _) _ _ _
  refine wpAt_bind (wpAt_stack fun p below => wpAt_of_wpAny ?_)
  wp_walk
  refine wpAt_of_wpAny ?_
  rw [F.owner]
  repeat (first | with_reducible refine wpAny_madeHere_exc F.canon hC ?_ | with_reducible refine wpAny_loadPart_at hC ?_ | (with_reducible refine wpAny_isSubtype_exc hC ?_; first | rw [hcB] | rw [hcA] | rw [hcN]) | wp_step)
  show R _ _
  rw [Heap.size_push]
  exact hq
theorem type_call_kw (F : ExcBaseFacts B newId initId bmB) (S : SKx.Sees B bm) {fI : Addr} {Q : Fin → Shared → Prop}
    (hC : h.get? C = some (excClassObj nm q C N bs bm hdct sn sub ab col dd k0 k1 k2 k3 k5 newId))
    (hi : W.Looks (model prog w) h (typeLookup (.ref C) "__init__") (some (.ref fI))) (hb : ∀ self, W.Looks (model prog w) h (bindSpecial (.ref fI) self) (.ref fI, [self]))
    (hq : codeAny (model prog w) A (.call (.ref fI) ⟨[.ref (h.objs.size + 1)], [(kn, kv)]⟩)
      (fun r s' => match r with | .ok (.ret v) => v = .none ∧ Q (.done (.ret (.ref (h.objs.size + 1)))) s' | .ok _ => False | .error e => E e s')
      ⟨(h.push (W.kdv_tup [])).push (excO C h.objs.size), g, d, t, os⟩) :
    wpAny (model prog w) A (Builtin.«type.__call__» ⟨[.ref C], [(kn, kv)]⟩) Q E ⟨h, g, d, t, os⟩ := by
  repeat (first | with_reducible refine wpAny_loadPart_at hC ?_ | with_reducible refine wpAny_madeBy_exc hC ?_ | wp_step)
  refine codeAny_call_builtin_code (Code.quiet_builtin _ F.quiet) (check_new_kw F S hC ?_)
  refine new_kw F S hC ?_
  show wpAny _ _ _ _ _ _
  have k : ∀ b o, h.get? b = some o → ((h.push (W.kdv_tup [])).push (excO C h.objs.size)).get? b = some o := fun b o e => Heap.get?_push_of_some _ (Heap.get?_push_of_some _ e)
  have hC₁ := k _ _ hC
  have hget : ((h.push (W.kdv_tup [])).push (excO C h.objs.size)).get? (h.objs.size + 1) = some (excO C h.objs.size) := by heap_get
  have hcC : (Value.ref C :: bm).contains (.ref C) = true := by simp
  have i1 := hi.keeps k
  have b1 := (hb (.ref (h.objs.size + 1))).keeps k
  unfold isInstance
  repeat (first | with_reducible refine wpAny_loadPart_at hget ?_ | (with_reducible refine wpAny_isSubtype_exc hC₁ ?_; rw [hcC]) | wp_step)
  show wpAny _ _ (typeLookup (.ref C) _) _ _ _
  refine i1.at ?_
  refine wpAny_holding (wpAny_bind (b1.at ?_))
  refine wpAny_bind (wpAny_call (codeAny_mono hq fun r s' z => ?_))
  rcases r with e | (v | _ | _ | _) <;> first | exact z | exact z.elim | skip
  obtain ⟨rfl, z⟩ := z
  first
    | exact wpAny_pure (wpAny_pure z)
    | (wp_walk; exact z)
theorem call_kw (F : ExcBaseFacts B newId initId bmB) (S : SKx.Sees B bm) {fI : Addr}
    (hC : h.get? C = some (excClassObj nm q C N bs bm hdct sn sub ab col dd k0 k1 k2 k3 k5 newId))
    (hi : W.Looks (model prog w) h (typeLookup (.ref C) "__init__") (some (.ref fI))) (hb : ∀ self, W.Looks (model prog w) h (bindSpecial (.ref fI) self) (.ref fI, [self]))
    (hq : codeAny (model prog w) (A.under (.builtin "type.__call__" ⟨[.ref C], [(kn, kv)]⟩)) (.call (.ref fI) ⟨[.ref (h.objs.size + 1)], [(kn, kv)]⟩) (W.InitBack (h.objs.size + 1) R)
      ⟨(h.push (W.kdv_tup [])).push (excO C h.objs.size), g, d, t, os⟩) :
    codeAny (model prog w) A (.call (.ref C) ⟨[], [(kn, kv)]⟩) R ⟨h, g, d, t, os⟩ := by
  have f1 := tc_lookup
  have f2 := tc_bind (.ref C)
  have hTy : (⟨h, g, d, t, os⟩ : Shared).TypeIs (.ref C) "type" := ⟨_, hC, rfl⟩
  refine codeAny_of_tree ?_
  show wpAny _ _ (callAny (.ref C) _) _ _ _
  repeat (any_goals (first | assumption | with_reducible refine wpAny_loadPart_at hC ?_ | wp_step))
  refine ⟨rfl, ?_⟩
  refine codeAny_call_builtin_at (Code.quiet_builtin _ (by decide +kernel)) entry_typeCall (wpAny_check_type_call_sub hC (type_call_kw F S hC hi hb ?_))
  refine codeAny_mono hq fun r s' z => ?_
  rcases r with e | (v | _ | _ | _) <;> exact z
end
end HandSPX
end PySem
namespace L2
open PySem PySem.Spec PyProof.Rows PySem.SLx
/-- C(fl = e), held as a value -/
def tMkW (C : Addr) (sp : Sp) (te : TE) : TE := fun σ H Q => te σ H fun v H1 => ∀ a t1, H1 a = none → H1 t1 = none → t1 ≠ a → sp [.ref a, v] (upd (upd H1 t1 (.tup [])) a (exv a C t1 none)) (fun v H2 => v = .non ∧ Q (.ref a) H2) (fun _ _ _ => False)
section
variable {X : Cx} {e : Expr} {te : TE} {p kpos pos : Pos} {tl : List Value} {newId initId B : String}
theorem pe_oevK {CX : CXT} {x fl : Str} {C fI : Addr} {k : Nat} {fd : FuncData} {ps : List Str} {sp : Sp} {tlB : List Value} (FB : ExcBaseFacts B newId initId tlB) (SV : ∀ l, Tl tl l → PySem.SKx.Sees B l) (T : OexG X.K C tl newId) (iC : PySem.W.findIn X.K (.ref C) "__init__" = some (some (.ref fI))) (tI : PySem.W.typeIn X.K (.ref fI) = some (.type "function"))
    (G : FnOk X.prog X.w X.K X.mg X.base CX k fI fd ps sp) (hr : Room (k + 1) X.A) (hb : ∀ (s : Shared) (u v : Value), BindsTo s fd ⟨[u], [(fl, v)]⟩ (ps.zip [u, v])) (hx : Passes CX X (fun _ _ _ => False)) (hg : Gl X x) (hm : X.mg x = some (.ref C)) (he : PE X e te)
    (hall : (backToKw pos (keywordEach [⟨some fl, e, kpos⟩] X.env)).all (·.1.isSome) = true := by rfl) (hks : (backToKw pos (keywordEach [⟨some fl, e, kpos⟩] X.env)).filterMap (·.1) = [fl] := by rfl) (hdb : (x == ("__debug__" : Str)) = false := by decide)
    (hpl : ((backTo pos (starEach [] X.env)).any (·.1) || (backToKw pos (keywordEach [⟨some fl, e, kpos⟩] X.env)).any (·.1.isNone)) = false := by rfl) :
    PE X (.Call (.Name x p) [] [⟨some fl, e, kpos⟩] pos) (tMkW C sp te) := by
  refine ⟨fun pins s σ H Q I h => ?_⟩
  obtain ⟨nm, qq, N, bs, bm, sn, sub, ab, col, dd, k0, k1, k2, k3, k5, hC, hbm⟩ := T.cls
  refine wpAny_Call_Name_kw (ld_glob I hg hm ?_ hdb)
  refine PySem.W.callWith_KW0 (h₀ := X.base) I.ok.mod.kin T.kp hall ?_ hpl
  refine thn ((pk_cons (nm := some fl) (kpos := kpos) he pk_nil).run pos pins s σ H (fun vs H1 => match vs with
    | [v] => ∀ a t1, H1 a = none → H1 t1 = none → t1 ≠ a → sp [.ref a, v] (upd (upd H1 t1 (.tup [])) a (exv a C t1 none)) (fun v H2 => v = .non ∧ Q (.ref a) H2) (fun _ _ _ => False)
    | _ => False) I h) fun ws s1 ⟨vs, H1, I1, r1, q0⟩ => ⟨I1.kIn, ?_⟩
  obtain ⟨v, rfl⟩ : ∃ v, vs = [v] := by
    match vs, q0 with
    | [v], _ => exact ⟨v, rfl⟩
  have q1 : ∀ a t1, H1 a = none → H1 t1 = none → t1 ≠ a → sp [.ref a, v] (upd (upd H1 t1 (.tup [])) a (exv a C t1 none)) (fun v H2 => v = .non ∧ Q (.ref a) H2) (fun _ _ _ => False) := q0
  cases r1 with
  | @cons _ u _ _ rv r0 =>
    cases r0
    rw [hks]
    show wpAny _ _ (call (.ref C) [] [(fl, u)]) _ _ _
    obtain ⟨hp, g, dr, tk, os⟩ := s1
    have up1 : hp.objs.size ≤ hp.objs.size + 1 := Nat.le_succ _
    have new0 : H1 hp.objs.size = none := I1.hok.fresh (Nat.le_refl _)
    have new1 : H1 (hp.objs.size + 1) = none := I1.hok.fresh up1
    have q2 := q1 (hp.objs.size + 1) hp.objs.size new1 new0 (Nat.ne_of_lt (Nat.lt_succ_self _))
    have I1' : Inv X pins σ (upd H1 hp.objs.size (.tup [])) ⟨hp.push (PySem.W.kdv_tup []), g, dr, tk, os⟩ :=
      I1.laid (t' := tk) (a := hp.objs.size) (o := .tup []) (h' := hp.push (PySem.W.kdv_tup [])) (fun c o z => Heap.get?_push_of_some _ z) (Nat.le_refl _) ⟨Nat.zero_le _, [], .nil, ⟨_, Heap.get?_push_at rfl rfl, rfl, _, rfl⟩⟩
    have at2 : ((hp.push (PySem.W.kdv_tup [])).push (PySem.HandSPX.excO C hp.objs.size)).get? (hp.objs.size + 1) = some (PySem.HandSPX.excO C hp.objs.size) := by
      heap_get
    have sz1 : (hp.push (PySem.W.kdv_tup [])).objs.size ≤ hp.objs.size + 1 := by
      rw [Heap.size_push]
      exact Nat.le_refl _
    have I2 : Inv X pins σ (upd (upd H1 hp.objs.size (.tup [])) (hp.objs.size + 1) (exv (hp.objs.size + 1) C hp.objs.size none)) ⟨(hp.push (PySem.W.kdv_tup [])).push (PySem.HandSPX.excO C hp.objs.size), g, dr, tk, os⟩ :=
      I1'.laid (t' := tk) (a := hp.objs.size + 1) (o := exv (hp.objs.size + 1) C hp.objs.size none)
        (h' := (hp.push (PySem.W.kdv_tup [])).push (PySem.HandSPX.excO C hp.objs.size)) (fun c o z => Heap.get?_push_of_some _ z) sz1 (exv_ok at2)
    have r2 : Vals [V.ref (hp.objs.size + 1), v] [Value.ref (hp.objs.size + 1), u] := .cons rfl (.cons rv .nil)
    refine wpAny_call (PySem.HandSPX.call_kw FB (SV _ hbm) (I1.kIn _ _ hC) (PySem.W.looks_findIn I1.kIn iC) (fun self => PySem.W.bind_fn I1.kIn self tI) ?_)
    refine codeAny_mono (G.run _ X.stack _ _ ⟨[Value.ref (hp.objs.size + 1)], [(fl, u)]⟩ [Value.ref (hp.objs.size + 1), u] _ _ (fun _ _ _ => False)
      (hr.make C [] [(fl, u)]) (I2.env0.make C [] [(fl, u)]) (hb _ _ _) r2 q2) fun r s2 z => ?_
    cases r with
    | error er => exact hx pins σ _ _ er s2 I2 z
    | ok fl =>
      cases fl with
      | ret u =>
        obtain ⟨v, H', I3, rv, ev, q3⟩ := I2.after z
        subst ev
        exact ⟨rv, ⟨V.ref (hp.objs.size + 1), H', I3, rfl, q3⟩⟩
      | next => exact z.elim
      | brk => exact z.elim
      | cont => exact z.elim
end
end L2
namespace Dl
open PySem PySem.Spec PyProof.Rows L2 PySem.SLx
section
variable {X : Cx} {σ : L2.St} {H : Hp} {e : Expr} {x fl : Str} {p1 kpos pos : Pos} {C fI : Addr} {fd : FuncData} {tl : List Value} {newId initId B : String} {Q : VK}
/-- C(fl = e), held as a value -/
theorem re_exvK (Y : XClsV X.prog X.w X.K X.mg X.base tl newId initId B x fl C fI fd) (hr : Room 2 X.A) (hbk : ∀ (s : Shared) (u v : Value), BindsTo s fd ⟨[u], [(fl, v)]⟩ ((["self", fl] : List Str).zip [u, v])) (h : RE X e σ H fun v H1 => ∀ a t1 d H2, H1 a = none → H1 t1 = none → H1 d = none → Same H1 H2 → H2 a = some (exv a C t1 (some d)) → H2 d = some (exd d [(fl, v)]) → Q (.ref a) H2) (hg : Gl X x := by rfl)
    (hall : (backToKw pos (keywordEach [⟨some fl, e, kpos⟩] X.env)).all (·.1.isSome) = true := by rfl) (hks : (backToKw pos (keywordEach [⟨some fl, e, kpos⟩] X.env)).filterMap (·.1) = [fl] := by rfl) (hdb : (x == ("__debug__" : Str)) = false := by decide)
    (hpl : ((backTo pos (starEach [] X.env)).any (·.1) || (backToKw pos (keywordEach [⟨some fl, e, kpos⟩] X.env)).any (·.1.isNone)) = false := by rfl) : RE X (.Call (.Name x p1) [] [⟨some fl, e, kpos⟩] pos) σ H Q :=
  let ⟨_, FB⟩ := Y.FB
  ⟨_, pe_oevK FB Y.SV Y.T Y.iC Y.tI Y.G hr hbk pass0 hg Y.mgC re_ hall hks hdb hpl, re_mono h fun v H1 q => fun a t1 ha ht hne => ⟨a, t1, v, rfl, upd_same, fun H2 s2 dx hd hda => ⟨rfl, by
    have s1 : Same H1 H2 := fun z o e => s2 z o (by
      have n1 : z ≠ a := fun w => by rw [w, ha] at e; cases e
      have n2 : z ≠ t1 := fun w => by rw [w, ht] at e; cases e
      rw [upd_ne n1, upd_ne n2]; exact e)
    have hd1 : H1 dx = none := s1.free hd
    refine q a t1 dx _ ha ht hd1 (fun z o e => ?_) upd_same (by rw [upd_ne hda, upd_same])
    have n1 : z ≠ a := fun w => by rw [w, ha] at e; cases e
    have n2 : z ≠ dx := fun w => by rw [w, hd1] at e; cases e
    rw [upd_ne n1, upd_ne n2]
    exact s1 z o e⟩⟩⟩
end
end Dl

set_option Elab.async false
set_option linter.all false
set_option maxRecDepth 100000
set_option maxHeartbeats 4000000
/-! own exceptions without own __init__, as values: X() and X(e); the built-in class that makes and the one that sets up may differ (LookupError makes, KeyError sets up) -/
namespace PySem
namespace SKx
open PySem.W PySem.Calls PyProof.Rows PySem.HandSPX
/-- the built-in class whose __init__ is taken -/
structure Ini (B initId : String) (bm : List Value) : Prop where
  init : Slot B "__init__" initId
  initEntry : entryFor table initId = some Builtin.«BaseException.__init__»
  initSplit : splitId initId = some (B, "__init__")
  initKind : builtinKind initId = some .slot
  initRow : Manifest.signature? initId = some ⟨.positional, "*", B, .self, [⟨"args", .varPos, false⟩]⟩
  noStar : (B != "*") = true
  mroIs : mroOf (.type B) = pure bm
  hasB : bm.contains (.type B) = true
theorem Ini.of {B newId initId : String} {bm : List Value} (F : ExcBaseFacts B newId initId bm) : Ini B initId bm := ⟨F.init, F.initEntry, F.initSplit, F.initKind, F.initRow, F.noStar, F.mroIs, F.hasB⟩
theorem ini_ke : Ini "KeyError" "KeyError.__init__" keTl where
  init := excClass_KeyError.init
  initEntry := excClass_KeyError.initEntry
  initSplit := by kernel_rfl
  initKind := by kernel_rfl
  initRow := by kernel_rfl
  noStar := by decide +kernel
  mroIs := by rw [mroOf_type]; kernel_rfl
  hasB := by decide +kernel
section
variable {prog : Program} {w : World} {A : Around} {E : Value → Shared → Prop} {h : Heap} {g : Array GenState} {d : Drawn} {t : Nat} {os : OsState}
variable {nm q : Str} {C N : Addr} {bs bm bmB bm0 : List Value} {hdct : Bool} {sn : List Str} {sub : List Value} {ab : Bool} {col : Option Bool} {dd : Option Addr} {k0 k1 k2 k3 k5 : Option Value} {B B0 newId initId initN : String}
theorem check_ini (F : Ini B0 initId bm0) (T : OwnTail h bm0 bm) {M : Model} {e : Addr} {oe : Obj} {rest : List Value} {Q : Unit → Shared → Prop}
    (hC : h.get? C = some (excClassObj nm q C N bs bm hdct sn sub ab col dd k0 k1 k2 k3 k5 newId)) (he : h.get? e = some oe) (hcls : oe.cls = .ref C) (hq : Q () ⟨h, g, d, t, os⟩) :
    wpAny M A (checkBuiltinCall initId ⟨.ref e :: rest, []⟩) Q E ⟨h, g, d, t, os⟩ := by
  have hcB : (Value.ref C :: bm).contains (.type B0) = true := by rw [List.contains_cons, T.hasType F.hasB, Bool.or_true]
  have hshort := F.noStar
  simp only [checkBuiltinCall, F.initKind, F.initSplit, F.initRow]
  repeat (first | (with_reducible refine wpAny_loadPart_at he ?_; rw [hcls]) | with_reducible refine wpAny_loadPart_at hC ?_ | (with_reducible refine wpAny_isSubtype_exc hC ?_; rw [hcB]) | wp_step)
  refine wpAny_onRaise ?_
  rw [show ∀ (a b : String) (n : Nat), Bind.check ⟨.positional, "*", B0, .self, [⟨"args", .varPos, false⟩]⟩ a b n (List.map (fun x => x.fst) ({ pos := Value.ref e :: rest } : Args).kw) = pure () from
    fun a b n => check_star_args _ _ _ _ _ _]
  exact wpAny_pure hq
theorem typed0 (FB : ExcBaseFacts B newId initN bmB) (S : Sees B bm) (F : Ini B0 initId bm0) (T : OwnTail h bm0 bm) {mN : Str → Option Value} {rest : List Value} {Q : Fin → Shared → Prop}
    (hC : h.get? C = some (excClassObj nm q C N bs bm hdct sn sub ab col dd k0 k1 k2 k3 k5 newId)) (hn : h.Ns N mN) (hni : mN "__init__" = none)
    (hq : ∀ h' e, Heap.MadeExcOf h h' e (.ref C) rest → Q (.done (.ret (.ref e))) ⟨h', g, d, t, os⟩) (hrest : rest.length ≤ sizeLine := by size_fits) :
    wpAny (model prog w) A (Builtin.«type.__call__» ⟨.ref C :: rest, []⟩) Q E ⟨h, g, d, t, os⟩ := by
  repeat (first | with_reducible refine wpAny_loadPart_at hC ?_ | with_reducible refine wpAny_madeBy_exc hC ?_ | wp_step)
  refine codeAny_call_builtin_code (Code.quiet_builtin _ FB.quiet) (checked FB S hC (made FB S hC hrest ?_))
  show wpAny _ _ _ _ _ _
  have hC₁ := Heap.get?_push_of_some (excO C h.objs.size) (Heap.get?_push_of_some (W.kdv_tup rest) hC)
  have hn₁ : ((h.push (W.kdv_tup rest)).push (excO C h.objs.size)).Ns N mN :=
    let ⟨o, es, ep, e, r⟩ := hn; ⟨o, es, ep, Heap.get?_push_of_some _ (Heap.get?_push_of_some _ e), r⟩
  have hget : ((h.push (W.kdv_tup rest)).push (excO C h.objs.size)).get? (h.objs.size + 1) = some (excO C h.objs.size) := by heap_get
  have hcC : (Value.ref C :: bm).contains (.ref C) = true := by simp
  have T₁ := T.keeps (h' := (h.push (W.kdv_tup rest)).push (excO C h.objs.size)) fun b o e => Heap.get?_push_of_some _ (Heap.get?_push_of_some _ e)
  unfold isInstance
  repeat (first | with_reducible refine wpAny_loadPart_at hget ?_ | (with_reducible refine wpAny_isSubtype_exc hC₁ ?_; rw [hcC]) | wp_step)
  show wpAny _ _ (typeLookup (.ref C) _) _ _ _
  refine wpAny_typeLookup_tail hC₁ hn₁ T₁ F.mroIs F.init.lookup ?_
  rw [hni]
  refine wpAny_holding (wpAny_bind (wpAny_of_eq (F.init.bind _) ?_))
  refine wpAny_bind (wpAny_call (codeAny_call_builtin F.init.plain F.initEntry (check_ini F T₁ hC₁ hget rfl ?_)))
  wp_walk
  refine hq _ _ ⟨fun b o hb => ?_, Heap.get?_none_of_le (Nat.le_succ _), h.objs.size + 2, ?_, Heap.get?_none_of_le (by omega), ?_⟩
  · rw [Heap.get?_update_other _ _ (Nat.ne_of_gt (Nat.lt_succ_of_lt (Heap.lt_size hb)))]
    exact Heap.get?_push_of_some _ (Heap.get?_push_of_some _ (Heap.get?_push_of_some _ hb))
  · rw [Heap.get?_update_self _ (Heap.get?_push_of_some _ hget) rfl]
    simp only [Heap.size_push]
    rfl
  · rw [Heap.get?_update_other _ _ (show h.objs.size + 1 ≠ h.objs.size + 2 by omega)]
    exact Heap.get?_push_at (by simp only [Heap.size_push]) rfl
theorem called0 (FB : ExcBaseFacts B newId initN bmB) (S : Sees B bm) (F : Ini B0 initId bm0) (T : OwnTail h bm0 bm) {mN : Str → Option Value} {rest : List Value} {Q : Value → Shared → Prop}
    (hC : h.get? C = some (excClassObj nm q C N bs bm hdct sn sub ab col dd k0 k1 k2 k3 k5 newId)) (hn : h.Ns N mN) (hni : mN "__init__" = none)
    (hq : ∀ h' e, Heap.MadeExcOf h h' e (.ref C) rest → Q (.ref e) ⟨h', g, d, t, os⟩) (hrest : rest.length ≤ sizeLine := by size_fits) :
    wpAny (model prog w) A (call (.ref C) rest) Q E ⟨h, g, d, t, os⟩ := by
  have f1 := tc_lookup
  have f2 := tc_bind (.ref C)
  have hT : (⟨h, g, d, t, os⟩ : Shared).TypeIs (.ref C) "type" := ⟨_, hC, rfl⟩
  refine wpAny_call (codeAny_of_tree ?_)
  show wpAny _ _ (callAny (.ref C) _) _ _ _
  repeat (any_goals (first | assumption | with_reducible refine wpAny_loadPart_at hC ?_ | wp_step))
  refine ⟨rfl, ?_⟩
  refine codeAny_call_builtin_at (Code.quiet_builtin _ (by decide +kernel)) entry_typeCall (wpAny_check_type_call_sub hC (typed0 (hrest := hrest) FB S F T hC hn hni fun h' e hm => ?_))
  exact hq h' e hm
end
end SKx
end PySem
namespace L2
open PySem PySem.Spec PyProof.Rows PySem.SLx PySem.SKx
theorem pe_exc0 {X : Cx} {C : Addr} {bmB bm0 : List Value} {B B0 newId initId initN : String} {x : Str} {p pos : Pos} (FB : ExcBaseFacts B newId initN bmB) (SV : Sees B bm0) (F : Ini B0 initId bm0) (q : PySem.W.excIn X.K C bm0 newId = true) (gC : X.mg x = some (.ref C)) (kC : PySem.W.keepIn X.K (.ref C) = true) (hg : Gl X x) (hdb : (x == ("__debug__" : Str)) = false := by decide) :
    PE X (.Call (.Name x p) [] [] pos) (fun σ H Q => ∀ a, H a = none → Q (.ref a) (upd H a (ExO (.ref C) a))) := by
  refine ⟨fun pins s σ H Q I h => ?_⟩
  refine wpAny_Call_Name_kw (ld_glob I hg gC ?_ hdb)
  refine PySem.W.callWith_K0 I.kIn kC ?_
  obtain ⟨bm, N, nm, qn, bs, hdct, sn, sub, ab, col, dd, k0, k1, k2, k3, k5, mN, hC, hN, hni, T⟩ := exc_obj I.kIn q
  refine called0 FB ⟨T.hasType SV.b, T.hasType SV.a, T.hasType SV.n⟩ F T hC hN hni (fun h' a hm => ?_) (Nat.zero_le _)
  have hn : H a = none := I.hok.gone hm.new
  obtain ⟨t, ht, _, _⟩ := hm.there
  exact ⟨.ref a, upd H a (ExO (.ref C) a), I.laidN hm.keeps hm.new hn (exO_ok ht ⟨rfl, rfl⟩ rfl rfl rfl (show 4 < 6 by decide)), rfl, h a hn⟩
theorem pe_exc1K {X : Cx} {C : Addr} {bmB bm0 : List Value} {B B0 newId initId initN : String} {x : Str} {e : Expr} {ta : TE} {p pos : Pos} (FB : ExcBaseFacts B newId initN bmB) (SV : Sees B bm0) (F : Ini B0 initId bm0) (q : PySem.W.excIn X.K C bm0 newId = true) (gC : X.mg x = some (.ref C)) (kC : PySem.W.keepIn X.K (.ref C) = true) (hg : Gl X x)
    (he : PE X e ta) (hs : starEach [e] X.env = (false, eval e X.env) :: starEach [] X.env := by rfl) (hdb : (x == ("__debug__" : Str)) = false := by decide) :
    PE X (.Call (.Name x p) [e] [] pos) (fun σ H Q => ta σ H fun _ H1 => ∀ a, H1 a = none → Q (.ref a) (upd H1 a (ExO (.ref C) a))) := by
  refine ⟨fun pins s σ H Q I h => ?_⟩
  refine wpAny_Call_Name_kw (ld_glob I hg gC ?_ hdb)
  refine PySem.W.callWith_K (h₀ := X.base) I.ok.mod.kin kC ?_ hs (by rfl)
  rw [hs]
  show wpAny _ _ (spliced ((false, eval e X.env) :: backTo pos (starEach [] X.env))) _ _ s
  refine Calls.spliced_cons (thn (he.run pins s σ H _ I h) fun u s1 ⟨v, H1, I1, r1, q1⟩ => ?_)
  refine Calls.spliced_nil ⟨I1.kIn, ?_⟩
  show wpAny _ _ (call (.ref C) [u]) _ _ _
  obtain ⟨bm, N, nm, qn, bs, hdct, sn, sub, ab, col, dd, k0, k1, k2, k3, k5, mN, hC, hN, hni, T⟩ := exc_obj I1.kIn q
  refine called0 FB ⟨T.hasType SV.b, T.hasType SV.a, T.hasType SV.n⟩ F T hC hN hni (fun h' a hm => ?_) (by show 1 ≤ sizeLine; rw [sizeLine_eq]; omega)
  have hn : H1 a = none := I1.hok.gone hm.new
  obtain ⟨t, ht, _, _⟩ := hm.there
  exact ⟨.ref a, upd H1 a (ExO (.ref C) a), I1.laidN hm.keeps hm.new hn (exO_ok ht ⟨rfl, rfl⟩ rfl rfl rfl (show 4 < 6 by decide)), rfl, q1 a hn⟩
end L2
namespace Dl
open PySem PySem.Spec PyProof.Rows L2 PySem.SLx
/-- a class of exceptions without own __init__, whose instances may be held -/
structure XClsN (K : PySem.W.Frag) (mg : Str → Option Value) (tlB : List Value) (newId initId B : String) (x : Str) (C : Addr) : Prop where
  FB : ∃ Bn initN tlN, ExcBaseFacts Bn newId initN tlN ∧ PySem.SKx.Sees Bn tlB
  F : PySem.SKx.Ini B initId tlB
  mgC : mg x = some (.ref C)
  ei : PySem.W.excIn K C tlB newId = true
  kp : PySem.W.keepIn K (.ref C) = true
section
variable {X : Cx} {σ : L2.St} {H : Hp} {e : Expr} {x : Str} {p1 pos : Pos} {C : Addr} {tl : List Value} {newId initId B : String} {Q : VK}
theorem re_exc0 (Y : XClsN X.K X.mg tl newId initId B x C) (q : ∀ a, H a = none → Q (.ref a) (upd H a (ExO (.ref C) a))) (hg : Gl X x := by rfl) (hdb : (x == ("__debug__" : Str)) = false := by decide) : RE X (.Call (.Name x p1) [] [] pos) σ H Q :=
  let ⟨_, _, _, FB, SV⟩ := Y.FB
  ⟨_, pe_exc0 FB SV Y.F Y.ei Y.mgC Y.kp hg hdb, q⟩
theorem re_exc1 (Y : XClsN X.K X.mg tl newId initId B x C) (h : RE X e σ H fun v H1 => ∀ a, H1 a = none → Q (.ref a) (upd H1 a (ExO (.ref C) a))) (hg : Gl X x := by rfl) (hs : starEach [e] X.env = (false, eval e X.env) :: starEach [] X.env := by rfl) (hdb : (x == ("__debug__" : Str)) = false := by decide) : RE X (.Call (.Name x p1) [e] [] pos) σ H Q :=
  let ⟨_, _, _, FB, SV⟩ := Y.FB
  ⟨_, pe_exc1K FB SV Y.F Y.ei Y.mgC Y.kp hg re_ hs hdb, h⟩
end
end Dl

set_option Elab.async false
set_option linter.all false
set_option maxRecDepth 100000
set_option maxHeartbeats 4000000
/-! repr of own exceptions with a whole number as their one argument, and of lists, tuples and dicts that hold them -/
namespace PySem
open Sem (wp)
open Builtin Builtin.Str Builtin.BaseException Builtin.Exceptions
open PySem.W (Looks Frag findIn subIn looks_findIn looks_subIn clsIn looks_clsIn)
section
variable {prog : Program} {w : World} {M : Model} {A : Around} {E : Value → Shared → Prop} {s : Shared} {K : Frag} {C e t0 : Addr} {cd : ClassData}
theorem callSpecialBy_C {last : Value → List Value → Sem Value} {v tp : Value} {name : Str} {i : String} {Q : Option Value → Shared → Prop} (hT : Looks M s.heap (typeOf v) tp) (hf : Looks M s.heap (typeLookup tp name) (some (.builtin i))) (hb : bindSpecial (.builtin i) v = pure (.builtin i, [v]))
    (hc : wpAny M A (last (.builtin i) [v]) (fun r => Q (some r)) E s) : wpAny M A (callSpecialIfBoundBy? last v name) Q E s := by
  simp only [callSpecialIfBoundBy?, bindSpecialIfBound?]
  refine wpAny_holding (wpAny_bind (wpAny_bind ?_))
  unfold specialOf
  refine wpAny_bind (hT.here (hf.here ?_))
  simp only [hb]
  refine wpAny_bind (wpAny_askSetting (wpAny_ite ?_))
  have fin : wpAny M A (last (.builtin i) [v] >>= fun v => pure (some v)) Q E s :=
    wpAny_bind (wpAny_mono hc (fun v s' h' => wpAny_pure h') fun _ _ h' => h')
  split
  · exact wpAny_bind (wpAny_pure (wpAny_pure fin))
  · exact wpAny_tryCatch (wpAny_bind (wpAny_pure (wpAny_pure fin)))
theorem name_C {Q : String → Shared → Prop} (x : ExcC K C e t0 s.heap) (cc : clsIn K C = some cd) (hq : Q cd.name.toString s) : wpAny M A (typeNameOfWhole (.ref e)) Q E s := by
  unfold typeNameOfWhole shownTypeOf
  refine wpAny_bind (wpAny_bind (x.LT.here ?_))
  rw [if_neg (by intro z; cases z)]
  refine wpAny_pure ?_
  show wpAny M A (do return (← classData C).name.toString) Q E s
  exact wpAny_bind ((looks_clsIn x.1 cc).here (wpAny_pure hq))
theorem pyRepr_intS {n : Int} {tk : Tok} {Q : Str → Shared → Prop} (hn : n.natAbs.log2 < 1920) (hl : (Str.ofString (toString n)).length ≤ sizeLine) (hq : ∀ tk', Q (Str.ofString (toString n)) { s with toks := tk' }) : wpAny (model prog w) A (pyRepr (.int n tk)) Q E s := by
  rw [← pyReprUnder_leaf (b := 0) (v := .int n tk) (Nat.zero_le _) (fun _ e => nomatch e)]
  exact ReprIs.int tk hn 0 (by rw [Nat.zero_add]; exact hl) A E s Q hq
/-- the text of such an exception -/
def exTxt (cd : ClassData) (n : Int) : Str := Str.ofString ((cd.name.toString.cutAt '.').getLastD "") ++ Str.ofString "(" ++ Str.ofString (toString n) ++ Str.ofString ")"
theorem bexcReprAt_C_int (b : Nat) {n : Int} {tk : Tok} {Q : Fin → Shared → Prop} (x : ExcC K C e t0 s.heap) (cc : clsIn K C = some cd) (ht : s.heap.TupAt t0 [.int n tk]) (hn : n.natAbs.log2 < 1920)
    (hq : ∀ u tk', Q (.done (.ret (.str (exTxt cd n) u))) { s with toks := tk' }) (hsz : b + (exTxt cd n).length ≤ sizeLine) :
    wpAny (model prog w) A (Builtin.bexcReprAt b ⟨[.ref e], []⟩) Q E s := by
  have e1 : b + (Str.ofString ((cd.name.toString.cutAt '.').getLastD "") ++ Str.ofString "(" ++ Str.ofString (toString n) ++ Str.ofString ")").length ≤ sizeLine := hsz
  have hsz2 : (Str.ofString ((cd.name.toString.cutAt '.').getLastD "") ++ Str.ofString "(" ++ Str.ofString (toString n) ++ Str.ofString ")").length ≤ sizeLine := Nat.le_trans (Nat.le_add_left _ b) e1
  have eP : (Str.ofString "(").length = 1 := by rw [ofString_length]; rfl
  rw [strLen_append, strLen_append, strLen_append, eP] at e1
  have hr : (Str.ofString (toString n)).length ≤ sizeLine := by omega
  have hpile : b + ((Str.ofString ((cd.name.toString.cutAt '.').getLastD "")).length + 1) ≤ sizeLine := by omega
  unfold Builtin.bexcReprAt
  repeat (first | with_reducible refine name_C x cc ?_ | with_reducible refine bexcArgs_C x ht ?_ | rw [pyReprUnder_leaf (v := .int n tk) hpile (by intro a; nofun)] | with_reducible refine pyRepr_intS hn hr (fun tk' => ?_) | wp_step)
  exact hq _ _
theorem pyReprUnder_C_int (b : Nat) {n : Int} {tk : Tok} {Q : Str → Shared → Prop} (hu : A.units < cLine) (x : ExcC K C e t0 s.heap) (cc : clsIn K C = some cd) (ht : s.heap.TupAt t0 [.int n tk]) (hn : n.natAbs.log2 < 1920)
    (hs : findIn K (.ref C) "__repr__" = some (some (.builtin "BaseException.__repr__"))) (hB : subIn K (.ref C) (.type "BaseException") = some true)
    (hq : ∀ tk', Q (exTxt cd n) { s with toks := tk' }) (hsz : b + (exTxt cd n).length ≤ sizeLine) : wpAny (model prog w) A (pyReprUnder b (.ref e)) Q E s := by
  have hf : Looks (model prog w) s.heap (typeLookup (.ref C) "__repr__") (some (.builtin "BaseException.__repr__")) := looks_findIn x.1 hs
  refine wpAny_pyReprUnder_ref (by omega) ?_
  unfold pyReprObjUnder pyReprObjBy
  refine wpAny_bind (wpAny_cRoomFor hu ?_)
  refine wpAny_bind ?_
  unfold specialOf
  refine wpAny_bind (x.LT.here (hf.here ?_))
  refine wpAny_bind (callSpecialBy_C x.LT hf (F.excStr_Exception.repr.bind _) ?_)
  show wpAny _ _ (call (.builtin "BaseException.__repr__.under") [.ref e, rawInt b]) _ _ _
  refine wpAny_call (codeAny_call_builtin F.plain_bexc_repr_under F.entry_bexc_repr_under ?_)
  rw [F.check_bexc_repr_under]
  refine wpAny_pure ?_
  show wpAny _ _ (reprTwin "BaseException.__repr__" bexcReprAt ⟨[.ref e, rawInt b], []⟩) _ _ _
  rw [reprTwin_eq]
  refine wpAny_bind (@PySem.W.check_slot (model prog w) _ _ s "BaseException.__repr__" "BaseException" "__repr__" (.ref e) [] [] _ (by decide +kernel) (by decide +kernel) (x.LI hB) (F.args_bexc_repr _) ?_)
  refine bexcReprAt_C_int b x cc ht hn (fun u tk' => ?_) hsz
  exact wpAny_bind (wpAny_isInstance (T := "str") (b := true) rfl isSubtype_str_str (wpAny_pure ⟨_, _, rfl, hq _⟩))
theorem ReprK.excInt {as : List Addr} {h₀ : Heap} {n : Int} {tk : Tok} (x : ExcC K C e t0 h₀) (cc : clsIn K C = some cd) (ht : h₀.TupAt t0 [.int n tk]) (hn : n.natAbs.log2 < 1920)
    (hs : findIn K (.ref C) "__repr__" = some (some (.builtin "BaseException.__repr__"))) (hB : subIn K (.ref C) (.type "BaseException") = some true) : ReprK prog w as h₀ 0 (.ref e) (exTxt cd n) := by
  intro base hb A g E s Q hg hcl hu hk0 hQ
  obtain ⟨X, o, vs, h1, h2⟩ := x
  obtain ⟨ot, k, h3, h4⟩ := ht
  exact pyReprUnder_C_int base hu ⟨fun b o e => hk0 _ _ (X b o e), o, vs, hk0 _ _ h1, h2⟩ cc ⟨ot, k, hk0 _ _ h3, h4⟩ hn hs hB (fun tk' => hQ s.heap tk' fun _ _ e => e) hb
end
end PySem

set_option Elab.async false
set_option linter.all false
set_option maxRecDepth 100000
set_option maxHeartbeats 8000000
namespace Zn
open PySem PySem.Spec PyProof.Rows L2 Dl
def top (i : Nat) : Stmt := PySem.Challenge.pw_everyzone_k01_exceptions.main.body.getD i (.Pass ⟨0, 0, 0, 0⟩)
/-- built-in names that the module leaves alone -/
structure Nm (mg : Str → Option Value) : Prop where
  isi : mg "isinstance" = none
  int : mg "int" = none
  bool : mg "bool" = none
  str : mg "str" = none
  len : mg "len" = none
  min : mg "min" = none
  max : mg "max" = none
  rep : mg "repr" = none
  rng : mg "range" = none
  all : mg "all" = none
  lst : mg "list" = none
  tup : mg "tuple" = none
  dct : mg "dict" = none
  enu : mg "enumerate" = none
  zip : mg "zip" = none
  exc : mg "Exception" = none
  val : mg "ValueError" = none
  key : mg "KeyError" = none
  lkp : mg "LookupError" = none
/-! from N1 -/
abbrev sXInt : Stmt := inClass (top 5) 0
abbrev sXTime : Stmt := inClass (top 7) 0
abbrev sWhole : Stmt := top 36
abbrev sIsInt : Stmt := top 37
abbrev sIsTime : Stmt := top 38
abbrev sNeed : Stmt := top 39
abbrev sNeedT : Stmt := top 40
abbrev sDayOf : Stmt := top 41
abbrev sTimeText : Stmt := top 42
/-- a def of the module -/
structure Df (K : PySem.W.Frag) (mg : Str → Option Value) (x : Str) (st : Stmt) (ps : List Str) (f : Addr) (fd : FuncData) : Prop where
  F : Fun K x x st f fd
  g : mg x = some (.ref f)
  b : Binds K fd ps []
/-- a value of one of these types -/
def tys : List String := ["NoneType", "bool", "int", "str", "list", "tuple", "dict"]
structure Th (K : PySem.W.Frag) (H : Hp) (v : V) (T : String) : Prop where
  ty : ∀ H1, Same H H1 → TyX K H1 v (.type T)
  t : T ∈ tys
  i : ∀ n, v = .int n → T = "int"
  j : T = "int" → ∃ n, v = .int n
  k : ∀ x, v = .str x → T = "str"
  l : T = "str" → ∃ x, v = .str x
theorem Th.up {K : PySem.W.Frag} {H H1 : Hp} {v : V} {T : String} (h : Th K H v T) (s : Same H H1) : Th K H1 v T := ⟨fun H2 s2 => h.ty H2 (s.trans s2), h.t, h.i, h.j, h.k, h.l⟩
theorem th_int {K : PySem.W.Frag} {H : Hp} {n : Int} : Th K H (.int n) "int" := ⟨fun _ _ => .base (.int n), by decide, fun _ _ => rfl, fun _ => ⟨n, rfl⟩, fun _ z => V.noConfusion z, fun z => absurd z (by decide)⟩
theorem th_str {K : PySem.W.Frag} {H : Hp} {x : Str} : Th K H (.str x) "str" := ⟨fun _ _ => .base (.str x), by decide, fun _ z => V.noConfusion z, fun z => absurd z (by decide), fun _ _ => rfl, fun _ => ⟨x, rfl⟩⟩
def intT (T : String) : Bool := decide (T = "int") || decide (T = "bool")
theorem kt_int {T : String} (h : T ∈ tys) : kitB T "int" = some (intT T) := by
  simp only [tys, List.mem_cons, List.not_mem_nil, or_false] at h
  rcases h with e | e | e | e | e | e | e <;> rw [e] <;> decide +kernel
theorem kt_bool {T : String} (h : T ∈ tys) : kitB T "bool" = some (decide (T = "bool")) := by
  simp only [tys, List.mem_cons, List.not_mem_nil, or_false] at h
  rcases h with e | e | e | e | e | e | e <;> rw [e] <;> decide +kernel
theorem whole_T (T : String) : (intT T && !decide (T = "bool")) = decide (T = "int") := by
  unfold intT
  by_cases a : T = "bool"
  · subst a; decide
  · rw [decide_eq_false a]; simp
section
variable {X : Cx} {M : List Addr} {σ : L2.St} {H : Hp} {a : Expr} {v : V} {pos p1 p2 : Pos}
/-- isinstance(a, T), a of the type T' -/
theorem xd_isTy {T T' : String} {r : Bool} {nm : Str} (hk : kitB T' T = some r) (hm : X.mg "isinstance" = none) (hmT : X.mg nm = none) (hvT : bootBuiltins nm = some (.type T)) (ha : XV X σ H a v) (hty : ∀ H1, Same H H1 → TyX X.K H1 v (.type T')) (hg : Gl X "isinstance" := by rfl) (hgT : Gl X nm := by rfl) (hnT : nm ≠ "__name__" := by decide) (hdT : (nm == ("__debug__" : Str)) = false := by decide)
    (he : starEach [a, .Name nm p2] X.env = (false, eval a X.env) :: starEach [.Name nm p2] X.env := by rfl) (he2 : starEach [.Name nm p2] X.env = (false, eval (.Name nm p2) X.env) :: starEach [] X.env := by rfl) (hpl : (backTo pos (starEach [.Name nm p2] X.env)).any (·.1) = false := by rfl) :
    XD X M σ H (.Call (.Name "isinstance" p1) [a, .Name nm p2] [] pos) (.bool r) := fun H1 s Q q =>
  re_B call_isi (ra_cons (ha H1 s _ fun H2 s2 => ra_1 (xv_bltn (v := .ty T) hmT hvT rfl hgT hnT hdT H2 (Same.refl _) _ fun H3 s3 =>
    ⟨v, .ty T, _, _, r, rfl, .ty T, hty H3 ((s.trans s2).trans s3), kit_ty hk, q _ H3 (s2.trans s3) (.bl _)⟩) he2) he) hm (by decide +kernel) hg (by decide) (by decide) he hpl
end
section
variable {P : Program} {w : World} {K : PySem.W.Frag} {mg : Str → Option Value} {base : Heap}
def spWh (K : PySem.W.Frag) : Sp := fun vs H Q _ => ∃ (v : V) (T : String), vs = [v] ∧ Th K H v T ∧ ∀ H1, Same H H1 → Q (.bl (decide (T = "int"))) H1
theorem scWhole : FnScope ["value"] ["value"] (defScope sWhole) := ⟨rfl, rfl, rfl, by decide +kernel, rfl, by decide +kernel, by decide +kernel⟩
theorem ok_whole {f : Addr} {fd : FuncData} (T : Nm mg) (F : Df K mg "is_whole" sWhole ["value"] f fd) : FnOk P w K mg base CX0 1 f fd ["value"] (spWh K) := by
  refine F.F.ok scWhole (fun vs H Q E h => ?_) (fun cdv A outer s H vs Q E hr h => ?_)
  · obtain ⟨v, T', rfl, _⟩ := h; rfl
  · obtain ⟨v, T', rfl, ht, q⟩ := h
    refine rb_ret (M := []) (xd_and2 (xd_isTy (kt_int ht.t) T.isi T.int (by decide +kernel) (xv_name 0 rfl) ht.ty) fun _ => xd_not (xd_isTy (kt_bool ht.t) T.isi T.bool (by decide +kernel) (xv_name 0 rfl) ht.ty)) fun v1 H1 s1 hv1 => ?_
    rw [dp_bl hv1, whole_T]
    exact q H1 s1
/-- the class's __init__ -/
theorem scXI : FnScope ["self", "value"] ["self", "value"] (defScope sXInt) := ⟨rfl, rfl, rfl, by decide +kernel, rfl, by decide +kernel, by decide +kernel⟩
theorem ok_xint {f C : Addr} {fd : FuncData} (T : OexC K C) (no : PySem.W.findIn K (.ref C) "value" = some none) (F : Fun K "__init__" "InvalidInteger.__init__" sXInt f fd) : FnOk P w K mg base CX0 1 f fd ["self", "value"] (spXI C "value") := by
  refine F.ok scXI (fun vs H Q E h => ?_) (fun cdv A outer s H vs Q E hr h => ?_)
  · obtain ⟨a, v, rfl, _⟩ := h; rfl
  · obtain ⟨a, v, rfl, ha, q⟩ := h
    exact rb_ost T no (xv_name 1 rfl) (xv_name 0 rfl) ha fun H2 s2 dx h1 h2 => rb_nil (q H2 s2 dx h1 h2)
end
/-! from N2 -/
section
variable {P : Program} {w : World} {K : PySem.W.Frag} {mg : Str → Option Value} {base : Heap} {CI CT CX' : Addr}
/-- the exception of the class C with the very value v comes out -/
def Out (E : XK) (C : Addr) (v : V) (H : Hp) : Prop := ∀ d H1, Same H H1 → H1 d = some (.xd [(("value" : Str), v)]) → E (.ref C) (some d) H1
theorem Out.up {E : XK} {C : Addr} {v : V} {H H1 : Hp} (h : Out E C v H) (s : Same H H1) : Out E C v H1 := fun d H2 s2 e => h d H2 (s.trans s2) e
def spNeedI (K : PySem.W.Frag) (C : Addr) : Sp := fun vs H Q E => ∃ (v : V) (T : String), vs = [v] ∧ Th K H v T ∧ (T = "int" → ∀ H1, Same H H1 → Q .non H1) ∧ (T ≠ "int" → Out E C v H)
theorem scNeed : FnScope ["value"] ["value"] (defScope sNeed) := ⟨rfl, rfl, rfl, by decide +kernel, rfl, by decide +kernel, by decide +kernel⟩
theorem ok_needI {f fW fI : Addr} {fd fdW fdI : FuncData} (Y : XCls P w K mg base "InvalidInteger" "value" CI fI fdI) (GW : FnOk P w K mg base CX0 1 fW fdW ["value"] (spWh K)) (FW : Df K mg "is_whole" sWhole ["value"] fW fdW) (F : Df K mg "need_integer" sNeed ["value"] f fd) : FnOk P w K mg base (L2.CX P w) 3 f fd ["value"] (spNeedI K CI) := by
  refine F.F.okX scNeed (fun vs H Q E h => ?_) (fun cdv A outer s H vs Q E hr h => ?_)
  · obtain ⟨v, T, rfl, _⟩ := h; rfl
  · obtain ⟨v, T, rfl, ht, q1, q2⟩ := h
    have hr1 := hr.mono (show 1 ≤ 2 by decide)
    have tk : Takes (cxOf (L2.CX P w) P w K mg base ["value"] "need_integer" (defScope sNeed) f cdv A outer s H E) (fun cls d _ H => E cls d H) := takes_of rfl rfl rfl rfl
    show RB (cxOf (L2.CX P w) P w K mg base ["value"] "need_integer" (defScope sNeed) f cdv A outer s H E) (defBody sNeed) _ _ H
    refine rb_ifR ⟨_, pt_not rt_, _, pt_val re_ (by intro _; rfl), re_call GW hr1 FW.g FW.F.kp FW.b (ra_1 (XV.go (xv_name 0 rfl) fun H1 s1 => ⟨v, T, rfl, ht.up s1, fun H2 s2 => ⟨_, rfl, ?_⟩⟩))⟩
    by_cases c : T = "int"
    · rw [decide_eq_true c]
      exact iteF (rb_nil (rb_nil (q1 c H2 (s1.trans s2))))
    · rw [decide_eq_false c]
      exact iteT (rb_raise Y hr tk (XV.go (xv_name 0 rfl) fun H3 s3 d H4 s4 e => q2 c d H4 (((s1.trans s2).trans s3).trans s4) e))
/-- day_of, time_of: f of the number, or the exception -/
def spOf (K : PySem.W.Frag) (C : Addr) (g : Int → Int) : Sp := fun vs H Q E => ∃ (v : V) (T : String), vs = [v] ∧ Th K H v T ∧ (T = "int" → ∃ n : Int, v = .int n ∧ ∀ H1, Same H H1 → Q (.int (g n)) H1) ∧ (T ≠ "int" → Out E C v H)
theorem scDayOf : FnScope ["reading"] ["reading"] (defScope sDayOf) := ⟨rfl, rfl, rfl, by decide +kernel, rfl, by decide +kernel, by decide +kernel⟩
theorem cdivN {m n : Int} (h : 0 < n) (h2 : n.natAbs < 2 ^ 200) : CDivW m n := wide_div h h2 (by decide) (by decide)
theorem ok_dayOf {f fN : Addr} {fd fdN : FuncData} (hD : ∃ t, mg "DAY_LENGTH" = some (.int 1440 t)) (GN : FnOk P w K mg base (L2.CX P w) 3 fN fdN ["value"] (spNeedI K CI)) (FN : Df K mg "need_integer" sNeed ["value"] fN fdN) (F : Df K mg "day_of" sDayOf ["reading"] f fd) : FnOk P w K mg base (L2.CX P w) 4 f fd ["reading"] (spOf K CI fun n => n / 1440) := by
  obtain ⟨tk0, hD⟩ := hD
  refine F.F.okX scDayOf (fun vs H Q E h => ?_) (fun cdv A outer s H vs Q E hr h => ?_)
  · obtain ⟨v, T, rfl, _⟩ := h; rfl
  · obtain ⟨v, T, rfl, ht, q1, q2⟩ := h
    have tk : Takes (cxOf (L2.CX P w) P w K mg base ["reading"] "day_of" (defScope sDayOf) f cdv A outer s H E) (fun cls d _ H => E cls d H) := takes_of rfl rfl rfl rfl
    show RB (cxOf (L2.CX P w) P w K mg base ["reading"] "day_of" (defScope sDayOf) f cdv A outer s H E) (defBody sDayOf) _ _ H
    refine rb_exprR (re_callX GN hr tk FN.g FN.F.kp FN.b (ra_1 (XV.go (xv_name 0 rfl) fun H1 s1 => ⟨v, T, rfl, ht.up s1, fun c H2 s2 => ?_, fun c => (q2 c).up s1⟩)))
    obtain ⟨n, rfl, q⟩ := q1 c
    exact rb_ret (M := []) (xd_bin (M := []) op_fdivW (xv_name 0 rfl).int (xv_glob (v := .int 1440) hD ⟨tk0, rfl⟩).int fun H3 v w s3 hv hw Q q => ⟨n, 1440, dp_int hv, dp_int hw, cdivN (by decide) (by decide), q _ H3 (Same.refl _) (.int _)⟩) fun v3 H3 s3 hv3 => by
      rw [dp_int hv3]; exact q H3 ((s1.trans s2).trans s3)
/-- l <= x <= h, as a value -/
theorem xd_chainV {X : Cx} {M : List Addr} {σ : L2.St} {H : Hp} {a b c : Expr} {pos : Pos} {op op' : CmpOp} {g g' : Int → Int → Bool} {l m n : Int} (ho : OpR X (compareOp op) (rI0 fun i j => .bl (g i j))) (ho' : OpR X (compareOp op') (rI0 fun i j => .bl (g' i j))) (ha : XD X M σ H a (.int l)) (hb : XD X M σ H b (.int m)) (hc : XD X M σ H c (.int n))
    (hm : lastMarks [op, op'] [b, c] = false := by with_unfolding_all rfl) : XD X M σ H (.Compare a [op, op'] [b, c] pos) (.bool (g l m && g' m n)) := fun H1 s Q q =>
  ⟨_, pe_chain ho ho' re_ re_ re_ hm, ha H1 s _ fun v H2 s2 hv => hb H2 (s.trans s2) _ fun u H3 s3 hu => ⟨l, m, dp_int hv, dp_int hu, g l m, rfl, by
    cases e : g l m with
    | false =>
      rw [e] at q
      exact iteF (q _ H3 (s2.trans s3) (.bl _))
    | true =>
      rw [e] at q
      exact iteT (hc H3 ((s.trans s2).trans s3) _ fun y H4 s4 hy => ⟨m, n, dp_int hu, dp_int hy, q _ H4 ((s2.trans s3).trans s4) (.bl _)⟩)⟩⟩
def spIsInt (K : PySem.W.Frag) : Sp := fun vs H Q _ => ∃ (v : V) (T : String) (lo hi : Int), vs = [v, .int lo, .int hi] ∧ Th K H v T ∧ (T = "int" → ∃ n : Int, v = .int n ∧ ∀ H1, Same H H1 → Q (.bl (decide (lo ≤ n) && decide (n ≤ hi))) H1) ∧ (T ≠ "int" → ∀ H1, Same H H1 → Q (.bl false) H1)
theorem scIsInt : FnScope ["value", "low", "high"] ["value", "low", "high"] (defScope sIsInt) := ⟨rfl, rfl, rfl, by decide +kernel, rfl, by decide +kernel, by decide +kernel⟩
theorem xd_whole {X : Cx} {M : List Addr} {σ : L2.St} {H : Hp} {e : Expr} {pos p1 : Pos} {v : V} {T : String} {f : Addr} {fd : FuncData} (G : FnOk X.prog X.w X.K X.mg X.base CX0 1 f fd ["value"] (spWh X.K)) (hr : Room 1 X.A) (FF : Df X.K X.mg "is_whole" sWhole ["value"] f fd) (ho : XV X σ H e v) (ht : Th X.K H v T) (hg : Gl X "is_whole" := by rfl)
    (he : starEach [e] X.env = (false, eval e X.env) :: starEach [] X.env := by rfl) (hpl : (backTo pos (starEach [] X.env)).any (·.1) = false := by rfl) : XD X M σ H (.Call (.Name "is_whole" p1) [e] [] pos) (.bool (decide (T = "int"))) := fun H1 s Q q =>
  re_call G hr FF.g FF.F.kp FF.b (ra_1 (ho H1 s _ fun H2 s2 => ⟨v, T, rfl, ht.up (s.trans s2), fun H3 s3 => q _ H3 (s2.trans s3) (.bl _)⟩) he) hg (by decide) he hpl
theorem ok_isInt {f fW : Addr} {fd fdW : FuncData} (GW : FnOk P w K mg base CX0 1 fW fdW ["value"] (spWh K)) (FW : Df K mg "is_whole" sWhole ["value"] fW fdW) (F : Df K mg "is_integer" sIsInt ["value", "low", "high"] f fd) : FnOk P w K mg base CX0 2 f fd ["value", "low", "high"] (spIsInt K) := by
  refine F.F.ok scIsInt (fun vs H Q E h => ?_) (fun cdv A outer s H vs Q E hr h => ?_)
  · obtain ⟨v, T, lo, hi, rfl, _⟩ := h; rfl
  · obtain ⟨v, T, lo, hi, rfl, ht, q1, q2⟩ := h
    by_cases c : T = "int"
    · obtain ⟨n, rfl, q⟩ := q1 c
      refine rb_ret (M := []) (xd_andT ((xd_whole GW hr FW (xv_name 0 rfl) ht).to (by rw [decide_eq_true c])) (xd_one (xd_chainV op_le op_le (xv_name 1 rfl).int (xv_name 0 rfl).int (xv_name 2 rfl).int))) fun v1 H1 s1 hv1 => ?_
      rw [dp_bl hv1]; exact q H1 s1
    · refine rb_ret (M := []) (xd_andF ((xd_whole GW hr FW (xv_name 0 rfl) ht).to (by rw [decide_eq_false c]))) fun v1 H1 s1 hv1 => ?_
      rw [dp_bl hv1]; exact q2 c H1 s1
def timeB (n : Int) : Bool := decide ((0 : Int) ≤ n) && decide (n ≤ 1440 - 1)
def spIsTime (K : PySem.W.Frag) : Sp := fun vs H Q _ => ∃ (v : V) (T : String), vs = [v] ∧ Th K H v T ∧ (T = "int" → ∃ n : Int, v = .int n ∧ ∀ H1, Same H H1 → Q (.bl (timeB n)) H1) ∧ (T ≠ "int" → ∀ H1, Same H H1 → Q (.bl false) H1)
theorem scIsTime : FnScope ["value"] ["value"] (defScope sIsTime) := ⟨rfl, rfl, rfl, by decide +kernel, rfl, by decide +kernel, by decide +kernel⟩
theorem ok_isTime {f fI : Addr} {fd fdI : FuncData} (hD : ∃ t, mg "DAY_LENGTH" = some (.int 1440 t)) (GI : FnOk P w K mg base CX0 2 fI fdI ["value", "low", "high"] (spIsInt K)) (FI : Df K mg "is_integer" sIsInt ["value", "low", "high"] fI fdI) (F : Df K mg "is_time" sIsTime ["value"] f fd) : FnOk P w K mg base CX0 3 f fd ["value"] (spIsTime K) := by
  obtain ⟨tk, hD⟩ := hD
  refine F.F.ok scIsTime (fun vs H Q E h => ?_) (fun cdv A outer s H vs Q E hr h => ?_)
  · obtain ⟨v, T, rfl, _⟩ := h; rfl
  · obtain ⟨v, T, rfl, ht, q1, q2⟩ := h
    refine rb_retR (re_call GI hr FI.g FI.F.kp FI.b (ra_cons (XV.go (xv_name 0 rfl) fun H1 s1 => ra_cons (XV.go xv_int fun H2 s2 => ra_1 (XD.go (M := []) (xd_sub (xv_glob (v := .int 1440) hD ⟨tk, rfl⟩).int xd_int) fun v3 H3 s3 hv3 => ?_)))))
    rw [dp_int hv3]
    have s13 := (s1.trans s2).trans s3
    exact ⟨v, T, 0, 1440 - 1, rfl, ht.up s13, fun c => by
      obtain ⟨n, rfl, q⟩ := q1 c
      exact ⟨n, rfl, fun H4 s4 => q H4 (s13.trans s4)⟩, fun c H4 s4 => q2 c H4 (s13.trans s4)⟩
def okTime (v : V) : Prop := ∃ n : Int, v = .int n ∧ 0 ≤ n ∧ n ≤ 1439
def spNeedT (K : PySem.W.Frag) (C : Addr) : Sp := fun vs H Q E => ∃ (v : V) (T : String), vs = [v] ∧ Th K H v T ∧ (T = "int" → ∃ n : Int, v = .int n) ∧ (okTime v → ∀ H1, Same H H1 → Q .non H1) ∧ (¬ okTime v → Out E C v H)
theorem scNeedT : FnScope ["value"] ["value"] (defScope sNeedT) := ⟨rfl, rfl, rfl, by decide +kernel, rfl, by decide +kernel, by decide +kernel⟩
theorem time_ok {n : Int} : timeB n = true ↔ okTime (.int n) := by
  unfold timeB okTime
  rw [Bool.and_eq_true, decide_eq_true_eq, decide_eq_true_eq]
  constructor
  · rintro ⟨a, b⟩; exact ⟨n, rfl, a, by omega⟩
  · rintro ⟨m, e, a, b⟩
    cases e
    exact ⟨a, by omega⟩
end
/-! from N3 -/
theorem two_len : ∀ i : Fin 60, (two (i.val : Int)).length = 2 := by decide +kernel
theorem two_len' {i : Int} (h0 : 0 ≤ i) (h1 : i < 60) : (two i).length = 2 := by
  have e := two_len ⟨i.toNat, by omega⟩
  have e2 : ((i.toNat : Nat) : Int) = i := Int.toNat_of_nonneg h0
  rw [← e2]
  exact e
def ttext (t : Int) : Str := ((Str.empty ++ two (t / 60)) ++ (":" : Str)) ++ two (t % 60)
section
variable {P : Program} {w : World} {K : PySem.W.Frag} {mg : Str → Option Value} {base : Heap} {CI CT : Addr}
theorem ok_needT {f fI fX : Addr} {fd fdI fdX : FuncData} (Y : XCls P w K mg base "InvalidTime" "value" CT fX fdX) (GI : FnOk P w K mg base CX0 3 fI fdI ["value"] (spIsTime K)) (FI : Df K mg "is_time" sIsTime ["value"] fI fdI) (F : Df K mg "need_time" sNeedT ["value"] f fd) : FnOk P w K mg base (L2.CX P w) 4 f fd ["value"] (spNeedT K CT) := by
  refine F.F.okX scNeedT (fun vs H Q E h => ?_) (fun cdv A outer s H vs Q E hr h => ?_)
  · obtain ⟨v, T, rfl, _⟩ := h; rfl
  · obtain ⟨v, T, rfl, ht, qi, q1, q2⟩ := h
    have hr2 := hr.mono (show 2 ≤ 3 by decide)
    have tk : Takes (cxOf (L2.CX P w) P w K mg base ["value"] "need_time" (defScope sNeedT) f cdv A outer s H E) (fun cls d _ H => E cls d H) := takes_of rfl rfl rfl rfl
    show RB (cxOf (L2.CX P w) P w K mg base ["value"] "need_time" (defScope sNeedT) f cdv A outer s H E) (defBody sNeedT) _ _ H
    refine rb_ifR ⟨_, pt_not rt_, _, pt_val re_ (by intro _; rfl), re_call GI hr FI.g FI.F.kp FI.b (ra_1 (XV.go (xv_name 0 rfl) fun H1 s1 => ⟨v, T, rfl, ht.up s1, fun c => ?_, fun c H2 s2 => ⟨false, rfl, iteT (rb_raise Y hr2 tk (XV.go (xv_name 0 rfl) fun H3 s3 d H4 s4 e => q2 ?_ d H4 (((s1.trans s2).trans s3).trans s4) e))⟩⟩))⟩
    · obtain ⟨n, rfl⟩ := qi c
      refine ⟨n, rfl, fun H2 s2 => ⟨_, rfl, ?_⟩⟩
      cases e : timeB n with
      | true => exact iteF (rb_nil (rb_nil (q1 (time_ok.mp e) H2 (s1.trans s2))))
      | false => exact iteT (rb_raise Y hr2 tk (XV.go (xv_name 0 rfl) fun H3 s3 d H4 s4 e2 => q2 (fun z => by rw [time_ok.mpr z] at e; cases e) d H4 (((s1.trans s2).trans s3).trans s4) e2))
    · rintro ⟨n, rfl, _, _⟩
      exact c (ht.i n rfl)
def spTText (K : PySem.W.Frag) (C : Addr) : Sp := fun vs H Q E => ∃ (v : V) (T : String), vs = [v] ∧ Th K H v T ∧ (∀ t : Int, v = .int t → 0 ≤ t → t ≤ 1439 → ∀ H1, Same H H1 → Q (.str (ttext t)) H1) ∧ (¬ okTime v → Out E C v H)
theorem scTText : FnScope ["time", "hours", "minutes"] ["time"] (defScope sTimeText) := ⟨rfl, rfl, rfl, by decide +kernel, rfl, by decide +kernel, by decide +kernel⟩
theorem ok_ttext {f fT : Addr} {fd fdT : FuncData} (hH : ∃ t, mg "HOUR_LENGTH" = some (.int 60 t)) (GT : FnOk P w K mg base (L2.CX P w) 4 fT fdT ["value"] (spNeedT K CT)) (FT : Df K mg "need_time" sNeedT ["value"] fT fdT)
    (F : Df K mg "time_text" sTimeText ["time"] f fd) : FnOk P w K mg base (L2.CX P w) 5 f fd ["time"] (spTText K CT) := by
  obtain ⟨tk0, hH⟩ := hH
  refine F.F.okX scTText (fun vs H Q E h => ?_) (fun cdv A outer s H vs Q E hr h => ?_)
  · obtain ⟨v, T, rfl, _⟩ := h; rfl
  · obtain ⟨v, T, rfl, ht, q1, q2⟩ := h
    have tk : Takes (cxOf (L2.CX P w) P w K mg base ["time", "hours", "minutes"] "time_text" (defScope sTimeText) f cdv A outer s H E) (fun cls d _ H => E cls d H) := takes_of rfl rfl rfl rfl
    show RB (cxOf (L2.CX P w) P w K mg base ["time", "hours", "minutes"] "time_text" (defScope sTimeText) f cdv A outer s H E) (defBody sTimeText) _ _ H
    refine rb_exprR (re_callX GT hr tk FT.g FT.F.kp FT.b (ra_1 (XV.go (xv_name 0 rfl) fun H1 s1 => ⟨v, T, rfl, ht.up s1, ht.j, fun c H2 s2 => ?_, fun c => (q2 c).up s1⟩)))
    obtain ⟨t, rfl, t0, t1⟩ := c
    refine rb_set 1 (M := []) (xd_bin (M := []) (d := .int (t / 60)) op_fdivW (xv_name 0 rfl).int (xv_glob (v := .int 60) hH ⟨tk0, rfl⟩).int fun H3 v w s3 hv hw Q q => ⟨t, 60, dp_int hv, dp_int hw, cdivN (by decide) (by decide), q _ H3 (Same.refl _) (.int _)⟩) (fun v3 H3 s3 hv3 => ?_) scTText.nd
    have e3 := dp_int hv3
    subst e3
    refine rb_set 2 (M := []) (xd_binI op_mod (xv_name 0 rfl).int (xv_glob (v := .int 60) hH ⟨tk0, rfl⟩).int (by decide)) (fun v4 H4 s4 hv4 => ?_) scTText.nd
    have e4 := dp_int hv4
    subst e4
    have a1 := two_len' (i := t / 60) (by omega) (by omega)
    have a2 := two_len' (i := t % 60) (by omega) (by omega)
    have l1 : (Str.empty ++ two (t / 60)).length = 2 := by rw [Str.empty_append]; exact a1
    refine rb_retR ⟨_, pe_joined (.cons (pe_fmt2 re_) (.cons pe_str (.cons (pe_fmt2 re_) .nil))), XV.go (xv_name 1 rfl) fun H5 s5 => ⟨t / 60, rfl, by omega, by omega, _, rfl, by rw [l1]; decide, _, rfl, ?_, XV.go (xv_name 2 rfl) fun H6 s6 => ⟨t % 60, rfl, by omega, by omega, _, rfl, ?_, ?_⟩⟩⟩
    · rw [Str.length_append, l1]; decide
    · rw [Str.length_append, Str.length_append, l1, a2]; decide
    · exact q1 t rfl t0 t1 H6 (((((s1.trans s2).trans s3).trans s4).trans s5).trans s6)
end
/-! from N6 -/
section
variable {X : Cx} {M : List Addr} {σ : L2.St} {H H' : Hp} {e a b o ie : Expr} {d : PyData} {ds : List PyData} {pos p1 p2 p3 : Pos} {D : Ends} {rest : List Stmt} {v : V} {xs : List V}
theorem xv_lenS {p : Addr} (hm : X.mg "len" = none) (ha : XV X σ H e (.ref p)) (hS : SqL X.K H p xs) (hg : Gl X "len" := by rfl) (he : starEach [e] X.env = (false, eval e X.env) :: starEach [] X.env := by rfl) (hpl : (backTo pos (starEach [] X.env)).any (·.1) = false := by rfl) :
    XV X σ H (.Call (.Name "len" p1) [e] [] pos) (.int xs.length) := fun H1 s Q q =>
  re_B call_len_seq (ra_1 (ha H1 s _ fun H2 s2 => ⟨p, xs, rfl, .inl ((s.trans s2).seq hS), q H2 s2⟩) he) hm PySem.boot_len hg (by decide) (by decide) he hpl
theorem xv_ixS {p : Addr} {n : Int} (hs : PlainIx b) (ha : XV X σ H a (.ref p)) (hS : SqL X.K H p xs) (hb : XV X σ H b (.int n)) (h : atI xs n = some v) : XV X σ H (.Subscript a b pos) v := fun H1 s Q q =>
  ⟨_, pe_ix ix_list re_ re_ hs, ha H1 s _ fun H2 s2 => hb H2 (s.trans s2) _ fun H3 s3 => ⟨p, xs, n, v, rfl, rfl, ((s.trans s2).trans s3).seq hS, h, q H3 (s2.trans s3)⟩⟩
/-- o[i] = e -/
theorem rb_setIx {l : Addr} {n : Int} {j : Nat} (hl : H l = some (.lst xs)) (he : XD X M σ H e d) (ho : XV X σ H o (.ref l)) (hi : XV X σ H ie (.int n)) (hj : ixN xs.length n = some j) (k : ∀ v H1, Same H H1 → Dq X.K (hid M H1) v d → RB X rest D σ (upd H1 l (.lst (xs.set j v))))
    (hs : swapsWithSole [.Subscript o ie p1] e pos.line X.env = pure false := by rfl) (hw : swappedStores [.Subscript o ie p1] e X.env = pure none := by rfl) (h1 : (assignEach [.Subscript o ie p1] X.env).map (·.2) = [assign (.Subscript o ie p1) X.env] := by rfl)
    (hg : PG X (.Subscript o ie p1) (gSub (RE X o) (RE X ie) rSetL) := by exact pg_sub re_ re_ set_list) : RB X (.Assign [.Subscript o ie p1] e pos :: rest) D σ H :=
  rb_asgR (he.go fun v H1 s1 hv => ⟨_, hg, ho H1 s1 _ fun H2 s2 => hi H2 (s1.trans s2) _ fun H3 s3 => ⟨l, xs, n, j, rfl, rfl, ((s1.trans s2).trans s3) _ _ hl, hj, k v H3 ((s1.trans s2).trans s3) (hv.up (hid_mono (s2.trans s3)))⟩⟩) hs hw h1
theorem xd_pow {m n : Int} (ha : XD X M σ H a (.int m)) (hb : XD X M σ H b (.int n)) (hc : CPow m n) : XD X M σ H (.BinOp a .Pow b pos) (.int (m ^ n.toNat)) := xd_binI op_pow ha hb hc
theorem xd_mod {m n : Int} (ha : XD X M σ H a (.int m)) (hb : XD X M σ H b (.int n)) (hc : 0 < n) : XD X M σ H (.BinOp a .Mod b pos) (.int (m % n)) := xd_binI op_mod ha hb hc
theorem xd_div {m n : Int} (ha : XD X M σ H a (.int m)) (hb : XD X M σ H b (.int n)) (hc : CDivW m n) : XD X M σ H (.BinOp a .FloorDiv b pos) (.int (m / n)) := xd_binI op_fdivW ha hb hc
end
/-! from N7 -/
section
variable {X : Cx} {M : List Addr} {σ : L2.St} {H H' : Hp} {e a b o ie : Expr} {es : List Expr} {d : PyData} {ds : List PyData} {pos p1 p2 p3 : Pos} {D : Ends} {rest : List Stmt} {v : V} {xs : List V} {Q : VK}
theorem re_bin {op : Operator} {r : R2} (ho : OpR X (binaryOp op) r) (h : RE X a σ H fun x H1 => RE X b σ H1 fun y H2 => r x y H2 Q) : RE X (.BinOp a op b pos) σ H Q := ⟨_, pe_op ho re_ re_, h⟩
end
theorem at_any {vs : List V} {r : Int} (h0 : 0 ≤ r) (h1 : r.toNat < vs.length) : atI vs r = some (vs[r.toNat]) := by
  obtain ⟨n, rfl⟩ : ∃ n : Nat, r = (n : Int) := ⟨r.toNat, by omega⟩
  have h2 : n < vs.length := by omega
  unfold atI
  rw [show ixN vs.length (n : Int) = some n by unfold ixN; simp; omega]
  simp [h2]
section
variable {X : Cx} {M : List Addr} {σ : L2.St} {H : Hp} {a b c e e2 e3 e4 e5 o : Expr} {pos apos p1 p2 py spos : Pos} {C f : Addr} {fd : FuncData} {off n : Int} {k : Nat} {D : Ends} {rest : List Stmt} {x : Str} {scope : Scope} {own : List (Str × Nat)} {elt tg : Expr} {Q : VK} {esl : List Expr}
theorem re_menuV {vs : List V} (hs : PlainIx b) (hn : vs.length ≤ 1000) (h : RA X esl σ H fun ws H1 => ws = vs ∧ ∀ l, H1 l = none → RE X b σ (upd H1 l (.lst vs)) fun y H3 => ∃ r : Int, y = .int r ∧ 0 ≤ r ∧ r < vs.length ∧ H3 l = some (.lst vs) ∧ ∀ z, z ∈ vs → Q z H3) :
    RE X (.Subscript (.List esl p1) b pos) σ H Q :=
  ⟨_, pe_ix ix_list (pe_lst ra_) re_ hs, ra_mono h fun ws H1 ⟨e1, k⟩ => by
    subst e1
    exact ⟨Nat.le_trans hn (by decide), fun l hl => re_mono (k l hl) fun y H3 ⟨r, ey, r0, r1, h3, q⟩ => by
      subst ey
      have hlt : r.toNat < ws.length := by omega
      refine ⟨l, ws, r, ws[r.toNat], rfl, rfl, SqL.of h3, ?_, q _ (List.getElem_mem hlt)⟩
      exact at_any r0 hlt⟩⟩
end
end Zn

set_option Elab.async false
set_option linter.all false
set_option maxRecDepth 100000
set_option maxHeartbeats 8000000
namespace Zn
open PySem PySem.Spec PyProof.Rows L2 Dl
abbrev sCell : Stmt := top 44
abbrev sBag : Stmt := top 45
abbrev sTake : Stmt := top 46
/-- the bag: a great rest, a seed, a count up to n -/
def BagAt (H : Hp) (b : Addr) (n : Nat) : Prop := ∃ (g m c : Int), H b = some (.lst [.int g, .int m, .int c]) ∧ 0 ≤ m ∧ m < 2147483648 ∧ 0 ≤ c ∧ c ≤ n
theorem BagAt.up {H H' : Hp} {b : Addr} {n n' : Nat} (h : BagAt H b n) (s : Same H H') (hn : n ≤ n') : BagAt H' b n' := by
  obtain ⟨g, m, c, h1, h2, h3, h4, h5⟩ := h
  exact ⟨g, m, c, s _ _ h1, h2, h3, h4, by omega⟩
/-- all but b stands -/
def SameB (b : Addr) (H H' : Hp) : Prop := ∀ a o, a ≠ b → H a = some o → H' a = some o
theorem SameB.of {b : Addr} {H H' : Hp} (s : Same H H') : SameB b H H' := fun a o _ e => s a o e
theorem SameB.trans {b : Addr} {H H1 H2 : Hp} (s : SameB b H H1) (t : SameB b H1 H2) : SameB b H H2 := fun a o n e => t a o n (s a o n e)
theorem SameB.upd {b : Addr} {H H' : Hp} {o : HO} (s : SameB b H H') : SameB b H (upd H' b o) := fun a u n e => by rw [upd_ne n]; exact s a u n e
theorem SameB.hid {b : Addr} {M : List Addr} {H H' : Hp} (s : SameB b H H') (h : b ∈ M) : Same (hid M H) (hid M H') := fun a o e => by
  have n : a ∉ M := fun z => by unfold Dl.hid at e; rw [if_pos z] at e; cases e
  have nb : a ≠ b := fun z => n (z ▸ h)
  rw [hid_of n]
  exact s a o nb (hid_le _ _ e)
theorem SameB.live {b : Addr} {M : List Addr} {H H' : Hp} (s : SameB b H H') (L : Live M H) (hb : H' b ≠ none) : Live M H' := fun a ha z => by
  by_cases e : a = b
  · subst e; exact hb z
  · cases q : H a with
    | none => exact L a ha q
    | some o => rw [s a o e q] at z; cases z
theorem BagAt.some {H : Hp} {b : Addr} {n : Nat} (h : BagAt H b n) : H b ≠ none := by
  obtain ⟨g, m, c, h1, _⟩ := h
  rw [h1]; simp
def spCell (K : PySem.W.Frag) : Sp := fun vs H Q _ => ∃ (a : Addr) (ns : List Int) (j : Nat), vs = [.ref a, .int j] ∧ SqL K H a (ns.map V.int) ∧ ∀ (n : Int) H1, Same H H1 → Q (.int n) H1
def spBag : Sp := fun vs H Q _ => ∃ (n : Int), vs = [.int n] ∧ ∀ b H1, Same H H1 → H b = none → BagAt H1 b 0 → Q (.ref b) H1
def spTake : Sp := fun vs H Q _ => ∃ (b : Addr) (many : Int) (n : Nat), vs = [.ref b, .int many] ∧ 0 < many ∧ many.natAbs < 2 ^ 200 ∧ n ≤ 1000000 ∧ BagAt H b n ∧
  ∀ (r : Int) H1, 0 ≤ r → r < many → SameB b H H1 → BagAt H1 b (n + 1) → Q (.int r) H1
section
variable {P : Program} {w : World} {K : PySem.W.Frag} {mg : Str → Option Value} {base : Heap}
theorem scCell : FnScope ["_law_script", "_law_k"] ["_law_script", "_law_k"] (defScope sCell) := ⟨rfl, rfl, rfl, by decide +kernel, rfl, by decide +kernel, by decide +kernel⟩
theorem ok_cell {f : Addr} {fd : FuncData} (T : Nm mg) (F : Df K mg "_law_cell" sCell ["_law_script", "_law_k"] f fd) : FnOk P w K mg base CX0 1 f fd ["_law_script", "_law_k"] (spCell K) := by
  refine F.F.ok scCell (fun vs H Q E h => ?_) (fun cdv A outer s H vs Q E hr h => ?_)
  · obtain ⟨a, ns, j, rfl, _⟩ := h; rfl
  · obtain ⟨a, ns, j, rfl, hS, q⟩ := h
    refine rb_if (xt_cmpI (M := []) op_lt (xv_name 1 rfl).int (xv_lenS T.len (xv_name 0 rfl) hS).int) (fun e H1 s1 => ?_) (fun e H1 s1 => rb_nil ?_)
    · have hj : j < ns.length := by
        have z := of_decide_eq_true e
        rw [List.length_map] at z
        omega
      have ha : atI (ns.map V.int) ((j : Nat) : Int) = some (V.int ns[j]) := atI_nat (by rw [List.getElem?_map, List.getElem?_eq_getElem hj]; rfl)
      exact rb_retR (XV.go (xv_ixS (fun _ _ => rfl) (xv_name 0 rfl) (s1.seq hS) (xv_name 1 rfl) ha) fun H2 s2 => q _ H2 (s1.trans s2))
    · exact rb_ret (M := []) (xd_add (xd_mul xd_int (xv_name 1 rfl).int (.inl ⟨by decide, by decide⟩)) xd_int) fun v H2 s2 hv => by
        rw [dp_int hv]
        exact q _ H2 (s1.trans s2)
theorem scBag : FnScope ["_law_cell_here"] ["_law_cell_here"] (defScope sBag) := ⟨rfl, rfl, rfl, by decide +kernel, rfl, by decide +kernel, by decide +kernel⟩
theorem ok_bag {f : Addr} {fd : FuncData} (T : Nm mg) (F : Df K mg "_law_box" sBag ["_law_cell_here"] f fd) : FnOk P w K mg base CX0 1 f fd ["_law_cell_here"] spBag := by
  refine F.F.ok scBag (fun vs H Q E h => ?_) (fun cdv A outer s H vs Q E hr h => ?_)
  · obtain ⟨n, rfl, _⟩ := h; rfl
  · obtain ⟨n, rfl, q⟩ := h
    refine rb_retR (XL.go (M := []) (xl_lst Live.nil (xa_cons (xd_max T.max (xa_cons xd_int (xa_cons (xd_sub (xv_name 0 rfl).int (xd_pow xd_int xd_int ⟨by decide, by decide, by decide⟩)) xa_nil))) (xa_cons (xd_mod (xv_name 0 rfl).int xd_int (by decide)) (xa_cons xd_int xa_nil)))) fun p xs H1 s1 hp h1 hx => ?_)
    cases hx with
    | cons a1 hx => cases hx with
      | cons a2 hx => cases hx with
        | cons a3 hx =>
          cases hx
          rw [dp_int a1, dp_int a2, dp_int a3] at h1
          exact q p H1 s1 hp ⟨_, _, _, h1, by omega, by omega, by decide, by decide⟩
theorem scTake : FnScope ["_law_box_here", "_law_many", "_law_digit", "_law_mixed"] ["_law_box_here", "_law_many"] (defScope sTake) := ⟨rfl, rfl, rfl, by decide +kernel, rfl, by decide +kernel, by decide +kernel⟩
theorem cdiv0 {m n : Int} (h : 0 < n) (h2 : n.natAbs < 2 ^ 200) : CDivW m n := wide_div h h2 (by decide) (by decide)
theorem ok_take {f : Addr} {fd : FuncData} (F : Df K mg "_law_take" sTake ["_law_box_here", "_law_many"] f fd) : FnOk P w K mg base CX0 1 f fd ["_law_box_here", "_law_many"] spTake := by
  refine F.F.ok scTake (fun vs H Q E h => ?_) (fun cdv A outer s H vs Q E hr h => ?_)
  · obtain ⟨b, many, n, rfl, _⟩ := h; rfl
  · obtain ⟨b, many, n, rfl, hm, hm2, hn, ⟨g, m, c, hb, m0, m1, c0, c1⟩, q⟩ := h
    have at0 : ∀ {x y z : V}, atI [x, y, z] 0 = some x := fun {x y z} => rfl
    have at1 : ∀ {x y z : V}, atI [x, y, z] 1 = some y := fun {x y z} => rfl
    have at2 : ∀ {x y z : V}, atI [x, y, z] 2 = some z := fun {x y z} => rfl
    refine rb_if (xt_cmpI (M := []) op_gt (xv_ixS (fun _ _ => rfl) (xv_name 0 rfl) (SqL.of hb) xv_int at0).int xd_int) (fun e H1 s1 => ?_) (fun e H1 s1 => rb_nil ?_)
    · have hb1 := s1 _ _ hb
      refine rb_set 2 (M := []) (xd_mod (xv_ixS (fun _ _ => rfl) (xv_name 0 rfl) (SqL.of hb1) xv_int at0).int (xv_name 1 rfl).int hm) (fun v H2 s2 hv => ?_) scTake.nd
      have ev := dp_int hv
      subst ev
      have hb2 := s2 _ _ hb1
      refine rb_setIx (M := []) (n := 0) (j := 0) hb2 (xd_div (xv_ixS (fun _ _ => rfl) (xv_name 0 rfl) (SqL.of hb2) xv_int at0).int (xv_name 1 rfl).int (cdiv0 hm hm2)) (xv_name 0 rfl) xv_int rfl fun v H3 s3 hv => ?_
      have ev := dp_int hv
      subst ev
      refine rb_retR (XV.go (xv_name 2 rfl) fun H4 s4 => q _ H4 (Int.emod_nonneg _ (by omega)) (Int.emod_lt_of_pos _ hm) ((((SameB.of s1).trans (.of s2)).trans (.of s3)).upd.trans (.of s4)) ⟨g / many, m, c, s4 _ _ upd_same, m0, m1, c0, by omega⟩)
    · have hb1 := s1 _ _ hb
      refine rb_setIx (M := []) (n := 2) (j := 2) hb1 (xd_add (xv_ixS (fun _ _ => rfl) (xv_name 0 rfl) (SqL.of hb1) xv_int at2).int xd_int) (xv_name 0 rfl) xv_int rfl fun v H2 s2 hv => ?_
      have ev := dp_int hv
      subst ev
      have hb3 : upd H2 b (.lst [V.int g, V.int m, V.int (c + 1)]) b = some (.lst [V.int g, V.int m, V.int (c + 1)]) := upd_same
      have sB : SameB b H (upd H2 b (.lst [V.int g, V.int m, V.int (c + 1)])) := ((SameB.of s1).trans (.of s2)).upd
      show RB _ _ _ _ (upd H2 b (.lst [V.int g, V.int m, V.int (c + 1)]))
      generalize upd H2 b (.lst [V.int g, V.int m, V.int (c + 1)]) = H3 at hb3 sB
      refine rb_set 3 (M := []) (xd_mod (xd_pow (xd_add (xd_add (xv_ixS (fun _ _ => rfl) (xv_name 0 rfl) (SqL.of hb3) xv_int at1).int (xd_mul xd_int (xv_ixS (fun _ _ => rfl) (xv_name 0 rfl) (SqL.of hb3) xv_int at2).int (.inl ⟨by decide, by decide⟩))) xd_int) xd_int ⟨by decide, by decide, by omega⟩) xd_int (by decide)) (fun v H4 s4 hv => ?_) scTake.nd
      have ev := dp_int hv
      subst ev
      generalize hx : ((m + 15490123 * (c + 1) + 2011) ^ (5 : Int).toNat % 2147483647 : Int) = x1
      have x0 : 0 ≤ x1 := by rw [← hx]; exact Int.emod_nonneg _ (by decide)
      have x2 : x1 < 2147483647 := by rw [← hx]; exact Int.emod_lt_of_pos _ (by decide)
      have hb4 := s4 _ _ hb3
      refine rb_set 3 (M := []) (xd_mod (xd_pow (xd_add (xv_name 3 rfl).int (xd_mul xd_int (xv_ixS (fun _ _ => rfl) (xv_name 0 rfl) (SqL.of hb4) xv_int at2).int (.inl ⟨by decide, by decide⟩))) xd_int ⟨by decide, by decide, by omega⟩) xd_int (by decide)) (fun v H5 s5 hv => ?_) scTake.nd
      have ev := dp_int hv
      subst ev
      refine rb_ret (M := []) (xd_mod (xd_div (xv_name 3 rfl).int xd_int (cdiv0 (by decide) (by decide))) (xv_name 1 rfl).int hm) fun v H6 s6 hv => ?_
      rw [dp_int hv]
      exact q _ H6 (Int.emod_nonneg _ (by omega)) (Int.emod_lt_of_pos _ hm) (((sB.trans (.of s4)).trans (.of s5)).trans (.of s6)) ⟨g, m, c + 1, s6 _ _ (s5 _ _ hb4), m0, m1, by omega, by omega⟩
end
theorem re_take {X : Cx} {σ : L2.St} {H : Hp} {o e : Expr} {pos p1 : Pos} {Q : VK} {k n : Nat} {f b : Addr} {fd : FuncData} {many : Int} (G : FnOk X.prog X.w X.K X.mg X.base CX0 k f fd ["_law_box_here", "_law_many"] spTake) (F : Df X.K X.mg "_law_take" sTake ["_law_box_here", "_law_many"] f fd) (hr : Room k X.A)
    (ho : XV X σ H o (.ref b)) (he : XV X σ H e (.int many)) (hB : BagAt H b n) (q : ∀ (r : Int) H1, 0 ≤ r → r < many → SameB b H H1 → BagAt H1 b (n + 1) → Q (.int r) H1) (h0 : 0 < many := by decide) (h1 : many.natAbs < 2 ^ 200 := by decide) (hn : n ≤ 1000000 := by omega) (hg : Gl X "_law_take" := by rfl)
    (hs : starEach [o, e] X.env = (false, eval o X.env) :: starEach [e] X.env := by rfl) (hs2 : starEach [e] X.env = (false, eval e X.env) :: starEach [] X.env := by rfl) (hpl : (backTo pos (starEach [e] X.env)).any (·.1) = false := by rfl) : RE X (.Call (.Name "_law_take" p1) [o, e] [] pos) σ H Q :=
  re_call G hr F.g F.F.kp F.b (ra_cons (ho.go fun H1 s1 => ra_1 ((he.up s1).go fun H2 s2 => ⟨b, many, n, rfl, h0, h1, hn, hB.up (s1.trans s2) (Nat.le_refl _), fun r H3 r0 r1 sB hB3 => q r H3 r0 r1 ((SameB.of (s1.trans s2)).trans sB) hB3⟩) hs2) hs) hg (by decide) hs hpl
theorem sameB_new {b l : Addr} {H : Hp} {o : HO} (h : H l = none) : SameB b H (upd H l o) := SameB.of (same_new h)
theorem bag_new {H : Hp} {b l : Addr} {n : Nat} {o : HO} (h : BagAt H b n) (hl : H l = none) : BagAt (upd H l o) b n := h.up (same_new hl) (Nat.le_refl _)
theorem bag_sameB {H H' : Hp} {b : Addr} {n : Nat} (h : BagAt H b n) (s : Same H H') : BagAt H' b n := h.up s (Nat.le_refl _)
theorem strs_va {K : PySem.W.Frag} {H : Hp} : ∀ {ss : List Str} {xs : List V}, DqAll K H xs (ss.map PyData.str) → xs = ss.map V.str
  | [], _, h => by cases h; rfl
  | n :: ns, _, h => by
    cases h with
    | cons a b => rw [dp_str a, strs_va b]; rfl
section
variable {X : Cx} {σ : L2.St} {H : Hp} {o e : Expr} {pos p1 p2 p3 p4 : Pos} {Q : VK} {D : Ends} {rest : List Stmt}
theorem re_menuS {esl : List Expr} {ss : List Str} {many : Int} {j n k : Nat} {f b : Addr} {fd : FuncData} (G : FnOk X.prog X.w X.K X.mg X.base CX0 k f fd ["_law_box_here", "_law_many"] spTake) (F : Df X.K X.mg "_law_take" sTake ["_law_box_here", "_law_many"] f fd) (hr : Room k X.A)
    (ha : XA X [] σ H esl (ss.map PyData.str)) (ho : XV X σ H o (.ref b)) (hB : BagAt H b n) (q : ∀ y, y ∈ ss → ∀ H1, SameB b H H1 → BagAt H1 b (n + 1) → Q (.str y) H1) (hl : (ss.length : Int) = many := by rfl) (h1 : many.natAbs < 2 ^ 200 := by decide) (h0 : 0 < many := by decide) (hz : ss.length ≤ 1000 := by decide) (hn : n ≤ 1000000 := by omega) (hg : Gl X "_law_take" := by rfl)
    (hs : starEach [o, .Constant (.int many) j p4] X.env = (false, eval o X.env) :: starEach [.Constant (.int many) j p4] X.env := by rfl) (hs2 : starEach [.Constant (.int many) j p4] X.env = (false, eval (.Constant (.int many) j p4) X.env) :: starEach [] X.env := by rfl) (hpl : (backTo p3 (starEach [.Constant (.int many) j p4] X.env)).any (·.1) = false := by rfl) :
    RE X (.Subscript (.List esl p1) (.Call (.Name "_law_take" p2) [o, .Constant (.int many) j p4] [] p3) pos) σ H Q := by
  refine re_menuV (vs := ss.map V.str) (fun _ _ => rfl) (by rw [List.length_map]; exact hz) (ha H (Same.refl _) _ fun vs H1 s1 hv => ⟨strs_va hv, fun l hl2 => ?_⟩)
  have hv2 := strs_va hv
  subst hv2
  have hlb : l ≠ b := fun e => by rw [e] at hl2; exact (hB.up s1 (Nat.le_refl _)).some hl2
  refine re_take (n := n) G F hr (ho.up (s1.trans (same_new hl2))) xv_int (hB.up (s1.trans (same_new hl2)) (Nat.le_refl _)) (fun r H2 r0 r1 sB hB2 => ⟨r, rfl, r0, by rw [List.length_map, hl]; exact r1, sB _ _ hlb upd_same, fun z hz2 => ?_⟩) h0 h1 hn hg hs hs2 hpl
  obtain ⟨y, hy, rfl⟩ := List.mem_map.mp hz2
  exact q y hy H2 ((SameB.of (s1.trans (same_new hl2))).trans sB) hB2
theorem re_addS {a b : Expr} (h : RE X a σ H fun x H1 => ∃ i, x = .str i ∧ RE X b σ H1 fun y H2 => ∃ j, y = .str j ∧ i.length + j.length ≤ 100000 ∧ Q (.str (i ++ j)) H2) : RE X (.BinOp a .Add b pos) σ H Q :=
  re_bin op_add_str (re_mono h fun x H1 ⟨i, ei, h1⟩ => re_mono h1 fun y H2 ⟨j, ej, hz, q⟩ => ⟨i, j, ei, ej, small_sz hz, q⟩)
theorem re_menuI {esl : List Expr} {ss : List Int} {many : Int} {j n k : Nat} {f b : Addr} {fd : FuncData} (G : FnOk X.prog X.w X.K X.mg X.base CX0 k f fd ["_law_box_here", "_law_many"] spTake) (F : Df X.K X.mg "_law_take" sTake ["_law_box_here", "_law_many"] f fd) (hr : Room k X.A)
    (ha : XA X [] σ H esl (ss.map PyData.int)) (ho : XV X σ H o (.ref b)) (hB : BagAt H b n) (q : ∀ y, y ∈ ss → ∀ H1, SameB b H H1 → BagAt H1 b (n + 1) → Q (.int y) H1) (hl : (ss.length : Int) = many := by rfl) (h1 : many.natAbs < 2 ^ 200 := by decide) (h0 : 0 < many := by decide) (hz : ss.length ≤ 1000 := by decide) (hn : n ≤ 1000000 := by omega) (hg : Gl X "_law_take" := by rfl)
    (hs : starEach [o, .Constant (.int many) j p4] X.env = (false, eval o X.env) :: starEach [.Constant (.int many) j p4] X.env := by rfl) (hs2 : starEach [.Constant (.int many) j p4] X.env = (false, eval (.Constant (.int many) j p4) X.env) :: starEach [] X.env := by rfl) (hpl : (backTo p3 (starEach [.Constant (.int many) j p4] X.env)).any (·.1) = false := by rfl) :
    RE X (.Subscript (.List esl p1) (.Call (.Name "_law_take" p2) [o, .Constant (.int many) j p4] [] p3) pos) σ H Q := by
  refine re_menuV (vs := ss.map V.int) (fun _ _ => rfl) (by rw [List.length_map]; exact hz) (ha H (Same.refl _) _ fun vs H1 s1 hv => ⟨ints_v hv, fun l hl2 => ?_⟩)
  have hv2 := ints_v hv
  subst hv2
  have hlb : l ≠ b := fun e => by rw [e] at hl2; exact (hB.up s1 (Nat.le_refl _)).some hl2
  refine re_take (n := n) G F hr (ho.up (s1.trans (same_new hl2))) xv_int (hB.up (s1.trans (same_new hl2)) (Nat.le_refl _)) (fun r H2 r0 r1 sB hB2 => ⟨r, rfl, r0, by rw [List.length_map, hl]; exact r1, sB _ _ hlb upd_same, fun z hz2 => ?_⟩) h0 h1 hn hg hs hs2 hpl
  obtain ⟨y, hy, rfl⟩ := List.mem_map.mp hz2
  exact q y hy H2 ((SameB.of (s1.trans (same_new hl2))).trans sB) hB2
theorem re_mulR {a b : Expr} (h : RE X a σ H fun x H1 => ∃ i, x = .int i ∧ RE X b σ H1 fun y H2 => ∃ j, y = .int j ∧ (-(2 ^ 64) < j ∧ j < 2 ^ 64) ∧ Q (.int (i * j)) H2) : RE X (.BinOp a .Mult b pos) σ H Q :=
  re_bin op_mul (re_mono h fun x H1 ⟨i, ei, h1⟩ => re_mono h1 fun y H2 ⟨j, ej, hj, q⟩ => ⟨i, j, ei, ej, .inr hj, q⟩)
end
end Zn

set_option Elab.async false
set_option linter.all false
set_option maxRecDepth 100000
set_option maxHeartbeats 8000000
namespace Zn
open PySem PySem.Spec PyProof.Rows L2 Dl
/-! k01: the classes of exceptions; lists of exceptions -/
abbrev veTl : List Value := [.type "ValueError", .type "Exception", .type "BaseException", .type "object"]
theorem veTl_ok : SLx.TlF veTl := ⟨fun u => by kernel_rfl, by decide +kernel⟩
def clL : List Str := ["InvalidPart", "InvalidInteger", "InvalidName", "InvalidTime", "InvalidText", "InvalidLine", "InvalidBound", "InvalidValues", "InvalidCase", "InvalidCommand", "InvalidChange", "InvalidJump", "InvalidRule", "InvalidLog", "InvalidEntry", "InvalidWord", "Duplicate", "NotZone", "NotKind", "NotProgram", "UnlikeStarts", "NoAnswer", "UnknownName", "NoPlace", "NoLine", "NotStart", "NotPossible", "NoProgram", "NothingToUndo"]
def flL : List Str := ["value", "value", "value", "value", "value", "index", "value", "value", "value", "value", "value", "value", "value", "value", "value", "value", "label", "value", "value", "value", "value", "index", "label", "index", "index", "value", "value"]
def clN (i : Nat) : Str := clL.getD i ""
def flN (i : Nat) : Str := flL.getD i ""
structure Ys (P : Program) (w : World) (K : PySem.W.Frag) (mg : Str → Option Value) (base : Heap) (cs : Nat → Addr) : Prop where
  y0 : ∃ f fd, XClsV P w K mg base veTl "ValueError.__new__" "ValueError.__init__" "ValueError" "InvalidPart" "value" (cs 0) f fd ∧ ∀ (s : Shared) (u v : Value), BindsTo s fd ⟨[u], [("value", v)]⟩ ((["self", "value"] : List Str).zip [u, v])
  y1 : ∃ f fd, XClsV P w K mg base veTl "ValueError.__new__" "ValueError.__init__" "ValueError" "InvalidInteger" "value" (cs 1) f fd ∧ ∀ (s : Shared) (u v : Value), BindsTo s fd ⟨[u], [("value", v)]⟩ ((["self", "value"] : List Str).zip [u, v])
  y2 : ∃ f fd, XClsV P w K mg base veTl "ValueError.__new__" "ValueError.__init__" "ValueError" "InvalidName" "value" (cs 2) f fd ∧ ∀ (s : Shared) (u v : Value), BindsTo s fd ⟨[u], [("value", v)]⟩ ((["self", "value"] : List Str).zip [u, v])
  y3 : ∃ f fd, XClsV P w K mg base veTl "ValueError.__new__" "ValueError.__init__" "ValueError" "InvalidTime" "value" (cs 3) f fd ∧ ∀ (s : Shared) (u v : Value), BindsTo s fd ⟨[u], [("value", v)]⟩ ((["self", "value"] : List Str).zip [u, v])
  y4 : ∃ f fd, XClsV P w K mg base veTl "ValueError.__new__" "ValueError.__init__" "ValueError" "InvalidText" "value" (cs 4) f fd ∧ ∀ (s : Shared) (u v : Value), BindsTo s fd ⟨[u], [("value", v)]⟩ ((["self", "value"] : List Str).zip [u, v])
  y5 : ∃ f fd, XClsV P w K mg base veTl "ValueError.__new__" "ValueError.__init__" "ValueError" "InvalidLine" "index" (cs 5) f fd ∧ ∀ (s : Shared) (u v : Value), BindsTo s fd ⟨[u], [("index", v)]⟩ ((["self", "index"] : List Str).zip [u, v])
  y6 : ∃ f fd, XClsV P w K mg base veTl "ValueError.__new__" "ValueError.__init__" "ValueError" "InvalidBound" "value" (cs 6) f fd ∧ ∀ (s : Shared) (u v : Value), BindsTo s fd ⟨[u], [("value", v)]⟩ ((["self", "value"] : List Str).zip [u, v])
  y7 : ∃ f fd, XClsV P w K mg base veTl "ValueError.__new__" "ValueError.__init__" "ValueError" "InvalidValues" "value" (cs 7) f fd ∧ ∀ (s : Shared) (u v : Value), BindsTo s fd ⟨[u], [("value", v)]⟩ ((["self", "value"] : List Str).zip [u, v])
  y8 : ∃ f fd, XClsV P w K mg base veTl "ValueError.__new__" "ValueError.__init__" "ValueError" "InvalidCase" "value" (cs 8) f fd ∧ ∀ (s : Shared) (u v : Value), BindsTo s fd ⟨[u], [("value", v)]⟩ ((["self", "value"] : List Str).zip [u, v])
  y9 : ∃ f fd, XClsV P w K mg base veTl "ValueError.__new__" "ValueError.__init__" "ValueError" "InvalidCommand" "value" (cs 9) f fd ∧ ∀ (s : Shared) (u v : Value), BindsTo s fd ⟨[u], [("value", v)]⟩ ((["self", "value"] : List Str).zip [u, v])
  y10 : ∃ f fd, XClsV P w K mg base veTl "ValueError.__new__" "ValueError.__init__" "ValueError" "InvalidChange" "value" (cs 10) f fd ∧ ∀ (s : Shared) (u v : Value), BindsTo s fd ⟨[u], [("value", v)]⟩ ((["self", "value"] : List Str).zip [u, v])
  y11 : ∃ f fd, XClsV P w K mg base veTl "ValueError.__new__" "ValueError.__init__" "ValueError" "InvalidJump" "value" (cs 11) f fd ∧ ∀ (s : Shared) (u v : Value), BindsTo s fd ⟨[u], [("value", v)]⟩ ((["self", "value"] : List Str).zip [u, v])
  y12 : ∃ f fd, XClsV P w K mg base veTl "ValueError.__new__" "ValueError.__init__" "ValueError" "InvalidRule" "value" (cs 12) f fd ∧ ∀ (s : Shared) (u v : Value), BindsTo s fd ⟨[u], [("value", v)]⟩ ((["self", "value"] : List Str).zip [u, v])
  y13 : ∃ f fd, XClsV P w K mg base veTl "ValueError.__new__" "ValueError.__init__" "ValueError" "InvalidLog" "value" (cs 13) f fd ∧ ∀ (s : Shared) (u v : Value), BindsTo s fd ⟨[u], [("value", v)]⟩ ((["self", "value"] : List Str).zip [u, v])
  y14 : ∃ f fd, XClsV P w K mg base veTl "ValueError.__new__" "ValueError.__init__" "ValueError" "InvalidEntry" "value" (cs 14) f fd ∧ ∀ (s : Shared) (u v : Value), BindsTo s fd ⟨[u], [("value", v)]⟩ ((["self", "value"] : List Str).zip [u, v])
  y15 : ∃ f fd, XClsV P w K mg base veTl "ValueError.__new__" "ValueError.__init__" "ValueError" "InvalidWord" "value" (cs 15) f fd ∧ ∀ (s : Shared) (u v : Value), BindsTo s fd ⟨[u], [("value", v)]⟩ ((["self", "value"] : List Str).zip [u, v])
  y16 : ∃ f fd, XClsV P w K mg base veTl "ValueError.__new__" "ValueError.__init__" "ValueError" "Duplicate" "label" (cs 16) f fd ∧ ∀ (s : Shared) (u v : Value), BindsTo s fd ⟨[u], [("label", v)]⟩ ((["self", "label"] : List Str).zip [u, v])
  y17 : ∃ f fd, XClsV P w K mg base veTl "ValueError.__new__" "ValueError.__init__" "ValueError" "NotZone" "value" (cs 17) f fd ∧ ∀ (s : Shared) (u v : Value), BindsTo s fd ⟨[u], [("value", v)]⟩ ((["self", "value"] : List Str).zip [u, v])
  y18 : ∃ f fd, XClsV P w K mg base veTl "ValueError.__new__" "ValueError.__init__" "ValueError" "NotKind" "value" (cs 18) f fd ∧ ∀ (s : Shared) (u v : Value), BindsTo s fd ⟨[u], [("value", v)]⟩ ((["self", "value"] : List Str).zip [u, v])
  y19 : ∃ f fd, XClsV P w K mg base veTl "ValueError.__new__" "ValueError.__init__" "ValueError" "NotProgram" "value" (cs 19) f fd ∧ ∀ (s : Shared) (u v : Value), BindsTo s fd ⟨[u], [("value", v)]⟩ ((["self", "value"] : List Str).zip [u, v])
  y20 : ∃ f fd, XClsV P w K mg base veTl "ValueError.__new__" "ValueError.__init__" "ValueError" "UnlikeStarts" "value" (cs 20) f fd ∧ ∀ (s : Shared) (u v : Value), BindsTo s fd ⟨[u], [("value", v)]⟩ ((["self", "value"] : List Str).zip [u, v])
  y21 : ∃ f fd, XClsV P w K mg base SKx.keTl "LookupError.__new__" "LookupError.__init__" "LookupError" "NoAnswer" "index" (cs 21) f fd ∧ ∀ (s : Shared) (u v : Value), BindsTo s fd ⟨[u], [("index", v)]⟩ ((["self", "index"] : List Str).zip [u, v])
  y22 : ∃ f fd, XClsV P w K mg base SKx.keTl "LookupError.__new__" "LookupError.__init__" "LookupError" "UnknownName" "label" (cs 22) f fd ∧ ∀ (s : Shared) (u v : Value), BindsTo s fd ⟨[u], [("label", v)]⟩ ((["self", "label"] : List Str).zip [u, v])
  y23 : ∃ f fd, XClsV P w K mg base SKx.keTl "LookupError.__new__" "LookupError.__init__" "LookupError" "NoPlace" "index" (cs 23) f fd ∧ ∀ (s : Shared) (u v : Value), BindsTo s fd ⟨[u], [("index", v)]⟩ ((["self", "index"] : List Str).zip [u, v])
  y24 : ∃ f fd, XClsV P w K mg base SKx.keTl "LookupError.__new__" "LookupError.__init__" "LookupError" "NoLine" "index" (cs 24) f fd ∧ ∀ (s : Shared) (u v : Value), BindsTo s fd ⟨[u], [("index", v)]⟩ ((["self", "index"] : List Str).zip [u, v])
  y25 : ∃ f fd, XClsV P w K mg base SLx.leTl "LookupError.__new__" "LookupError.__init__" "LookupError" "NotStart" "value" (cs 25) f fd ∧ ∀ (s : Shared) (u v : Value), BindsTo s fd ⟨[u], [("value", v)]⟩ ((["self", "value"] : List Str).zip [u, v])
  y26 : ∃ f fd, XClsV P w K mg base SLx.leTl "LookupError.__new__" "LookupError.__init__" "LookupError" "NotPossible" "value" (cs 26) f fd ∧ ∀ (s : Shared) (u v : Value), BindsTo s fd ⟨[u], [("value", v)]⟩ ((["self", "value"] : List Str).zip [u, v])
  y27 : XClsN K mg SLx.leTl "LookupError.__new__" "LookupError.__init__" "LookupError" "NoProgram" (cs 27)
  y28 : XClsN K mg SLx.leTl "LookupError.__new__" "LookupError.__init__" "LookupError" "NothingToUndo" (cs 28)
  ask : ∀ i, i < 29 → XAsk K (cs i)
  no : ∀ i, i < 27 → PySem.W.findIn K (.ref (cs i)) (flN i) = some none
  kit : ∀ i j, i < 29 → j < 29 → PySem.W.kitOne K (.ref (cs i)) (.ref (cs j)) = some (decide (i = j))
  g : ∀ i, i < 29 → mg (clN i) = some (.ref (cs i))
section
variable {X : Cx} {σ : L2.St} {H : Hp} {a b e elt tg iter : Expr} {es ifs : List Expr} {pos p1 p2 tpos : Pos} {Q : VK} {D : Ends} {rest : List Stmt} {scope : Scope} {own : List (Str × Nat)}
theorem re_lstR (h : RA X es σ H fun vs H1 => vs.length ≤ 1000 ∧ ∀ p H2, Same H1 H2 → H1 p = none → H2 p = some (.lst vs) → Q (.ref p) H2) : RE X (.List es pos) σ H Q :=
  ⟨_, pe_lst ra_, ra_mono h fun vs H1 ⟨hz, w⟩ => ⟨Nat.le_trans hz (by decide), fun p hp => w p _ (same_new hp) hp upd_same⟩⟩
theorem re_tupR {x1} (h : RA X es σ H fun vs H1 => vs.length ≤ 1000 ∧ ∀ p H2, Same H1 H2 → H1 p = none → H2 p = some (.tup vs) → Q (.ref p) H2) : RE X (.Tuple es x1 pos) σ H Q :=
  ⟨_, pe_tup ra_, ra_mono h fun vs H1 ⟨hz, w⟩ => ⟨Nat.le_trans hz (by decide), fun p hp => w p _ (same_new hp) hp upd_same⟩⟩
/-- for i, x in enumerate(a list) -/
theorem rb_enumV {elts : List Expr} {kk : Nat} {body : List Stmt} {xs : List V} {p : Addr} (hm : X.mg "enumerate" = none) (hit : XV X σ H e (.ref p)) (hp0 : H p = some (.lst xs))
    (h : ∀ H1, Same H H1 → ∃ Pv : Nat → L2.St → Hp → Prop, Pv 0 σ H1 ∧ (∀ k σ' H', Pv k σ' H' → H' p = some (.lst xs)) ∧
      (∀ k x, xs[k]? = some x → ∀ σ' H' T, Pv k σ' H' → H' T = none → RG X (.Tuple elts kk tpos) (.ref T) σ' (upd H' T (.tup [.int (k : Nat), x])) fun σ2 H2 => RB X body { D with nx := Pv (k + 1), ct := Pv (k + 1), bk := RB X rest D } σ2 H2) ∧ ∀ σ' H', Pv xs.length σ' H' → RB X rest D σ' H')
    (hg : Gl X "enumerate" := by rfl) (he : starEach [e] X.env = [(false, eval e X.env)] := by rfl) (hp : PassesOwn (model X.prog X.w) X.A X.env X.xe := by exact PassesOwn.never) (hc : X.calm = true := by rfl) (hs : ∀ x, foldedSetIterable (.Call (.Name "enumerate" p1) [e] [] p2) X.env x = pure x := by intro _; rfl) :
    RB X (.For (.Tuple elts kk tpos) (.Call (.Name "enumerate" p1) [e] [] p2) body [] pos :: rest) D σ H :=
  ⟨_, pss_cons (ps_for hp hc (pi_enum hg hm ra_ he) rg_ rb_ hs) rb_, ra_1 (hit H (Same.refl H) _ fun H1 s1 => by
    obtain ⟨Pv, h0, hk, hst, hd⟩ := h H1 s1
    refine ⟨p, xs, rfl, SqL.of (s1 _ _ hp0), fun i m σ' H' => m + i = xs.length ∧ Pv i σ' H', ⟨xs.length, rfl, h0⟩, fun i m σ' H' w => ?_⟩
    obtain ⟨hmi, hp⟩ := w
    have here : SqL X.K H' p xs := SqL.of (hk i σ' H' hp)
    cases ex : xs[i]? with
    | none =>
      have hge : xs.length ≤ i := List.getElem?_eq_none_iff.mp ex
      have ei : i = xs.length := by omega
      subst ei
      exact .inl ⟨⟨xs, here, hge⟩, hd σ' H' hp⟩
    | some x0 =>
      have hlt := (List.getElem?_eq_some_iff.mp ex).1
      refine .inr ⟨⟨xs, x0, here, ex⟩, Pv (i + 1), fun σ2 H2 h2 => ⟨m - 1, by omega, by omega, h2⟩, fun v H2 hy => ?_⟩
      obtain ⟨T, x, rfl, hT, rfl, hx0⟩ := hy
      exact hst i x (hx0 xs here) σ' H' T hp hT) he⟩
/-- for x, y in zip(a, b), lists -/
theorem rb_zipV {body : List Stmt} {elts : List Expr} {kk : Nat} (hm : X.mg "zip" = none) (hit : RE X a σ H fun v H1 => ∃ pa xs, v = .ref pa ∧ RE X b σ H1 fun u H2 => ∃ pb ys, u = .ref pb ∧ H2 pa = some (.lst xs) ∧ H2 pb = some (.lst ys) ∧ ∃ Pv : Nat → L2.St → Hp → Prop, Pv 0 σ H2 ∧ (∀ k σ' H', Pv k σ' H' → H' pa = some (.lst xs) ∧ H' pb = some (.lst ys)) ∧
      (∀ k x y, xs[k]? = some x → ys[k]? = some y → ∀ σ' H' T, Pv k σ' H' → H' T = none → RG X (.Tuple elts kk tpos) (.ref T) σ' (upd H' T (.tup [x, y])) fun σ2 H3 => RB X body { D with nx := Pv (k + 1), ct := Pv (k + 1), bk := RB X rest D } σ2 H3) ∧ ∀ σ' H', Pv (min xs.length ys.length) σ' H' → RB X rest D σ' H')
    (hp : PassesOwn (model X.prog X.w) X.A X.env X.xe := by exact PassesOwn.never) (hc : X.calm = true := by rfl) (hg : Gl X "zip" := by rfl) (he : starEach [a, b] X.env = (false, eval a X.env) :: starEach [b] X.env := by rfl) (he2 : starEach [b] X.env = (false, eval b X.env) :: starEach [] X.env := by rfl) (hpl : (backTo p2 (starEach [b] X.env)).any (·.1) = false := by rfl) (hs : ∀ x, foldedSetIterable (.Call (.Name "zip" p1) [a, b] [] p2) X.env x = pure x := by intro _; rfl) :
    RB X (.For (.Tuple elts kk tpos) (.Call (.Name "zip" p1) [a, b] [] p2) body [] pos :: rest) D σ H :=
  ⟨_, pss_cons (ps_for hp hc (pi_zip hg hm ra_ he hpl) rg_ rb_ hs) rb_, ra_cons (re_mono hit fun v H1 ⟨pa, xs, ev, h2⟩ => ra_1 (re_mono h2 fun u H2 ⟨pb, ys, eu, hpa, hpb, Pv, h0, hk, hst, hd⟩ => by
    subst ev
    subst eu
    refine ⟨pa, pb, xs, ys, rfl, SqL.of hpa, SqL.of hpb, fun i m σ' H' => m + i = min xs.length ys.length ∧ Pv i σ' H', ⟨min xs.length ys.length, rfl, h0⟩, fun i m σ' H' w => ?_⟩
    obtain ⟨hmi, hpv⟩ := w
    obtain ⟨ga0, gb0⟩ := hk i σ' H' hpv
    have ga : SqL X.K H' pa xs := SqL.of ga0
    have gb : SqL X.K H' pb ys := SqL.of gb0
    by_cases hlt : i < min xs.length ys.length
    · have l1 : i < xs.length := by omega
      have l2 : i < ys.length := by omega
      refine .inr ⟨⟨xs, ys, xs[i], ys[i], ga, gb, List.getElem?_eq_getElem l1, List.getElem?_eq_getElem l2⟩, Pv (i + 1), fun σ2 H2 hh => ⟨m - 1, by omega, by omega, hh⟩, fun v Hy hyl => ?_⟩
      obtain ⟨T, y, z, rfl, hT, rfl, h1, h2⟩ := hyl
      exact hst i y z (h1 xs ga) (h2 ys gb) σ' H' T hpv hT
    · exact .inl ⟨⟨xs, ys, ga, gb, by omega⟩, hd σ' H' (by
        have e : i = min xs.length ys.length := by omega
        rw [← e]; exact hpv)⟩) he2) he⟩
/-- [x for x in a list if c], a new list -/
theorem re_lcL {xs : List V} {pa : Addr} (hN : X.N.Nodup) (ok : BlkOk X.N X.env.scope scope own) (hit : XV X σ H iter (.ref pa)) (hpa : H pa = some (.lst xs))
    (h : ∀ H1, Same H H1 → ∃ Pv : Addr → Nat → Hp → Prop, (∀ p, H1 p = none → Pv p 0 (upd H1 p (.lst []))) ∧ (∀ p i H', Pv p i H' → H' pa = some (.lst xs)) ∧
      (∀ p i x H', xs[i]? = some x → Pv p i H' → BG X scope tg x (wipe σ (own.map (·.2))) H' fun τ H2 => wipe τ (own.map (·.2)) = wipe σ (own.map (·.2)) ∧ BT X scope ifs τ H2 fun k H3 => if k = true then BE X scope elt τ H3 fun y H4 => ∃ acc, H4 p = some (.lst acc) ∧ acc.length < sizeLine ∧ Pv p (i + 1) (upd H4 p (.lst (acc ++ [y]))) else Pv p (i + 1) H3) ∧ ∀ p H', Pv p xs.length H' → Q (.ref p) H')
    (hc : X.calm = true := by rfl) (hs : ∀ x, foldedSetIterable iter X.env x = pure x := by intro _; rfl) : RE X (.ListComp elt [⟨tg, iter, ifs, 0⟩] scope pos) σ H Q :=
  ⟨_, pe_lc (own := own) hc hN (pi_list re_) ok (fun _ _ _ _ _ => bg_) (fun _ _ _ _ _ => bt_) (fun _ _ _ _ _ => be_) hs, hit H (Same.refl _) _ fun H1 s1 => by
    obtain ⟨Pv, h0, hk, hst, hd⟩ := h H1 s1
    refine ⟨pa, rfl, ⟨xs, SqL.of (s1 _ _ hpa)⟩, fun p hp => ?_⟩
    exact lc_list (xs := xs) (a := pa) (Pv p) (h0 p hp) (fun i H' _ w => SqL.of (hk p i H' w)) (fun i x H' hi w => hst p i x H' hi w) (fun H' w => hd p H' w)⟩
end
/-- the i-th exception, made of v -/
def Ex1 (cs : Nat → Addr) (v : V) (i : Nat) (H : Hp) (x : V) : Prop := ∃ a, x = .ref a ∧ ((i < 27 ∧ ∃ t1 d, H a = some (exv a (cs i) t1 (some d)) ∧ H d = some (exd d [(flN i, v)])) ∨ (27 ≤ i ∧ i < 29 ∧ H a = some (ExO (.ref (cs i)) a)))
theorem Ex1.up {cs : Nat → Addr} {v x : V} {i : Nat} {H H1 : Hp} (h : Ex1 cs v i H x) (s : Same H H1) : Ex1 cs v i H1 x := by
  obtain ⟨a, e, h⟩ := h
  refine ⟨a, e, ?_⟩
  rcases h with ⟨hi, t1, d, h1, h2⟩ | ⟨h1, h2, h3⟩
  · exact .inl ⟨hi, t1, d, s _ _ h1, s _ _ h2⟩
  · exact .inr ⟨h1, h2, s _ _ h3⟩
theorem Ex1.lt {cs : Nat → Addr} {v x : V} {i : Nat} {H : Hp} (h : Ex1 cs v i H x) : i < 29 := by
  obtain ⟨a, e, h⟩ := h
  rcases h with ⟨hi, _⟩ | ⟨_, h2, _⟩
  · omega
  · exact h2
theorem Ex1.ty {P : Program} {w : World} {K : PySem.W.Frag} {mg : Str → Option Value} {base : Heap} {cs : Nat → Addr} {v x : V} {i : Nat} {H : Hp} (Y : Ys P w K mg base cs) (h : Ex1 cs v i H x) : TyV K H x (.ref (cs i)) := by
  have hi := h.lt
  obtain ⟨a, rfl, h⟩ := h
  rcases h with ⟨_, t1, d, h1, h2⟩ | ⟨_, _, h3⟩
  · exact .exv (Y.ask i hi) h1 h2
  · exact .ex0 (Y.ask i hi) h3
inductive ExA (cs : Nat → Addr) (v : V) (H : Hp) : List Nat → List V → Prop
  | nil : ExA cs v H [] []
  | cons {i : Nat} {x : V} {is : List Nat} {xs : List V} : Ex1 cs v i H x → ExA cs v H is xs → ExA cs v H (i :: is) (x :: xs)
theorem ExA.up {cs : Nat → Addr} {v : V} {H H1 : Hp} (s : Same H H1) : ∀ {is : List Nat} {xs : List V}, ExA cs v H is xs → ExA cs v H1 is xs
  | _, _, .nil => .nil
  | _, _, .cons a b => .cons (a.up s) (b.up s)
theorem ExA.len {cs : Nat → Addr} {v : V} {H : Hp} : ∀ {is : List Nat} {xs : List V}, ExA cs v H is xs → xs.length = is.length
  | _, _, .nil => rfl
  | _, _, .cons _ b => by rw [List.length_cons, List.length_cons, b.len]
theorem ExA.app {cs : Nat → Addr} {v : V} {H : Hp} : ∀ {is js : List Nat} {xs ys : List V}, ExA cs v H is xs → ExA cs v H js ys → ExA cs v H (is ++ js) (xs ++ ys)
  | _, _, _, _, .nil, h => h
  | _, _, _, _, .cons a b, h => .cons a (b.app h)
theorem ExA.get {cs : Nat → Addr} {v : V} {H : Hp} : ∀ {is : List Nat} {xs : List V} {k : Nat} {x : V}, ExA cs v H is xs → xs[k]? = some x → ∃ i, is[k]? = some i ∧ Ex1 cs v i H x
  | _, _, 0, _, .cons a _, e => by simp at e; subst e; exact ⟨_, rfl, a⟩
  | _, _, k + 1, _, .cons _ b, e => by
    obtain ⟨i, h1, h2⟩ := b.get (k := k) (by simpa using e)
    exact ⟨i, by simpa using h1, h2⟩
/-- e makes such an exception; es make some; e comes to a list of some -/
def XE1 (X : Cx) (cs : Nat → Addr) (v : V) (σ : L2.St) (H : Hp) (e : Expr) (i : Nat) : Prop := ∀ H1, Same H H1 → ∀ Q : VK, (∀ x H2, Same H1 H2 → Ex1 cs v i H2 x → Q x H2) → RE X e σ H1 Q
def XEL (X : Cx) (cs : Nat → Addr) (v : V) (σ : L2.St) (H : Hp) (es : List Expr) (is : List Nat) : Prop := ∀ H1, Same H H1 → ∀ Q : List V → Hp → Prop, (∀ xs H2, Same H1 H2 → ExA cs v H2 is xs → Q xs H2) → RA X es σ H1 Q
def XEX (X : Cx) (cs : Nat → Addr) (v : V) (σ : L2.St) (H : Hp) (e : Expr) (is : List Nat) : Prop := ∀ H1, Same H H1 → ∀ Q : VK, (∀ p xs H2, Same H1 H2 → H2 p = some (.lst xs) → ExA cs v H2 is xs → Q (.ref p) H2) → RE X e σ H1 Q
section
variable {X : Cx} {cs : Nat → Addr} {v : V} {σ : L2.St} {H : Hp} {a b e : Expr} {es : List Expr} {i : Nat} {is js : List Nat} {pos p1 kpos : Pos} {x : Str} {C fI : Addr} {fd : FuncData} {tl : List Value} {newId initId B : String} {D : Ends} {rest : List Stmt}
theorem xe_pos (Y : XClsV X.prog X.w X.K X.mg X.base tl newId initId B x (flN i) (cs i) fI fd) (hi : i < 27) (hr : Room 2 X.A) (he : XV X σ H e v) (hg : Gl X x := by rfl) (hdb : (x == ("__debug__" : Str)) = false := by decide)
    (hs : starEach [e] X.env = (false, eval e X.env) :: starEach [] X.env := by rfl) (hpl : (backTo pos (starEach [] X.env)).any (·.1) = false := by rfl) : XE1 X cs v σ H (.Call (.Name x p1) [e] [] pos) i := fun H1 s Q q =>
  re_exv Y hr (he H1 s _ fun H2 s2 => fun a t1 d H3 _ _ _ _ s3 ha hd _ => q _ H3 (s2.trans s3) ⟨a, rfl, .inl ⟨hi, t1, d, ha, hd⟩⟩) hg hdb hs hpl
theorem xe_kw (Y : XClsV X.prog X.w X.K X.mg X.base tl newId initId B x (flN i) (cs i) fI fd) (hbk : ∀ (s : Shared) (u v : Value), BindsTo s fd ⟨[u], [(flN i, v)]⟩ ((["self", flN i] : List Str).zip [u, v])) (hi : i < 27) (hr : Room 2 X.A) (he : XV X σ H e v) (hg : Gl X x := by rfl)
    (hall : (backToKw pos (keywordEach [⟨some (flN i), e, kpos⟩] X.env)).all (·.1.isSome) = true := by rfl) (hks : (backToKw pos (keywordEach [⟨some (flN i), e, kpos⟩] X.env)).filterMap (·.1) = [flN i] := by rfl) (hdb : (x == ("__debug__" : Str)) = false := by decide)
    (hpl : ((backTo pos (starEach [] X.env)).any (·.1) || (backToKw pos (keywordEach [⟨some (flN i), e, kpos⟩] X.env)).any (·.1.isNone)) = false := by rfl) : XE1 X cs v σ H (.Call (.Name x p1) [] [⟨some (flN i), e, kpos⟩] pos) i := fun H1 s Q q =>
  re_exvK Y hr hbk (he H1 s _ fun H2 s2 => fun a t1 d H3 _ _ _ s3 ha hd => q _ H3 (s2.trans s3) ⟨a, rfl, .inl ⟨hi, t1, d, ha, hd⟩⟩) hg hall hks hdb hpl
theorem xe_none (Y : XClsN X.K X.mg tl newId initId B x (cs i)) (h1 : 27 ≤ i) (h2 : i < 29) (hg : Gl X x := by rfl) (hdb : (x == ("__debug__" : Str)) = false := by decide) : XE1 X cs v σ H (.Call (.Name x p1) [] [] pos) i := fun H1 s Q q =>
  re_exc0 Y (fun a ha => q _ _ (same_new ha) ⟨a, rfl, .inr ⟨h1, h2, upd_same⟩⟩) hg hdb
theorem xel_nil : XEL X cs v σ H [] [] := fun H1 s Q q => ra_nil (q [] H1 (Same.refl _) .nil)
theorem xel_cons (ha : XE1 X cs v σ H e i) (hb : XEL X cs v σ H es is) (hs : starEach (e :: es) X.env = (false, eval e X.env) :: starEach es X.env := by rfl) : XEL X cs v σ H (e :: es) (i :: is) := fun H1 s Q q =>
  ra_cons (ha H1 s _ fun x H2 s2 hx => hb H2 (s.trans s2) _ fun xs H3 s3 hxs => q _ H3 (s2.trans s3) (.cons (hx.up s3) hxs)) hs
theorem xex_lst (h : XEL X cs v σ H es is) (hz : is.length ≤ 1000 := by decide) : XEX X cs v σ H (.List es pos) is := fun H1 s Q q =>
  re_lstR (h H1 s _ fun xs H2 s2 hx => ⟨by rw [hx.len]; exact hz, fun p H3 s3 hp h3 => q p xs H3 (s2.trans s3) h3 (hx.up s3)⟩)
theorem xex_cat (ha : XEX X cs v σ H a is) (hb : XEX X cs v σ H b js) (hz : is.length + js.length ≤ 1000 := by decide) : XEX X cs v σ H (.BinOp a .Add b pos) (is ++ js) := fun H1 s Q q =>
  ⟨_, pe_op op_cat re_ re_, ha H1 s _ fun p xs H2 s2 hp hx => hb H2 (s.trans s2) _ fun p' ys H3 s3 hp' hy => ⟨p, p', xs, ys, rfl, rfl, s3 _ _ hp, hp', small_sz (by rw [hx.len, hy.len]; omega), fun l hl => q l _ _ ((s2.trans s3).trans (same_new hl)) upd_same (((hx.up s3).app hy).up (same_new hl))⟩⟩
theorem xex_name {p : Addr} {xs : List V} (ha : XV X σ H e (.ref p)) (hp : H p = some (.lst xs)) (hx : ExA cs v H is xs) : XEX X cs v σ H e is := fun H1 s Q q =>
  ha H1 s _ fun H2 s2 => q p xs H2 s2 ((s.trans s2) _ _ hp) (hx.up (s.trans s2))
theorem rb_setEX (n : Nat) {y : Str} {pos' : Pos} (h : XEX X cs v σ H e is) (k : ∀ p xs H1, Same H H1 → H1 p = some (.lst xs) → ExA cs v H1 is xs → RB X rest D (σ.set n (some (.ref p))) H1) (hN : X.N.Nodup) (hi : X.N[n]? = some y := by rfl) (hx : Loc X.env.scope y := by first | exact Or.inl rfl | exact Or.inr rfl)
    (hs : swapsWith e (some (.Name y pos')) pos.line X.env = pure false := by rfl) (hf : X.fn y = true ∨ X.env.scope.names.lookup y = some .local := by first | exact .inl rfl | exact .inr rfl) : RB X (.Assign [.Name y pos'] e pos :: rest) D σ H :=
  rb_setR n (h H (Same.refl _) _ fun p xs H1 s h1 hx' => k p xs H1 s h1 hx') hN hi hx hs hf
end
end Zn

set_option Elab.async false
set_option linter.all false
set_option maxRecDepth 100000
set_option maxHeartbeats 8000000
namespace Zn
open PySem PySem.Spec PyProof.Rows L2 Dl
/-! k01: _law_made, _law_named, _law_kinds, _law_field, _law_base_due -/
abbrev sLMade : Stmt := top 48
abbrev sLNamed : Stmt := top 49
abbrev sLField : Stmt := top 50
abbrev sLKinds : Stmt := top 51
abbrev sLDue : Stmt := top 52
abbrev mdN : List Str := ["_law_thing_here", "_law_found"]
theorem scLMade : FnScope mdN ["_law_thing_here"] (defScope sLMade) := ⟨rfl, rfl, rfl, by decide +kernel, rfl, by decide +kernel, by decide +kernel⟩
theorem scLNamed : FnScope mdN ["_law_thing_here"] (defScope sLNamed) := ⟨rfl, rfl, rfl, by decide +kernel, rfl, by decide +kernel, by decide +kernel⟩
theorem scLField : FnScope ["_law_e"] ["_law_e"] (defScope sLField) := ⟨rfl, rfl, rfl, by decide +kernel, rfl, by decide +kernel, by decide +kernel⟩
theorem scLKinds : FnScope ["_law_e", "_law_found"] ["_law_e"] (defScope sLKinds) := ⟨rfl, rfl, rfl, by decide +kernel, rfl, by decide +kernel, by decide +kernel⟩
theorem scLDue : FnScope ["_law_at"] ["_law_at"] (defScope sLDue) := ⟨rfl, rfl, rfl, by decide +kernel, rfl, by decide +kernel, by decide +kernel⟩
def spMadeN (cs : Nat → Addr) (n : Nat) : Sp := fun vs H Q _ => ∃ v, vs = [v] ∧ ∀ p xs H1, Same H H1 → H1 p = some (.lst xs) → ExA cs v H1 (List.range n) xs → Q (.ref p) H1
def kdsD (i : Nat) : PyData := .list ((List.range 29).map fun j => PyData.bool (decide (i = j)))
def spKinds (K : PySem.W.Frag) (cs : Nat → Addr) : Sp := fun vs H Q _ => ∃ x i, vs = [x] ∧ i < 29 ∧ TyV K H x (.ref (cs i)) ∧ ∀ v H1, Same H H1 → Dq K (hid [] H1) v (kdsD i) → Q v H1
def spField (cs : Nat → Addr) : Sp := fun vs H Q _ => ∃ v x i, vs = [x] ∧ i < 27 ∧ Ex1 cs v i H x ∧ ∀ H1, Same H H1 → Q v H1
def spDue3 (K : PySem.W.Frag) : Sp := fun vs H Q _ => ∃ i : Nat, vs = [.int (i : Int)] ∧ ∀ v H1, Same H H1 → Dq K (hid [] H1) v (.list [.bool (decide (i < 21)), .bool (decide (21 ≤ i) && decide (i < 25)), .bool (decide (25 ≤ i))]) → Q v H1
theorem kitAny_nil {K : PySem.W.Frag} {t : Value} : PySem.W.kitAny K t [] = some false := rfl
theorem kitAny_cons {K : PySem.W.Frag} {t c : Value} {r : List Value} {a b : Bool} (h1 : PySem.W.kitOne K t c = some a) (h2 : PySem.W.kitAny K t r = some b) : PySem.W.kitAny K t (c :: r) = some (a || b) := by
  unfold PySem.W.kitAny
  rw [h1]
  cases a with
  | true => rfl
  | false => exact h2
section
variable {X : Cx} {M : List Addr} {σ : L2.St} {H : Hp} {o e : Expr} {es : List Expr} {v c : V} {cl : List V} {cvs : List Value} {t cv : Value} {b : Bool} {pos p1 p3 : Pos} {kk : Nat}
/-- names of classes, as they stand in a tuple -/
def XCN (X : Cx) (σ : L2.St) (H : Hp) (es : List Expr) (cl : List V) : Prop := ∀ H1, Same H H1 → ∀ Q : List V → Hp → Prop, (∀ H2, Same H1 H2 → Q cl H2) → RA X es σ H1 Q
theorem xcn_nil : XCN X σ H [] [] := fun H1 s Q q => ra_nil (q H1 (Same.refl _))
theorem xcn_cons (ha : XV X σ H e c) (hb : XCN X σ H es cl) (hs : starEach (e :: es) X.env = (false, eval e X.env) :: starEach es X.env := by rfl) : XCN X σ H (e :: es) (c :: cl) := fun H1 s Q q =>
  ra_cons (ha H1 s _ fun H2 s2 => hb H2 (s.trans s2) _ fun H3 s3 => q H3 (s2.trans s3)) hs
theorem xd_isVT (ho : XV X σ H o v) (ty : TyV X.K H v t) (hcl : XCN X σ H es cl) (hz : cl.length ≤ 1000) (hc : ∀ us, Vals cl us → us = cvs) (kit : PySem.W.kitAny X.K t cvs = some b) (hm : X.mg "isinstance" = none) (hg : Gl X "isinstance" := by rfl)
    (he : starEach [o, .Tuple es kk p3] X.env = (false, eval o X.env) :: starEach [.Tuple es kk p3] X.env := by rfl) (he2 : starEach [.Tuple es kk p3] X.env = (false, eval (.Tuple es kk p3) X.env) :: starEach [] X.env := by rfl) (hpl : (backTo pos (starEach [.Tuple es kk p3] X.env)).any (·.1) = false := by rfl) :
    XD X M σ H (.Call (.Name "isinstance" p1) [o, .Tuple es kk p3] [] pos) (.bool b) := fun H1 s Q q =>
  re_B call_isVT (ra_cons (ho H1 s _ fun H2 s2 => ra_1 (re_tupR (hcl H2 (s.trans s2) _ fun H3 s3 => ⟨hz, fun p H4 s4 hp h4 => ⟨v, p, cl, cvs, t, b, rfl, ty.up (((s.trans s2).trans s3).trans s4), h4, hc, kit, q _ H4 ((s2.trans s3).trans s4) (.bl _)⟩⟩)) he2) he) hm (by decide +kernel) hg (by decide) (by decide) he hpl
end
section
variable {P : Program} {w : World} {K : PySem.W.Frag} {mg : Str → Option Value} {base : Heap} {cs : Nat → Addr} {f : Addr} {fd : FuncData}
theorem ok_lmade (Y : Ys P w K mg base cs) (F : Df K mg "_law_made" sLMade ["_law_thing_here"] f fd) : FnOk P w K mg base CX0 3 f fd ["_law_thing_here"] (spMadeN cs 29) := by
  refine F.F.ok scLMade (fun vs H Q E h => ?_) (fun cdv A outer s H vs Q E hr h => ?_)
  · obtain ⟨v, rfl, _⟩ := h; rfl
  · obtain ⟨v, rfl, q⟩ := h
    show RB (cxOf CX0 P w K mg base mdN "_law_made" (defScope sLMade) f cdv A outer s H E).nox (defBody sLMade) _ [some v, none] H
    obtain ⟨f0, d0, z0, k0⟩ := Y.y0
    obtain ⟨f1, d1, z1, k1⟩ := Y.y1
    obtain ⟨f2, d2, z2, k2⟩ := Y.y2
    obtain ⟨f3, d3, z3, k3⟩ := Y.y3
    obtain ⟨f4, d4, z4, k4⟩ := Y.y4
    obtain ⟨f5, d5, z5, k5⟩ := Y.y5
    obtain ⟨f6, d6, z6, k6⟩ := Y.y6
    obtain ⟨f7, d7, z7, k7⟩ := Y.y7
    obtain ⟨f8, d8, z8, k8⟩ := Y.y8
    obtain ⟨f9, d9, z9, k9⟩ := Y.y9
    obtain ⟨f10, d10, z10, k10⟩ := Y.y10
    obtain ⟨f11, d11, z11, k11⟩ := Y.y11
    obtain ⟨f12, d12, z12, k12⟩ := Y.y12
    obtain ⟨f13, d13, z13, k13⟩ := Y.y13
    obtain ⟨f14, d14, z14, k14⟩ := Y.y14
    obtain ⟨f15, d15, z15, k15⟩ := Y.y15
    obtain ⟨f16, d16, z16, k16⟩ := Y.y16
    obtain ⟨f17, d17, z17, k17⟩ := Y.y17
    obtain ⟨f18, d18, z18, k18⟩ := Y.y18
    obtain ⟨f19, d19, z19, k19⟩ := Y.y19
    obtain ⟨f20, d20, z20, k20⟩ := Y.y20
    obtain ⟨f21, d21, z21, k21⟩ := Y.y21
    obtain ⟨f22, d22, z22, k22⟩ := Y.y22
    obtain ⟨f23, d23, z23, k23⟩ := Y.y23
    obtain ⟨f24, d24, z24, k24⟩ := Y.y24
    obtain ⟨f25, d25, z25, k25⟩ := Y.y25
    obtain ⟨f26, d26, z26, k26⟩ := Y.y26
    refine rb_setEX 1 (cs := cs) (v := v) (xex_lst (cs := cs) (v := v) (xel_cons (xe_pos (i := 0) z0 (by decide) hr (xv_name 0 rfl)) (xel_cons (xe_pos (i := 1) z1 (by decide) hr (xv_name 0 rfl)) (xel_cons (xe_pos (i := 2) z2 (by decide) hr (xv_name 0 rfl)) (xel_cons (xe_pos (i := 3) z3 (by decide) hr (xv_name 0 rfl)) (xel_nil)))))) (fun p0 l0 H0 s0 h0 x0 => ?_) scLMade.nd
    refine rb_setEX 1 (cs := cs) (v := v) (xex_cat (xex_name (xv_name 1 rfl) h0 x0) (xex_lst (cs := cs) (v := v) (xel_cons (xe_pos (i := 4) z4 (by decide) hr (xv_name 0 rfl)) (xel_cons (xe_pos (i := 5) z5 (by decide) hr (xv_name 0 rfl)) (xel_cons (xe_pos (i := 6) z6 (by decide) hr (xv_name 0 rfl)) (xel_cons (xe_pos (i := 7) z7 (by decide) hr (xv_name 0 rfl)) (xel_nil))))))) (fun p1 l1 H1 s1 h1 x1 => ?_) scLMade.nd
    refine rb_setEX 1 (cs := cs) (v := v) (xex_cat (xex_name (xv_name 1 rfl) h1 x1) (xex_lst (cs := cs) (v := v) (xel_cons (xe_pos (i := 8) z8 (by decide) hr (xv_name 0 rfl)) (xel_cons (xe_pos (i := 9) z9 (by decide) hr (xv_name 0 rfl)) (xel_cons (xe_pos (i := 10) z10 (by decide) hr (xv_name 0 rfl)) (xel_cons (xe_pos (i := 11) z11 (by decide) hr (xv_name 0 rfl)) (xel_nil))))))) (fun p2 l2 H2 s2 h2 x2 => ?_) scLMade.nd
    refine rb_setEX 1 (cs := cs) (v := v) (xex_cat (xex_name (xv_name 1 rfl) h2 x2) (xex_lst (cs := cs) (v := v) (xel_cons (xe_pos (i := 12) z12 (by decide) hr (xv_name 0 rfl)) (xel_cons (xe_pos (i := 13) z13 (by decide) hr (xv_name 0 rfl)) (xel_cons (xe_pos (i := 14) z14 (by decide) hr (xv_name 0 rfl)) (xel_cons (xe_pos (i := 15) z15 (by decide) hr (xv_name 0 rfl)) (xel_nil))))))) (fun p3 l3 H3 s3 h3 x3 => ?_) scLMade.nd
    refine rb_setEX 1 (cs := cs) (v := v) (xex_cat (xex_name (xv_name 1 rfl) h3 x3) (xex_lst (cs := cs) (v := v) (xel_cons (xe_pos (i := 16) z16 (by decide) hr (xv_name 0 rfl)) (xel_cons (xe_pos (i := 17) z17 (by decide) hr (xv_name 0 rfl)) (xel_cons (xe_pos (i := 18) z18 (by decide) hr (xv_name 0 rfl)) (xel_cons (xe_pos (i := 19) z19 (by decide) hr (xv_name 0 rfl)) (xel_cons (xe_pos (i := 20) z20 (by decide) hr (xv_name 0 rfl)) (xel_nil)))))))) (fun p4 l4 H4 s4 h4 x4 => ?_) scLMade.nd
    refine rb_setEX 1 (cs := cs) (v := v) (xex_cat (xex_name (xv_name 1 rfl) h4 x4) (xex_lst (cs := cs) (v := v) (xel_cons (xe_pos (i := 21) z21 (by decide) hr (xv_name 0 rfl)) (xel_cons (xe_pos (i := 22) z22 (by decide) hr (xv_name 0 rfl)) (xel_cons (xe_pos (i := 23) z23 (by decide) hr (xv_name 0 rfl)) (xel_cons (xe_pos (i := 24) z24 (by decide) hr (xv_name 0 rfl)) (xel_cons (xe_pos (i := 25) z25 (by decide) hr (xv_name 0 rfl)) (xel_nil)))))))) (fun p5 l5 H5 s5 h5 x5 => ?_) scLMade.nd
    refine rb_setEX 1 (cs := cs) (v := v) (xex_cat (xex_name (xv_name 1 rfl) h5 x5) (xex_lst (cs := cs) (v := v) (xel_cons (xe_pos (i := 26) z26 (by decide) hr (xv_name 0 rfl)) (xel_cons (xe_none (i := 27) Y.y27 (by decide) (by decide)) (xel_cons (xe_none (i := 28) Y.y28 (by decide) (by decide)) (xel_nil)))))) (fun p6 l6 H6 s6 h6 x6 => ?_) scLMade.nd
    exact rb_retR (XV.go (xv_name 1 rfl) fun Hz sz => q p6 l6 Hz (((((((s0.trans s1).trans s2).trans s3).trans s4).trans s5).trans s6).trans sz) (sz _ _ h6) (x6.up sz))
theorem ok_lnamed (Y : Ys P w K mg base cs) (F : Df K mg "_law_named" sLNamed ["_law_thing_here"] f fd) : FnOk P w K mg base CX0 3 f fd ["_law_thing_here"] (spMadeN cs 27) := by
  refine F.F.ok scLNamed (fun vs H Q E h => ?_) (fun cdv A outer s H vs Q E hr h => ?_)
  · obtain ⟨v, rfl, _⟩ := h; rfl
  · obtain ⟨v, rfl, q⟩ := h
    show RB (cxOf CX0 P w K mg base mdN "_law_named" (defScope sLNamed) f cdv A outer s H E).nox (defBody sLNamed) _ [some v, none] H
    obtain ⟨f0, d0, z0, k0⟩ := Y.y0
    obtain ⟨f1, d1, z1, k1⟩ := Y.y1
    obtain ⟨f2, d2, z2, k2⟩ := Y.y2
    obtain ⟨f3, d3, z3, k3⟩ := Y.y3
    obtain ⟨f4, d4, z4, k4⟩ := Y.y4
    obtain ⟨f5, d5, z5, k5⟩ := Y.y5
    obtain ⟨f6, d6, z6, k6⟩ := Y.y6
    obtain ⟨f7, d7, z7, k7⟩ := Y.y7
    obtain ⟨f8, d8, z8, k8⟩ := Y.y8
    obtain ⟨f9, d9, z9, k9⟩ := Y.y9
    obtain ⟨f10, d10, z10, k10⟩ := Y.y10
    obtain ⟨f11, d11, z11, k11⟩ := Y.y11
    obtain ⟨f12, d12, z12, k12⟩ := Y.y12
    obtain ⟨f13, d13, z13, k13⟩ := Y.y13
    obtain ⟨f14, d14, z14, k14⟩ := Y.y14
    obtain ⟨f15, d15, z15, k15⟩ := Y.y15
    obtain ⟨f16, d16, z16, k16⟩ := Y.y16
    obtain ⟨f17, d17, z17, k17⟩ := Y.y17
    obtain ⟨f18, d18, z18, k18⟩ := Y.y18
    obtain ⟨f19, d19, z19, k19⟩ := Y.y19
    obtain ⟨f20, d20, z20, k20⟩ := Y.y20
    obtain ⟨f21, d21, z21, k21⟩ := Y.y21
    obtain ⟨f22, d22, z22, k22⟩ := Y.y22
    obtain ⟨f23, d23, z23, k23⟩ := Y.y23
    obtain ⟨f24, d24, z24, k24⟩ := Y.y24
    obtain ⟨f25, d25, z25, k25⟩ := Y.y25
    obtain ⟨f26, d26, z26, k26⟩ := Y.y26
    refine rb_setEX 1 (cs := cs) (v := v) (xex_lst (cs := cs) (v := v) (xel_cons (xe_kw (i := 0) z0 k0 (by decide) hr (xv_name 0 rfl)) (xel_cons (xe_kw (i := 1) z1 k1 (by decide) hr (xv_name 0 rfl)) (xel_cons (xe_kw (i := 2) z2 k2 (by decide) hr (xv_name 0 rfl)) (xel_nil))))) (fun p0 l0 H0 s0 h0 x0 => ?_) scLNamed.nd
    refine rb_setEX 1 (cs := cs) (v := v) (xex_cat (xex_name (xv_name 1 rfl) h0 x0) (xex_lst (cs := cs) (v := v) (xel_cons (xe_kw (i := 3) z3 k3 (by decide) hr (xv_name 0 rfl)) (xel_cons (xe_kw (i := 4) z4 k4 (by decide) hr (xv_name 0 rfl)) (xel_cons (xe_kw (i := 5) z5 k5 (by decide) hr (xv_name 0 rfl)) (xel_nil)))))) (fun p1 l1 H1 s1 h1 x1 => ?_) scLNamed.nd
    refine rb_setEX 1 (cs := cs) (v := v) (xex_cat (xex_name (xv_name 1 rfl) h1 x1) (xex_lst (cs := cs) (v := v) (xel_cons (xe_kw (i := 6) z6 k6 (by decide) hr (xv_name 0 rfl)) (xel_cons (xe_kw (i := 7) z7 k7 (by decide) hr (xv_name 0 rfl)) (xel_cons (xe_kw (i := 8) z8 k8 (by decide) hr (xv_name 0 rfl)) (xel_nil)))))) (fun p2 l2 H2 s2 h2 x2 => ?_) scLNamed.nd
    refine rb_setEX 1 (cs := cs) (v := v) (xex_cat (xex_name (xv_name 1 rfl) h2 x2) (xex_lst (cs := cs) (v := v) (xel_cons (xe_kw (i := 9) z9 k9 (by decide) hr (xv_name 0 rfl)) (xel_cons (xe_kw (i := 10) z10 k10 (by decide) hr (xv_name 0 rfl)) (xel_cons (xe_kw (i := 11) z11 k11 (by decide) hr (xv_name 0 rfl)) (xel_nil)))))) (fun p3 l3 H3 s3 h3 x3 => ?_) scLNamed.nd
    refine rb_setEX 1 (cs := cs) (v := v) (xex_cat (xex_name (xv_name 1 rfl) h3 x3) (xex_lst (cs := cs) (v := v) (xel_cons (xe_kw (i := 12) z12 k12 (by decide) hr (xv_name 0 rfl)) (xel_cons (xe_kw (i := 13) z13 k13 (by decide) hr (xv_name 0 rfl)) (xel_cons (xe_kw (i := 14) z14 k14 (by decide) hr (xv_name 0 rfl)) (xel_nil)))))) (fun p4 l4 H4 s4 h4 x4 => ?_) scLNamed.nd
    refine rb_setEX 1 (cs := cs) (v := v) (xex_cat (xex_name (xv_name 1 rfl) h4 x4) (xex_lst (cs := cs) (v := v) (xel_cons (xe_kw (i := 15) z15 k15 (by decide) hr (xv_name 0 rfl)) (xel_cons (xe_kw (i := 16) z16 k16 (by decide) hr (xv_name 0 rfl)) (xel_cons (xe_kw (i := 17) z17 k17 (by decide) hr (xv_name 0 rfl)) (xel_nil)))))) (fun p5 l5 H5 s5 h5 x5 => ?_) scLNamed.nd
    refine rb_setEX 1 (cs := cs) (v := v) (xex_cat (xex_name (xv_name 1 rfl) h5 x5) (xex_lst (cs := cs) (v := v) (xel_cons (xe_kw (i := 18) z18 k18 (by decide) hr (xv_name 0 rfl)) (xel_cons (xe_kw (i := 19) z19 k19 (by decide) hr (xv_name 0 rfl)) (xel_cons (xe_kw (i := 20) z20 k20 (by decide) hr (xv_name 0 rfl)) (xel_nil)))))) (fun p6 l6 H6 s6 h6 x6 => ?_) scLNamed.nd
    refine rb_setEX 1 (cs := cs) (v := v) (xex_cat (xex_name (xv_name 1 rfl) h6 x6) (xex_lst (cs := cs) (v := v) (xel_cons (xe_kw (i := 21) z21 k21 (by decide) hr (xv_name 0 rfl)) (xel_cons (xe_kw (i := 22) z22 k22 (by decide) hr (xv_name 0 rfl)) (xel_cons (xe_kw (i := 23) z23 k23 (by decide) hr (xv_name 0 rfl)) (xel_cons (xe_kw (i := 24) z24 k24 (by decide) hr (xv_name 0 rfl)) (xel_nil))))))) (fun p7 l7 H7 s7 h7 x7 => ?_) scLNamed.nd
    refine rb_setEX 1 (cs := cs) (v := v) (xex_cat (xex_name (xv_name 1 rfl) h7 x7) (xex_lst (cs := cs) (v := v) (xel_cons (xe_kw (i := 25) z25 k25 (by decide) hr (xv_name 0 rfl)) (xel_cons (xe_kw (i := 26) z26 k26 (by decide) hr (xv_name 0 rfl)) (xel_nil))))) (fun p8 l8 H8 s8 h8 x8 => ?_) scLNamed.nd
    exact rb_retR (XV.go (xv_name 1 rfl) fun Hz sz => q p8 l8 Hz (((((((((s0.trans s1).trans s2).trans s3).trans s4).trans s5).trans s6).trans s7).trans s8).trans sz) (sz _ _ h8) (x8.up sz))
theorem ok_lkinds (T : Nm mg) (Y : Ys P w K mg base cs) (F : Df K mg "_law_kinds" sLKinds ["_law_e"] f fd) : FnOk P w K mg base CX0 1 f fd ["_law_e"] (spKinds K cs) := by
  refine F.F.ok scLKinds (fun vs H Q E h => ?_) (fun cdv A outer s H vs Q E hr h => ?_)
  · obtain ⟨x, i, rfl, _⟩ := h; rfl
  · obtain ⟨x, i, rfl, hi, ty, q⟩ := h
    show RB (cxOf CX0 P w K mg base ["_law_e", "_law_found"] "_law_kinds" (defScope sLKinds) f cdv A outer s H E).nox (defBody sLKinds) _ [some x, none] H
    refine rb_setL 1 (M := []) (xl_lst (M := []) Live.nil (xa_cons (xd_isV (xv_name 0 rfl) ty (xv_glob (v := .ref (cs 0)) (show mg "InvalidPart" = some (.ref (cs 0)) from Y.g 0 (by decide)) rfl) (fun u r => r) (Y.kit i 0 hi (by decide)) T.isi) (xa_cons (xd_isV (xv_name 0 rfl) ty (xv_glob (v := .ref (cs 1)) (show mg "InvalidInteger" = some (.ref (cs 1)) from Y.g 1 (by decide)) rfl) (fun u r => r) (Y.kit i 1 hi (by decide)) T.isi) (xa_cons (xd_isV (xv_name 0 rfl) ty (xv_glob (v := .ref (cs 2)) (show mg "InvalidName" = some (.ref (cs 2)) from Y.g 2 (by decide)) rfl) (fun u r => r) (Y.kit i 2 hi (by decide)) T.isi) (xa_nil))))) (fun p0 l0 H0 s0 n0 h0 x0 => ?_) scLKinds.nd
    have d0 : Dq K (hid [] H0) (.ref p0) (.list ([PyData.bool (decide (i = 0)), PyData.bool (decide (i = 1)), PyData.bool (decide (i = 2))])) := .lst (by rw [hid_nil]; exact h0) x0
    have t0 := ty.up s0
    refine rb_setL 1 (M := []) (xl_cat Live.nil (xd_name 1 rfl (d0)) (XL.dd (xl_lst (M := []) Live.nil (xa_cons (xd_isV (xv_name 0 rfl) t0 (xv_glob (v := .ref (cs 3)) (show mg "InvalidTime" = some (.ref (cs 3)) from Y.g 3 (by decide)) rfl) (fun u r => r) (Y.kit i 3 hi (by decide)) T.isi) (xa_cons (xd_isV (xv_name 0 rfl) t0 (xv_glob (v := .ref (cs 4)) (show mg "InvalidText" = some (.ref (cs 4)) from Y.g 4 (by decide)) rfl) (fun u r => r) (Y.kit i 4 hi (by decide)) T.isi) (xa_cons (xd_isV (xv_name 0 rfl) t0 (xv_glob (v := .ref (cs 5)) (show mg "InvalidLine" = some (.ref (cs 5)) from Y.g 5 (by decide)) rfl) (fun u r => r) (Y.kit i 5 hi (by decide)) T.isi) (xa_nil))))) Live.nil) (by simp)) (fun p1 l1 H1 s1 n1 h1 x1 => ?_) scLKinds.nd
    have d1 : Dq K (hid [] H1) (.ref p1) (.list ([PyData.bool (decide (i = 0)), PyData.bool (decide (i = 1)), PyData.bool (decide (i = 2))] ++ [PyData.bool (decide (i = 3)), PyData.bool (decide (i = 4)), PyData.bool (decide (i = 5))])) := .lst (by rw [hid_nil]; exact h1) x1
    have t1 := t0.up s1
    refine rb_setL 1 (M := []) (xl_cat Live.nil (xd_name 1 rfl (d1)) (XL.dd (xl_lst (M := []) Live.nil (xa_cons (xd_isV (xv_name 0 rfl) t1 (xv_glob (v := .ref (cs 6)) (show mg "InvalidBound" = some (.ref (cs 6)) from Y.g 6 (by decide)) rfl) (fun u r => r) (Y.kit i 6 hi (by decide)) T.isi) (xa_cons (xd_isV (xv_name 0 rfl) t1 (xv_glob (v := .ref (cs 7)) (show mg "InvalidValues" = some (.ref (cs 7)) from Y.g 7 (by decide)) rfl) (fun u r => r) (Y.kit i 7 hi (by decide)) T.isi) (xa_cons (xd_isV (xv_name 0 rfl) t1 (xv_glob (v := .ref (cs 8)) (show mg "InvalidCase" = some (.ref (cs 8)) from Y.g 8 (by decide)) rfl) (fun u r => r) (Y.kit i 8 hi (by decide)) T.isi) (xa_nil))))) Live.nil) (by simp)) (fun p2 l2 H2 s2 n2 h2 x2 => ?_) scLKinds.nd
    have d2 : Dq K (hid [] H2) (.ref p2) (.list ([PyData.bool (decide (i = 0)), PyData.bool (decide (i = 1)), PyData.bool (decide (i = 2))] ++ [PyData.bool (decide (i = 3)), PyData.bool (decide (i = 4)), PyData.bool (decide (i = 5))] ++ [PyData.bool (decide (i = 6)), PyData.bool (decide (i = 7)), PyData.bool (decide (i = 8))])) := .lst (by rw [hid_nil]; exact h2) x2
    have t2 := t1.up s2
    refine rb_setL 1 (M := []) (xl_cat Live.nil (xd_name 1 rfl (d2)) (XL.dd (xl_lst (M := []) Live.nil (xa_cons (xd_isV (xv_name 0 rfl) t2 (xv_glob (v := .ref (cs 9)) (show mg "InvalidCommand" = some (.ref (cs 9)) from Y.g 9 (by decide)) rfl) (fun u r => r) (Y.kit i 9 hi (by decide)) T.isi) (xa_cons (xd_isV (xv_name 0 rfl) t2 (xv_glob (v := .ref (cs 10)) (show mg "InvalidChange" = some (.ref (cs 10)) from Y.g 10 (by decide)) rfl) (fun u r => r) (Y.kit i 10 hi (by decide)) T.isi) (xa_cons (xd_isV (xv_name 0 rfl) t2 (xv_glob (v := .ref (cs 11)) (show mg "InvalidJump" = some (.ref (cs 11)) from Y.g 11 (by decide)) rfl) (fun u r => r) (Y.kit i 11 hi (by decide)) T.isi) (xa_nil))))) Live.nil) (by simp)) (fun p3 l3 H3 s3 n3 h3 x3 => ?_) scLKinds.nd
    have d3 : Dq K (hid [] H3) (.ref p3) (.list ([PyData.bool (decide (i = 0)), PyData.bool (decide (i = 1)), PyData.bool (decide (i = 2))] ++ [PyData.bool (decide (i = 3)), PyData.bool (decide (i = 4)), PyData.bool (decide (i = 5))] ++ [PyData.bool (decide (i = 6)), PyData.bool (decide (i = 7)), PyData.bool (decide (i = 8))] ++ [PyData.bool (decide (i = 9)), PyData.bool (decide (i = 10)), PyData.bool (decide (i = 11))])) := .lst (by rw [hid_nil]; exact h3) x3
    have t3 := t2.up s3
    refine rb_setL 1 (M := []) (xl_cat Live.nil (xd_name 1 rfl (d3)) (XL.dd (xl_lst (M := []) Live.nil (xa_cons (xd_isV (xv_name 0 rfl) t3 (xv_glob (v := .ref (cs 12)) (show mg "InvalidRule" = some (.ref (cs 12)) from Y.g 12 (by decide)) rfl) (fun u r => r) (Y.kit i 12 hi (by decide)) T.isi) (xa_cons (xd_isV (xv_name 0 rfl) t3 (xv_glob (v := .ref (cs 13)) (show mg "InvalidLog" = some (.ref (cs 13)) from Y.g 13 (by decide)) rfl) (fun u r => r) (Y.kit i 13 hi (by decide)) T.isi) (xa_cons (xd_isV (xv_name 0 rfl) t3 (xv_glob (v := .ref (cs 14)) (show mg "InvalidEntry" = some (.ref (cs 14)) from Y.g 14 (by decide)) rfl) (fun u r => r) (Y.kit i 14 hi (by decide)) T.isi) (xa_nil))))) Live.nil) (by simp)) (fun p4 l4 H4 s4 n4 h4 x4 => ?_) scLKinds.nd
    have d4 : Dq K (hid [] H4) (.ref p4) (.list ([PyData.bool (decide (i = 0)), PyData.bool (decide (i = 1)), PyData.bool (decide (i = 2))] ++ [PyData.bool (decide (i = 3)), PyData.bool (decide (i = 4)), PyData.bool (decide (i = 5))] ++ [PyData.bool (decide (i = 6)), PyData.bool (decide (i = 7)), PyData.bool (decide (i = 8))] ++ [PyData.bool (decide (i = 9)), PyData.bool (decide (i = 10)), PyData.bool (decide (i = 11))] ++ [PyData.bool (decide (i = 12)), PyData.bool (decide (i = 13)), PyData.bool (decide (i = 14))])) := .lst (by rw [hid_nil]; exact h4) x4
    have t4 := t3.up s4
    refine rb_setL 1 (M := []) (xl_cat Live.nil (xd_name 1 rfl (d4)) (XL.dd (xl_lst (M := []) Live.nil (xa_cons (xd_isV (xv_name 0 rfl) t4 (xv_glob (v := .ref (cs 15)) (show mg "InvalidWord" = some (.ref (cs 15)) from Y.g 15 (by decide)) rfl) (fun u r => r) (Y.kit i 15 hi (by decide)) T.isi) (xa_cons (xd_isV (xv_name 0 rfl) t4 (xv_glob (v := .ref (cs 16)) (show mg "Duplicate" = some (.ref (cs 16)) from Y.g 16 (by decide)) rfl) (fun u r => r) (Y.kit i 16 hi (by decide)) T.isi) (xa_cons (xd_isV (xv_name 0 rfl) t4 (xv_glob (v := .ref (cs 17)) (show mg "NotZone" = some (.ref (cs 17)) from Y.g 17 (by decide)) rfl) (fun u r => r) (Y.kit i 17 hi (by decide)) T.isi) (xa_nil))))) Live.nil) (by simp)) (fun p5 l5 H5 s5 n5 h5 x5 => ?_) scLKinds.nd
    have d5 : Dq K (hid [] H5) (.ref p5) (.list ([PyData.bool (decide (i = 0)), PyData.bool (decide (i = 1)), PyData.bool (decide (i = 2))] ++ [PyData.bool (decide (i = 3)), PyData.bool (decide (i = 4)), PyData.bool (decide (i = 5))] ++ [PyData.bool (decide (i = 6)), PyData.bool (decide (i = 7)), PyData.bool (decide (i = 8))] ++ [PyData.bool (decide (i = 9)), PyData.bool (decide (i = 10)), PyData.bool (decide (i = 11))] ++ [PyData.bool (decide (i = 12)), PyData.bool (decide (i = 13)), PyData.bool (decide (i = 14))] ++ [PyData.bool (decide (i = 15)), PyData.bool (decide (i = 16)), PyData.bool (decide (i = 17))])) := .lst (by rw [hid_nil]; exact h5) x5
    have t5 := t4.up s5
    refine rb_setL 1 (M := []) (xl_cat Live.nil (xd_name 1 rfl (d5)) (XL.dd (xl_lst (M := []) Live.nil (xa_cons (xd_isV (xv_name 0 rfl) t5 (xv_glob (v := .ref (cs 18)) (show mg "NotKind" = some (.ref (cs 18)) from Y.g 18 (by decide)) rfl) (fun u r => r) (Y.kit i 18 hi (by decide)) T.isi) (xa_cons (xd_isV (xv_name 0 rfl) t5 (xv_glob (v := .ref (cs 19)) (show mg "NotProgram" = some (.ref (cs 19)) from Y.g 19 (by decide)) rfl) (fun u r => r) (Y.kit i 19 hi (by decide)) T.isi) (xa_cons (xd_isV (xv_name 0 rfl) t5 (xv_glob (v := .ref (cs 20)) (show mg "UnlikeStarts" = some (.ref (cs 20)) from Y.g 20 (by decide)) rfl) (fun u r => r) (Y.kit i 20 hi (by decide)) T.isi) (xa_nil))))) Live.nil) (by simp)) (fun p6 l6 H6 s6 n6 h6 x6 => ?_) scLKinds.nd
    have d6 : Dq K (hid [] H6) (.ref p6) (.list ([PyData.bool (decide (i = 0)), PyData.bool (decide (i = 1)), PyData.bool (decide (i = 2))] ++ [PyData.bool (decide (i = 3)), PyData.bool (decide (i = 4)), PyData.bool (decide (i = 5))] ++ [PyData.bool (decide (i = 6)), PyData.bool (decide (i = 7)), PyData.bool (decide (i = 8))] ++ [PyData.bool (decide (i = 9)), PyData.bool (decide (i = 10)), PyData.bool (decide (i = 11))] ++ [PyData.bool (decide (i = 12)), PyData.bool (decide (i = 13)), PyData.bool (decide (i = 14))] ++ [PyData.bool (decide (i = 15)), PyData.bool (decide (i = 16)), PyData.bool (decide (i = 17))] ++ [PyData.bool (decide (i = 18)), PyData.bool (decide (i = 19)), PyData.bool (decide (i = 20))])) := .lst (by rw [hid_nil]; exact h6) x6
    have t6 := t5.up s6
    refine rb_setL 1 (M := []) (xl_cat Live.nil (xd_name 1 rfl (d6)) (XL.dd (xl_lst (M := []) Live.nil (xa_cons (xd_isV (xv_name 0 rfl) t6 (xv_glob (v := .ref (cs 21)) (show mg "NoAnswer" = some (.ref (cs 21)) from Y.g 21 (by decide)) rfl) (fun u r => r) (Y.kit i 21 hi (by decide)) T.isi) (xa_cons (xd_isV (xv_name 0 rfl) t6 (xv_glob (v := .ref (cs 22)) (show mg "UnknownName" = some (.ref (cs 22)) from Y.g 22 (by decide)) rfl) (fun u r => r) (Y.kit i 22 hi (by decide)) T.isi) (xa_cons (xd_isV (xv_name 0 rfl) t6 (xv_glob (v := .ref (cs 23)) (show mg "NoPlace" = some (.ref (cs 23)) from Y.g 23 (by decide)) rfl) (fun u r => r) (Y.kit i 23 hi (by decide)) T.isi) (xa_nil))))) Live.nil) (by simp)) (fun p7 l7 H7 s7 n7 h7 x7 => ?_) scLKinds.nd
    have d7 : Dq K (hid [] H7) (.ref p7) (.list ([PyData.bool (decide (i = 0)), PyData.bool (decide (i = 1)), PyData.bool (decide (i = 2))] ++ [PyData.bool (decide (i = 3)), PyData.bool (decide (i = 4)), PyData.bool (decide (i = 5))] ++ [PyData.bool (decide (i = 6)), PyData.bool (decide (i = 7)), PyData.bool (decide (i = 8))] ++ [PyData.bool (decide (i = 9)), PyData.bool (decide (i = 10)), PyData.bool (decide (i = 11))] ++ [PyData.bool (decide (i = 12)), PyData.bool (decide (i = 13)), PyData.bool (decide (i = 14))] ++ [PyData.bool (decide (i = 15)), PyData.bool (decide (i = 16)), PyData.bool (decide (i = 17))] ++ [PyData.bool (decide (i = 18)), PyData.bool (decide (i = 19)), PyData.bool (decide (i = 20))] ++ [PyData.bool (decide (i = 21)), PyData.bool (decide (i = 22)), PyData.bool (decide (i = 23))])) := .lst (by rw [hid_nil]; exact h7) x7
    have t7 := t6.up s7
    refine rb_setL 1 (M := []) (xl_cat Live.nil (xd_name 1 rfl (d7)) (XL.dd (xl_lst (M := []) Live.nil (xa_cons (xd_isV (xv_name 0 rfl) t7 (xv_glob (v := .ref (cs 24)) (show mg "NoLine" = some (.ref (cs 24)) from Y.g 24 (by decide)) rfl) (fun u r => r) (Y.kit i 24 hi (by decide)) T.isi) (xa_cons (xd_isV (xv_name 0 rfl) t7 (xv_glob (v := .ref (cs 25)) (show mg "NotStart" = some (.ref (cs 25)) from Y.g 25 (by decide)) rfl) (fun u r => r) (Y.kit i 25 hi (by decide)) T.isi) (xa_cons (xd_isV (xv_name 0 rfl) t7 (xv_glob (v := .ref (cs 26)) (show mg "NotPossible" = some (.ref (cs 26)) from Y.g 26 (by decide)) rfl) (fun u r => r) (Y.kit i 26 hi (by decide)) T.isi) (xa_nil))))) Live.nil) (by simp)) (fun p8 l8 H8 s8 n8 h8 x8 => ?_) scLKinds.nd
    have d8 : Dq K (hid [] H8) (.ref p8) (.list ([PyData.bool (decide (i = 0)), PyData.bool (decide (i = 1)), PyData.bool (decide (i = 2))] ++ [PyData.bool (decide (i = 3)), PyData.bool (decide (i = 4)), PyData.bool (decide (i = 5))] ++ [PyData.bool (decide (i = 6)), PyData.bool (decide (i = 7)), PyData.bool (decide (i = 8))] ++ [PyData.bool (decide (i = 9)), PyData.bool (decide (i = 10)), PyData.bool (decide (i = 11))] ++ [PyData.bool (decide (i = 12)), PyData.bool (decide (i = 13)), PyData.bool (decide (i = 14))] ++ [PyData.bool (decide (i = 15)), PyData.bool (decide (i = 16)), PyData.bool (decide (i = 17))] ++ [PyData.bool (decide (i = 18)), PyData.bool (decide (i = 19)), PyData.bool (decide (i = 20))] ++ [PyData.bool (decide (i = 21)), PyData.bool (decide (i = 22)), PyData.bool (decide (i = 23))] ++ [PyData.bool (decide (i = 24)), PyData.bool (decide (i = 25)), PyData.bool (decide (i = 26))])) := .lst (by rw [hid_nil]; exact h8) x8
    have t8 := t7.up s8
    refine rb_setL 1 (M := []) (xl_cat Live.nil (xd_name 1 rfl (d8)) (XL.dd (xl_lst (M := []) Live.nil (xa_cons (xd_isV (xv_name 0 rfl) t8 (xv_glob (v := .ref (cs 27)) (show mg "NoProgram" = some (.ref (cs 27)) from Y.g 27 (by decide)) rfl) (fun u r => r) (Y.kit i 27 hi (by decide)) T.isi) (xa_cons (xd_isV (xv_name 0 rfl) t8 (xv_glob (v := .ref (cs 28)) (show mg "NothingToUndo" = some (.ref (cs 28)) from Y.g 28 (by decide)) rfl) (fun u r => r) (Y.kit i 28 hi (by decide)) T.isi) (xa_nil)))) Live.nil) (by simp)) (fun p9 l9 H9 s9 n9 h9 x9 => ?_) scLKinds.nd
    have d9 : Dq K (hid [] H9) (.ref p9) (.list ([PyData.bool (decide (i = 0)), PyData.bool (decide (i = 1)), PyData.bool (decide (i = 2))] ++ [PyData.bool (decide (i = 3)), PyData.bool (decide (i = 4)), PyData.bool (decide (i = 5))] ++ [PyData.bool (decide (i = 6)), PyData.bool (decide (i = 7)), PyData.bool (decide (i = 8))] ++ [PyData.bool (decide (i = 9)), PyData.bool (decide (i = 10)), PyData.bool (decide (i = 11))] ++ [PyData.bool (decide (i = 12)), PyData.bool (decide (i = 13)), PyData.bool (decide (i = 14))] ++ [PyData.bool (decide (i = 15)), PyData.bool (decide (i = 16)), PyData.bool (decide (i = 17))] ++ [PyData.bool (decide (i = 18)), PyData.bool (decide (i = 19)), PyData.bool (decide (i = 20))] ++ [PyData.bool (decide (i = 21)), PyData.bool (decide (i = 22)), PyData.bool (decide (i = 23))] ++ [PyData.bool (decide (i = 24)), PyData.bool (decide (i = 25)), PyData.bool (decide (i = 26))] ++ [PyData.bool (decide (i = 27)), PyData.bool (decide (i = 28))])) := .lst (by rw [hid_nil]; exact h9) x9
    have t9 := t8.up s9
    exact rb_ret (M := []) (xd_name 1 rfl d9) fun v Hz sz hv => q v Hz ((((((((((s0.trans s1).trans s2).trans s3).trans s4).trans s5).trans s6).trans s7).trans s8).trans s9).trans sz) hv
end
end Zn

set_option Elab.async false
set_option linter.all false
set_option maxRecDepth 100000
set_option maxHeartbeats 8000000
namespace Zn
open PySem PySem.Spec PyProof.Rows L2 Dl
/-! k01: _law_field, _law_base_due -/
theorem fl_lab : ∀ i : Fin 27, (decide (i.val = 16) || (decide (i.val = 22) || false)) = decide (flN i.val = "label") := by decide +kernel
theorem fl_ix : ∀ i : Fin 27, (decide (i.val = 5) || (decide (i.val = 21) || (decide (i.val = 23) || (decide (i.val = 24) || false)))) = decide (flN i.val = "index") := by decide +kernel
theorem fl_val : ∀ i : Fin 27, flN i.val = "label" ∨ flN i.val = "index" ∨ flN i.val = "value" := by decide +kernel
section
variable {P : Program} {w : World} {K : PySem.W.Frag} {mg : Str → Option Value} {base : Heap} {cs : Nat → Addr} {f : Addr} {fd : FuncData}
theorem vals_refs {a b : Addr} : ∀ us, Vals [V.ref a, V.ref b] us → us = [Value.ref a, .ref b] := fun us h => by
  cases h with
  | cons r1 h => cases h with
    | cons r2 h => cases h; cases r1; cases r2; rfl
theorem vals_refs4 {a b c d : Addr} : ∀ us, Vals [V.ref a, V.ref b, V.ref c, V.ref d] us → us = [Value.ref a, .ref b, .ref c, .ref d] := fun us h => by
  cases h with
  | cons r1 h => cases h with
    | cons r2 h => cases h with
      | cons r3 h => cases h with
        | cons r4 h => cases h; cases r1; cases r2; cases r3; cases r4; rfl
theorem ok_lfield (T : Nm mg) (Y : Ys P w K mg base cs) (F : Df K mg "_law_field" sLField ["_law_e"] f fd) : FnOk P w K mg base CX0 1 f fd ["_law_e"] (spField cs) := by
  refine F.F.ok scLField (fun vs H Q E h => ?_) (fun cdv A outer s H vs Q E hr h => ?_)
  · obtain ⟨v, x, i, rfl, _⟩ := h; rfl
  · obtain ⟨v, x, i, rfl, hi, hx, q⟩ := h
    show RB (cxOf CX0 P w K mg base ["_law_e"] "_law_field" (defScope sLField) f cdv A outer s H E).nox (defBody sLField) _ [some x] H
    have hi29 : i < 29 := by omega
    have g : ∀ {j : Nat} {y : Str}, j < 29 → clN j = y → ∀ {p : Pos}, Gl (cxOf CX0 P w K mg base ["_law_e"] "_law_field" (defScope sLField) f cdv A outer s H E).nox y → (y == ("__debug__" : Str)) = false → ∀ {σ Hx}, XV (cxOf CX0 P w K mg base ["_law_e"] "_law_field" (defScope sLField) f cdv A outer s H E).nox σ Hx (.Name y p) (.ref (cs j)) := fun {j y} hj e {p} hg hd {σ Hx} => xv_glob (v := .ref (cs j)) (by rw [← e]; exact Y.g j hj) rfl hg hd
    have ty := hx.ty Y
    obtain ⟨a, rfl, hx⟩ := hx
    rcases hx with ⟨_, t1, d, ha, hd⟩ | ⟨h1, _, _⟩
    · have no := Y.no i hi
      have xf := (Y.ask i hi29).xf
      have rd : ∀ {n : Str} {p q : Pos} {Hx : Hp}, flN i = n → Same H Hx → XV (cxOf CX0 P w K mg base ["_law_e"] "_law_field" (defScope sLField) f cdv A outer s H E).nox [some (.ref a)] Hx (.Attribute (.Name "_law_e" p) n q) v := fun {n p q Hx} e sx => by
        rw [e] at no hd
        exact xv_xv xf no (xv_name 0 rfl) (sx _ _ ha) (sx _ _ hd) (by simp [List.lookup]) rfl
      have k1 : PySem.W.kitAny K (.ref (cs i)) [.ref (cs 16), .ref (cs 22)] = some (decide (flN i = "label")) := by
        rw [← fl_lab ⟨i, hi⟩]
        exact kitAny_cons (Y.kit i 16 hi29 (by decide)) (kitAny_cons (Y.kit i 22 hi29 (by decide)) rfl)
      have k2 : PySem.W.kitAny K (.ref (cs i)) [.ref (cs 5), .ref (cs 21), .ref (cs 23), .ref (cs 24)] = some (decide (flN i = "index")) := by
        rw [← fl_ix ⟨i, hi⟩]
        exact kitAny_cons (Y.kit i 5 hi29 (by decide)) (kitAny_cons (Y.kit i 21 hi29 (by decide)) (kitAny_cons (Y.kit i 23 hi29 (by decide)) (kitAny_cons (Y.kit i 24 hi29 (by decide)) rfl)))
      refine rb_if (XT.to (xt_val (M := []) (xd_isVT (xv_name 0 rfl) ty (xcn_cons (g (j := 16) (by decide) rfl rfl (by decide)) (xcn_cons (g (j := 22) (by decide) rfl rfl (by decide)) xcn_nil)) (by show 2 ≤ 1000; decide) vals_refs k1 T.isi)) rfl) (fun e H1 s1 => ?_) (fun e H1 s1 => rb_nil ?_)
      · exact rb_retR (XV.go (rd (of_decide_eq_true e) s1) fun H2 s2 => q H2 (s1.trans s2))
      refine rb_if (XT.to (xt_val (M := []) (xd_isVT (xv_name 0 rfl) (ty.up s1) (xcn_cons (g (j := 5) (by decide) rfl rfl (by decide)) (xcn_cons (g (j := 21) (by decide) rfl rfl (by decide)) (xcn_cons (g (j := 23) (by decide) rfl rfl (by decide)) (xcn_cons (g (j := 24) (by decide) rfl rfl (by decide)) xcn_nil)))) (by show 4 ≤ 1000; decide) vals_refs4 k2 T.isi)) rfl) (fun e2 H2 s2 => ?_) (fun e2 H2 s2 => rb_nil ?_)
      · exact rb_retR (XV.go (rd (of_decide_eq_true e2) (s1.trans s2)) fun H3 s3 => q H3 ((s1.trans s2).trans s3))
      have e3 : flN i = "value" := by
        rcases fl_val ⟨i, hi⟩ with z | z | z
        · exact absurd z (of_decide_eq_false e)
        · exact absurd z (of_decide_eq_false e2)
        · exact z
      exact rb_retR (XV.go (rd e3 (s1.trans s2)) fun H3 s3 => q H3 ((s1.trans s2).trans s3))
    · omega
theorem ok_ldue (F : Df K mg "_law_base_due" sLDue ["_law_at"] f fd) : FnOk P w K mg base CX0 1 f fd ["_law_at"] (spDue3 K) := by
  refine F.F.ok scLDue (fun vs H Q E h => ?_) (fun cdv A outer s H vs Q E hr h => ?_)
  · obtain ⟨i, rfl, _⟩ := h; rfl
  · obtain ⟨i, rfl, q⟩ := h
    show RB (cxOf CX0 P w K mg base ["_law_at"] "_law_base_due" (defScope sLDue) f cdv A outer s H E).nox (defBody sLDue) _ [some (.int (i : Int))] H
    have e1 : decide ((i : Int) < 21) = decide (i < 21) := decide_eq_decide.mpr (by omega)
    have e2 : (decide ((21 : Int) ≤ (i : Int)) && decide ((i : Int) < 25)) = (decide (21 ≤ i) && decide (i < 25)) := by
      rw [show decide ((21 : Int) ≤ (i : Int)) = decide (21 ≤ i) from decide_eq_decide.mpr (by omega), show decide ((i : Int) < 25) = decide (i < 25) from decide_eq_decide.mpr (by omega)]
    have e3 : decide ((i : Int) ≥ 25) = decide (25 ≤ i) := decide_eq_decide.mpr (by omega)
    exact rb_ret (M := []) (xd_lst Live.nil (xa_cons (XD.to (xd_cmpI op_lt (xd_name 0 rfl (.int _)) xd_int) (congrArg PyData.bool e1)) (xa_cons (XD.to (xd_chainV op_le op_lt xd_int (xd_name 0 rfl (.int (i : Int))) xd_int) (congrArg PyData.bool e2)) (xa_cons (XD.to (xd_cmpI op_ge (xd_name 0 rfl (.int _)) xd_int) (congrArg PyData.bool e3)) xa_nil)))) fun v H1 s1 hv => q v H1 s1 hv
end
end Zn

set_option Elab.async false
set_option linter.all false
set_option maxRecDepth 100000
set_option maxHeartbeats 4000000
namespace Dl
open PySem PySem.Spec PyProof.Rows L2 PySem.SLx
/-! repr of things: plain ones, exceptions of one whole number, lists, tuples and dicts of such -/
def blT (b : Bool) : Str := if b = true then "True" else "False"
/-- v shows itself as t, d deep, none of the addresses as within another one of its kind -/
def Rp (X : Cx) (H : Hp) (as : List Addr) (d : Nat) (v : V) (t : Str) : Prop := ∀ H1, Same H H1 → ∀ (pins : List (Addr × Obj)) (σ : L2.St) (s : Shared) (u : Value), Inv X pins σ H1 s → RelV v u → ReprK X.prog X.w as s.heap d u t
theorem Rp.up {X : Cx} {H H1 : Hp} {as : List Addr} {d : Nat} {v : V} {t : Str} (h : Rp X H as d v t) (s : Same H H1) : Rp X H1 as d v t := fun H2 s2 => h H2 (s.trans s2)
theorem Rp.more {X : Cx} {H : Hp} {as as' : List Addr} {d d' : Nat} {v : V} {t : Str} (h : Rp X H as d v t) (hs : ∀ b ∈ as, b ∈ as') (hd : d ≤ d') : Rp X H as' d' v t := fun H1 s1 pins σ s u I r => ((h H1 s1 pins σ s u I r).more hs).level_le hd
inductive RpA (X : Cx) (H : Hp) (as : List Addr) (d : Nat) : List V → List Str → Prop
  | nil : RpA X H as d [] []
  | cons {x : V} {t : Str} {xs : List V} {ts : List Str} : Rp X H as d x t → RpA X H as d xs ts → RpA X H as d (x :: xs) (t :: ts)
section
variable {X : Cx} {H : Hp} {as : List Addr} {d : Nat} {a : Addr}
theorem rp_non : Rp X H as d .non "None" := fun _ _ _ _ s _ _ r => by
  obtain rfl := r
  exact ReprK.of_is ReprIs.none as s.heap d
theorem rp_bl {b : Bool} : Rp X H as d (.bl b) (blT b) := fun _ _ _ _ s _ _ r => by
  obtain rfl := r
  exact ReprK.of_is (ReprIs.bool b) as s.heap d
theorem rp_int {n : Int} (hn : n.natAbs.log2 < 1920) : Rp X H as d (.int n) (Str.ofString (toString n)) := fun _ _ _ _ s _ _ r => by
  obtain ⟨t, rfl⟩ := r
  exact ReprK.of_is (ReprIs.int t hn) as s.heap d
theorem rp_str {x : Str} (hx : (reprText x).length ≤ sizeLine) : Rp X H as d (.str x) (reprText x) := fun _ _ _ _ s _ _ r => by
  obtain ⟨t, rfl⟩ := r
  exact ReprK.of_is (ReprIs.str x t hx) as s.heap d
theorem rp_exi {C t1 dx : Addr} {n : Int} {cd : ClassData} (T : XAsk X.K C) (cc : PySem.W.clsIn X.K C = some cd) (hs : PySem.W.findIn X.K (.ref C) "__repr__" = some (some (.builtin "BaseException.__repr__"))) (ha : H a = some (exv a C t1 (some dx))) (ht : H t1 = some (.tup [.int n])) (hn : n.natAbs.log2 < 1920) :
    Rp X H as d (.ref a) (exTxt cd n) := fun H1 s1 pins σ s u I r => by
  obtain rfl : u = Value.ref a := r
  have g := exv_at I.hok (s1 _ _ ha)
  obtain ⟨_, its, rv, ⟨oc, od, oda, osl⟩, gt, c, k, hd⟩ := (show ObjOk X.prog X.w H1 s.heap t1 (.tup [.int n]) from I.hok t1 _ (s1 _ _ ht))
  cases rv with
  | cons r1 rv =>
    cases rv
    obtain ⟨tk, rfl⟩ := r1
    exact (ReprK.excInt ⟨I.kIn, _, _, g, rfl, rfl, rfl⟩ cc ⟨_, k, gt, c, hd⟩ hn hs T.xf.exC).level_le (Nat.zero_le d)
theorem rpa_all {pins : List (Addr × Obj)} {σ : L2.St} {s : Shared} {H1 : Hp} (s1 : Same H H1) (I : Inv X pins σ H1 s) : ∀ {xs : List V} {ts : List Str} {us : List Value}, RpA X H as d xs ts → Vals xs us → ReprAllK X.prog X.w as s.heap d us ts
  | _, _, _, .nil, .nil => .nil
  | _, _, _, .cons h hs, .cons r rs => .cons (h H1 s1 pins σ s _ I r) (rpa_all s1 I hs rs)
theorem all_get {prog : Program} {w : World} {h₀ : Heap} : ∀ {us : List Value} {ts : List Str}, ReprAllK prog w as h₀ d us ts → ∀ (i : Nat) (y : Value), us[i]? = some y → ∃ t, ts[i]? = some t ∧ ReprK prog w as h₀ d y t
  | _, _, .cons h _, 0, _, e => by simp at e; subst e; exact ⟨_, rfl, h⟩
  | _, _, .cons _ hs, i + 1, y, e => by
    obtain ⟨t, h1, h2⟩ := all_get hs i y (by simpa using e)
    exact ⟨t, by simpa using h1, h2⟩
theorem rp_lst {x : V} {xs : List V} {ts : List Str} (ha : H a = some (.lst (x :: xs))) (na : a ∉ as) (h : RpA X H as d (x :: xs) ts) : Rp X H (a :: as) (d + 1) (.ref a) (listText ts) := fun H1 s1 pins σ s u I r => by
  obtain rfl : u = Value.ref a := r
  obtain ⟨_, its, n, rv, g⟩ := (show ObjOk X.prog X.w H1 s.heap a (.lst (x :: xs)) from I.hok a _ (s1 _ _ ha))
  have A := rpa_all s1 I h rv
  cases rv with
  | @cons _ y _ l r1 rv => exact ReprK.list (l := l) g rfl rfl na (by rw [List.size_toArray]; exact A.length_eq) (fun i z e => all_get A i z (by simpa using e))
theorem rp_tup {xs : List V} {ts : List Str} (ha : H a = some (.tup xs)) (na : a ∉ as) (h : RpA X H as d xs ts) : Rp X H (a :: as) (d + 1) (.ref a) (tupleText ts) := fun H1 s1 pins σ s u I r => by
  obtain rfl : u = Value.ref a := r
  obtain ⟨_, its, rv, o, g, c, n, hd⟩ := (show ObjOk X.prog X.w H1 s.heap a (.tup xs) from I.hok a _ (s1 _ _ ha))
  exact ReprK.tuple g c hd na (by rw [List.toList_toArray]; exact rpa_all s1 I h rv)
/-- keys and values of a dict -/
inductive RpE (X : Cx) (H : Hp) (as : List Addr) (d : Nat) : List (Key × V) → List Str → Prop
  | nil : RpE X H as d [] []
  | int {n : Int} {v : V} {t : Str} {kvs : List (Key × V)} {ts : List Str} : n.natAbs.log2 < 1920 → Rp X H as d v t → RpE X H as d kvs ts → RpE X H as d ((.inl n, v) :: kvs) ((Str.ofString (toString n) ++ ": " ++ t) :: ts)
  | str {x : Str} {v : V} {t : Str} {kvs : List (Key × V)} {ts : List Str} : (reprText x).length ≤ sizeLine → Rp X H as d v t → RpE X H as d kvs ts → RpE X H as d ((.inr x, v) :: kvs) ((reprText x ++ ": " ++ t) :: ts)
theorem rpe_all {pins : List (Addr × Obj)} {σ : L2.St} {s : Shared} {H1 : Hp} (s1 : Same H H1) (I : Inv X pins σ H1 s) : ∀ {kvs : List (Key × V)} {ts : List Str} {vs : List (Key × Value)} {es : List DictEntry}, RpE X H as d kvs ts → KV kvs vs → Pairs (mixKind X.prog X.w) es vs → ReprEntriesK X.prog X.w as s.heap d es ts
  | _, _, _, _, .nil, .nil, .nil => .nil
  | _, _, _, _, .int hn hv hs, .cons r rs, .cons (e := e) p1 p2 ps => by
    obtain ⟨e1, r1⟩ := r
    have p1' : keyIs _ e.key = true := p1
    rw [← e1] at p1'
    rcases keyIs_shape p1' with ⟨i, t, h1, h2⟩ | ⟨x, t, h1, h2⟩
    · cases h1
      refine .cons ?_ ?_ (rpe_all s1 I hs rs ps)
      · rw [h2]; exact ReprK.of_is (ReprIs.int t hn) as s.heap d
      · rw [p2]; exact hv H1 s1 pins σ s _ I r1
    · cases h1
  | _, _, _, _, .str hn hv hs, .cons r rs, .cons (e := e) p1 p2 ps => by
    obtain ⟨e1, r1⟩ := r
    have p1' : keyIs _ e.key = true := p1
    rw [← e1] at p1'
    rcases keyIs_shape p1' with ⟨i, t, h1, h2⟩ | ⟨x, t, h1, h2⟩
    · cases h1
    · cases h1
      refine .cons ?_ ?_ (rpe_all s1 I hs rs ps)
      · rw [h2]; exact ReprK.of_is (ReprIs.str _ t hn) as s.heap d
      · rw [p2]; exact hv H1 s1 pins σ s _ I r1
theorem rp_dct {kvs : List (Key × V)} {ts : List Str} (ha : H a = some (.dK kvs)) (na : a ∉ as) (h : RpE X H as d kvs ts) : Rp X H (a :: as) (d + 1) (.ref a) (dictText ts) := fun H1 s1 pins σ s u I r => by
  obtain rfl : u = Value.ref a := r
  obtain ⟨_, sy, vs, kv, o, es, ep, g, c, hd, _, ps, _⟩ := dk_of I.hok (s1 _ _ ha)
  exact ReprK.dict g c.1 hd sy na (rpe_all s1 I h kv ps)
end
/-! repr(e) -/
def Sh (X : Cx) (H : Hp) (v : V) (t : Str) : Prop := ∀ H1, Same H H1 → ∀ (pins : List (Addr × Obj)) (σ : L2.St) (s : Shared) (u : Value) (Q : Value → Shared → Prop), Inv X pins σ H1 s → RelV v u → X.A.guards = some [] → X.A.units + 64 < cLine →
  (∀ h' tk tu, (∀ b o, s.heap.get? b = some o → h'.get? b = some o) → Q (.str t tu) { s with heap := h', toks := tk }) → wpAny (model X.prog X.w) X.A (call (.builtin "repr") [u]) Q X.xe s
theorem Sh.up {X : Cx} {H H1 : Hp} {v : V} {t : Str} (h : Sh X H v t) (s : Same H H1) : Sh X H1 v t := fun H2 s2 => h H2 (s.trans s2)
section
variable {X : Cx} {M : List Addr} {σ : L2.St} {H : Hp} {as : List Addr} {d : Nat} {a : Addr} {e : Expr} {v : V} {t : Str} {p1 p2 : Pos}
theorem sh_non : Sh X H .non "None" := fun _ _ _ _ s _ _ _ r _ _ q => by
  obtain rfl := r
  exact PySem.P.repr_of_none (q s.heap _ _ fun _ _ e => e)
theorem sh_bl {b : Bool} : Sh X H (.bl b) (blT b) := fun _ _ _ _ s _ _ _ r _ _ q => by
  obtain rfl := r
  exact PySem.P.repr_of_bool (q s.heap _ _ fun _ _ e => e)
theorem sh_int {n : Int} (hn : n.natAbs.log2 < 1920) : Sh X H (.int n) (Str.ofString (toString n)) := fun _ _ _ _ s _ _ _ r _ _ q => by
  obtain ⟨t, rfl⟩ := r
  exact PySem.P.repr_of_int hn (q s.heap _ _ fun _ _ e => e)
theorem sh_str {x : Str} (hx : (reprText x).length ≤ sizeLine) : Sh X H (.str x) (reprText x) := fun _ _ _ _ s _ _ _ r _ _ q => by
  obtain ⟨t, rfl⟩ := r
  exact PySem.P.repr_of_str (q s.heap _ _ fun _ _ e => e) hx
theorem sh_lst {x : V} {xs : List V} {ts : List Str} (ha : H a = some (.lst (x :: xs))) (na : a ∉ as) (h : RpA X H as d (x :: xs) ts) (hd : d ≤ 50) (hz : (listText ts).length ≤ sizeLine) : Sh X H (.ref a) (listText ts) := fun H1 s1 pins σ s u Q I r hA hu q => by
  obtain rfl : u = Value.ref a := r
  obtain ⟨_, its, n, rv, g⟩ := (show ObjOk X.prog X.w H1 s.heap a (.lst (x :: xs)) from I.hok a _ (s1 _ _ ha))
  have A := rpa_all s1 I h rv
  cases rv with
  | @cons _ y _ l r1 rv =>
    refine call_repr_slot (T := "list") (by omega) ⟨_, g, rfl⟩ PySem.F.slot_list_repr.toG ?_
    exact call_list_reprK (A := X.A.in1) g rfl rfl na (by rw [List.size_toArray]; exact A.length_eq) (fun i z e => all_get A i z (by simpa using e)) (g := []) hA (fun b _ => Clear.nil b) (by show X.A.units + 1 + (d + 1) < cLine; omega) (fun _ _ e => e) (fun h' tu tk hk => ⟨_, _, rfl, q h' tk tu hk⟩) hz
theorem sh_tup {xs : List V} {ts : List Str} (ha : H a = some (.tup xs)) (na : a ∉ as) (h : RpA X H as d xs ts) (hd : d ≤ 50) (hz : (tupleText ts).length ≤ sizeLine) : Sh X H (.ref a) (tupleText ts) := fun H1 s1 pins σ s u Q I r hA hu q => by
  obtain rfl : u = Value.ref a := r
  obtain ⟨_, its, rv, o, g, c, n, hd'⟩ := (show ObjOk X.prog X.w H1 s.heap a (.tup xs) from I.hok a _ (s1 _ _ ha))
  refine call_repr_slot (T := "tuple") (by omega) ⟨_, g, c⟩ PySem.F.slot_tuple_repr ?_
  exact call_tuple_reprK (A := X.A.in1) g c hd' na (by rw [List.toList_toArray]; exact rpa_all s1 I h rv) (g := []) hA (fun b _ => Clear.nil b) (by show X.A.units + 1 + (d + 1) < cLine; omega) (fun _ _ e => e) (fun h' tu tk hk => ⟨_, _, rfl, q h' tk tu hk⟩) hz
theorem sh_dct {kvs : List (Key × V)} {ts : List Str} (ha : H a = some (.dK kvs)) (na : a ∉ as) (h : RpE X H as d kvs ts) (hd : d ≤ 50) (hz : (dictText ts).length ≤ sizeLine) : Sh X H (.ref a) (dictText ts) := fun H1 s1 pins σ s u Q I r hA hu q => by
  obtain rfl : u = Value.ref a := r
  obtain ⟨_, sy, vs, kv, o, es, ep, g, c, hd', _, ps, _⟩ := dk_of I.hok (s1 _ _ ha)
  refine call_repr_slot (T := "dict") (by omega) ⟨_, g, c.1⟩ PySem.F.slot_dict_repr ?_
  exact call_dict_reprK (A := X.A.in1) g c.1 hd' sy na (rpe_all s1 I h kv ps) (g := []) hA (fun b _ => Clear.nil b) (by show X.A.units + 1 + (d + 1) < cLine; omega) (fun _ _ e => e) (fun h' tu tk hk => ⟨_, _, rfl, q h' tk tu hk⟩) hz
theorem call_reprV (hA : X.A.guards = some []) (hu : X.A.units + 64 < cLine) : CallR X (.builtin "repr") (fun xs H Q => ∃ (v : V) (t : Str), xs = [v] ∧ Sh X H v t ∧ Q (.str t) H) := by
  intro pins s σ H xs us Q I r h
  obtain ⟨v, t, rfl, hs, q⟩ := h
  obtain ⟨u, rfl, rx⟩ := vals1 r
  exact hs H (Same.refl _) pins σ s u _ I rx hA hu fun h' tk tu hk => ⟨.str t, H, I.kept (t' := tk) hk, ⟨tu, rfl⟩, q⟩
theorem xd_reprV (hA : X.A.guards = some []) (hu : X.A.units + 64 < cLine) (hm : X.mg "repr" = none) (hs : Sh X H v t) (ho : XV X σ H e v) (hg : Gl X "repr" := by rfl)
    (he : starEach [e] X.env = (false, eval e X.env) :: starEach [] X.env := by rfl) (hpl : (backTo p2 (starEach [] X.env)).any (·.1) = false := by rfl) : XD X M σ H (.Call (.Name "repr" p1) [e] [] p2) (.str t) := fun H1 s1 Q q =>
  re_B (call_reprV hA hu) (ra_1 (ho H1 s1 _ fun H2 s2 => ⟨v, t, rfl, hs.up (s1.trans s2), q _ H2 s2 (.str _)⟩) he) hm (by decide +kernel) hg (by decide) (by decide) he hpl
end
end Dl

set_option Elab.async false
set_option linter.all false
set_option maxRecDepth 100000
set_option maxHeartbeats 8000000
namespace Zn
open PySem PySem.Spec PyProof.Rows L2 Dl
/-! k01: the things of the law; _law_inner, _law_alike -/
section
variable {X : Cx} {M : List Addr} {σ : L2.St} {H : Hp} {o e : Expr} {pos p1 p2 : Pos} {l : Addr} {xs : List V} {D : Ends} {rest : List Stmt} {Q : VK}
theorem rb_appendE (ho : XV X σ H o (.ref l)) (h1 : H l = some (.lst xs)) (hz : xs.length < 100000) (he : ∀ H1, Same H H1 → RE X e σ H1 fun v H2 => H2 l = some (.lst xs) ∧ RB X rest D σ (upd H2 l (.lst (xs ++ [v]))))
    (hbase : attributeBase o "append" X.env (eval o X.env) = eval o X.env := by rfl)
    (hfew : ((backTo p2 (starEach [e] X.env)).all (fun x => !x.1) && (backToKw p2 (keywordEach [] X.env)).all (fun x => x.1.isSome) && decide ([e].length + ([] : List Keyword).length + (if ([] : List Keyword).isEmpty then 0 else 1) < 30)) = true := by rfl)
    (hline : (p1.endLine == p2.line) = true := by rfl) (hs : starEach [e] X.env = (false, eval e X.env) :: starEach [] X.env := by rfl) (hplain : (backTo p2 (starEach [] X.env)).any (·.1) = false := by rfl)
    (hsw : swapsWith (.Call (.Attribute o "append" p1) [e] [] p2) none pos.line X.env = pure false := by rfl) : RB X (.Expr (.Call (.Attribute o "append" p1) [e] [] p2) pos :: rest) D σ H :=
  rb_exprR ⟨_, pe_bm PySem.F.plainAttrs_list PySem.F.slot_list_append PySem.F.type_list_append mt_append re_ ra_ hbase hfew hline hs hplain,
    ho H (Same.refl H) _ fun H1 s1 => ⟨.inl ⟨rfl, xs, SqL.of (s1 _ _ h1)⟩, ra_1 (re_mono (he H1 s1) fun v H2 ⟨h2, q⟩ => ⟨l, xs, v, rfl, rfl, h2, Nat.lt_of_lt_of_le hz (by decide), q⟩) hs⟩⟩ hsw
theorem re_pop {y : V} (ho : XV X σ H o (.ref l)) (h1 : H l = some (.lst xs)) (hy : xs[xs.length - 1]? = some y) (k : ∀ H1, Same H H1 → Q y (upd H1 l (.lst xs.dropLast)))
    (hbase : attributeBase o "pop" X.env (eval o X.env) = eval o X.env := by rfl) (hline : (p1.endLine == p2.line) = true := by rfl) : RE X (.Call (.Attribute o "pop" p1) [] [] p2) σ H Q :=
  ⟨_, pe_bm0 PySem.F.plainAttrs_list PySem.F.slot_list_pop PySem.F.type_list_pop mt_pop re_ hbase hline, ho H (Same.refl H) _ fun H1 s1 => ⟨.inl ⟨rfl, xs, SqL.of (s1 _ _ h1)⟩, ⟨l, xs, y, rfl, rfl, s1 _ _ h1, hy, k H1 s1⟩⟩⟩
theorem xv_ixT {p : Addr} {n : Int} {b : Expr} {v : V} (hs : PlainIx b) (ha : XV X σ H e (.ref p)) (hS : SqT X.K H p xs) (hb : XV X σ H b (.int n)) (h : atI xs n = some v) : XV X σ H (.Subscript e b pos) v := fun H1 s Q q =>
  ⟨_, pe_ix ix_tup re_ re_ hs, ha H1 s _ fun H2 s2 => hb H2 (s.trans s2) _ fun H3 s3 => ⟨p, xs, n, v, rfl, rfl, same_seqT ((s.trans s2).trans s3) hS, h, q H3 (s2.trans s3)⟩⟩
/-- d[k] -/
theorem xv_dK {a : Addr} {b : Expr} {k : Key} {v : V} {kvs : List (Key × V)} (hu : X.A.units + 1 < cLine) (ho : XV X σ H e (.ref a)) (hb : XV X σ H b (kV k)) (ha : H a = some (.dK kvs)) (hv : valV kvs k = some v) (hs : NoSl b) : XV X σ H (.Subscript e b pos) v := fun H1 s Q q =>
  ⟨_, pe_dget hu re_ re_ hs, ho H1 s _ fun H2 s2 => hb H2 (s.trans s2) _ fun H3 s3 => ⟨a, v, rfl, by rw [← hv]; exact DGet.k (((s.trans s2).trans s3) _ _ ha), q H3 (s2.trans s3)⟩⟩
end
inductive Ki | pl | tm | lst | tup | dct | nm
  deriving DecidableEq
def Ki.seq : Ki → Bool | .lst => true | .tup => true | _ => false
def Ki.dic : Ki → Bool | .dct => true | _ => false
def Ki.nam : Ki → Bool | .nm => true | _ => false
def Ki.exc : Ki → Bool | .nm => true | .tm => true | _ => false
def Ki.isl : Ki → Bool | .lst => true | _ => false
/-- a plain value -/
inductive PlV : V → String → Prop
  | non : PlV .non "NoneType"
  | bl {b : Bool} : PlV (.bl b) "bool"
  | int {n : Int} : n.natAbs.log2 < 1000 → PlV (.int n) "int"
  | str {x : Str} : PyData.strOk x = true → x.length ≤ 100 → PlV (.str x) "str"
def plT : List String := ["NoneType", "bool", "int", "str"]
def baT : List String := ["NoneType", "bool", "int", "str", "list", "tuple", "dict"]
theorem PlV.mem {v : V} {T : String} (h : PlV v T) : T ∈ plT := by cases h <;> simp [plT]
theorem PlV.ty {K : PySem.W.Frag} {H : Hp} {v : V} {T : String} (h : PlV v T) : TyV K H v (.type T) := by
  cases h with
  | non => exact .non
  | bl => exact .bl
  | int _ => exact .int
  | str _ _ => exact .str
/-- what the written part tells of these classes -/
structure Bs (K : PySem.W.Frag) (cs : Nat → Addr) : Prop where
  b2 : ∀ T ∈ baT, PySem.W.kitOne K (.type T) (.ref (cs 2)) = some false
  b3 : ∀ T ∈ baT, PySem.W.kitOne K (.type T) (.ref (cs 3)) = some false
  bl : ∀ T ∈ baT, PySem.W.kitOne K (.type T) (.type "list") = some (decide (T = "list"))
  bt : ∀ T ∈ baT, PySem.W.kitOne K (.type T) (.type "tuple") = some (decide (T = "tuple"))
  bd : ∀ T ∈ baT, PySem.W.kitOne K (.type T) (.type "dict") = some (decide (T = "dict"))
  el : ∀ i, i < 29 → PySem.W.kitOne K (.ref (cs i)) (.type "list") = some false
  et : ∀ i, i < 29 → PySem.W.kitOne K (.ref (cs i)) (.type "tuple") = some false
  ed : ∀ i, i < 29 → PySem.W.kitOne K (.ref (cs i)) (.type "dict") = some false
/-- the thing, and its inner list -/
inductive Inn (K : PySem.W.Frag) (cs : Nat → Addr) (H : Hp) : Ki → V → Option Addr → Prop
  | pl {v : V} {T : String} : PlV v T → Inn K cs H .pl v none
  | tm {a t1 d : Addr} {fs : List (Str × V)} : H a = some (exv a (cs 3) t1 (some d)) → H d = some (exd d fs) → Inn K cs H .tm (.ref a) none
  | lst {a l : Addr} {p : V} : H a = some (.lst [p, .ref l]) → a ≠ l → Inn K cs H .lst (.ref a) (some l)
  | tup {a l : Addr} {p : V} : H a = some (.tup [p, .ref l]) → Inn K cs H .tup (.ref a) (some l)
  | dct {a b l : Addr} {p : V} {kvs : List (Key × V)} : H a = some (.dK kvs) → valV kvs (.inr "k") = some (.ref b) → H b = some (.lst [p, .ref l]) → b ≠ l → Inn K cs H .dct (.ref a) (some l)
  | nm {a t1 d l : Addr} : H a = some (exv a (cs 2) t1 (some d)) → H d = some (exd d [("value", .ref l)]) → Inn K cs H .nm (.ref a) (some l)
theorem exv_lst {e C t1 : Addr} {d : Option Addr} {xs : List V} : exv e C t1 d ≠ .lst xs := fun z => by
  have z' : HO.ext _ = HO.lst xs := z
  cases z'
theorem exd_lst {e : Addr} {fs : List (Str × V)} {xs : List V} : exd e fs ≠ .lst xs := fun z => by
  have z' : HO.ext _ = HO.lst xs := z
  cases z'
section
variable {K : PySem.W.Frag} {cs : Nat → Addr} {H H1 : Hp} {k : Ki} {v : V} {o : Option Addr}
theorem Inn.up (h : Inn K cs H k v o) (s : Same H H1) : Inn K cs H1 k v o := by
  cases h with
  | pl h => exact .pl h
  | tm h1 h2 => exact .tm (s _ _ h1) (s _ _ h2)
  | lst h1 h2 => exact .lst (s _ _ h1) h2
  | tup h1 => exact .tup (s _ _ h1)
  | dct h1 h2 h3 h4 => exact .dct (s _ _ h1) h2 (s _ _ h3) h4
  | nm h1 h2 => exact .nm (s _ _ h1) (s _ _ h2)
/-- its inner list, or another list, changes -/
theorem Inn.upd {q : Addr} {xs : List V} {u : HO} (h : Inn K cs H k v o) (hq : H q = some (.lst xs)) (ho : o = some q ∨ o = none) : Inn K cs (L2.upd H q u) k v o := by
  have ne : ∀ {a : Addr} {w : HO}, H a = some w → w ≠ .lst xs → a ≠ q := fun {a w} e n z => by
    rw [z, hq] at e
    exact n (Option.some.inj e).symm
  cases h with
  | pl h => exact .pl h
  | tm h1 h2 => exact .tm (by rw [upd_ne (ne h1 exv_lst)]; exact h1) (by rw [upd_ne (ne h2 exd_lst)]; exact h2)
  | @lst a l p h1 h2 =>
    have e : l = q := by
      rcases ho with z | z
      · exact Option.some.inj z
      · cases z
    subst e
    exact .lst (by rw [upd_ne h2]; exact h1) h2
  | tup h1 => exact .tup (by rw [upd_ne (ne h1 (fun z => by cases z))]; exact h1)
  | @dct a b l p kvs h1 h2 h3 h4 =>
    have e : l = q := by
      rcases ho with z | z
      · exact Option.some.inj z
      · cases z
    subst e
    exact .dct (by rw [upd_ne (ne h1 (fun z => by cases z))]; exact h1) h2 (by rw [upd_ne h4]; exact h3) h4
  | nm h1 h2 => exact .nm (by rw [upd_ne (ne h1 exv_lst)]; exact h1) (by rw [upd_ne (ne h2 exd_lst)]; exact h2)
/-- as what isinstance sees it -/
structure KiT (K : PySem.W.Frag) (cs : Nat → Addr) (k : Ki) (t : Value) : Prop where
  sq : PySem.W.kitAny K t [.type "list", .type "tuple"] = some k.seq
  dc : PySem.W.kitOne K t (.type "dict") = some k.dic
  nm : PySem.W.kitOne K t (.ref (cs 2)) = some k.nam
  ex : PySem.W.kitAny K t [.ref (cs 2), .ref (cs 3)] = some k.exc
  ls : PySem.W.kitOne K t (.type "list") = some k.isl
  al : PySem.W.kitAny K t [.type "list", .type "tuple", .type "dict", .ref (cs 2)] = some (k.seq || (k.dic || k.nam))
theorem kiT_of {t : Value} {a b c d e : Bool} (h1 : PySem.W.kitOne K t (.type "list") = some a) (h2 : PySem.W.kitOne K t (.type "tuple") = some b) (h3 : PySem.W.kitOne K t (.type "dict") = some c) (h4 : PySem.W.kitOne K t (.ref (cs 2)) = some d) (h5 : PySem.W.kitOne K t (.ref (cs 3)) = some e)
    (e1 : k.seq = (a || b)) (e2 : k.dic = c) (e3 : k.nam = d) (e4 : k.exc = (d || e)) (e5 : k.isl = a) : KiT K cs k t := by
  refine ⟨?_, by rw [e2]; exact h3, by rw [e3]; exact h4, ?_, by rw [e5]; exact h1, ?_⟩
  · rw [kitAny_cons h1 (kitAny_cons h2 kitAny_nil), e1, Bool.or_false]
  · rw [kitAny_cons h4 (kitAny_cons h5 kitAny_nil), e4, Bool.or_false]
  · rw [kitAny_cons h1 (kitAny_cons h2 (kitAny_cons h3 (kitAny_cons h4 kitAny_nil))), e1, e2, e3]
    cases a <;> cases b <;> cases c <;> cases d <;> rfl
theorem Inn.ty {P : Program} {w : World} {mg : Str → Option Value} {base : Heap} (Y : Ys P w K mg base cs) (B : Bs K cs) (h : Inn K cs H k v o) : ∃ t, TyV K H v t ∧ KiT K cs k t := by
  have base : ∀ {T : String}, T ∈ baT → k.seq = (decide (T = "list") || decide (T = "tuple")) → k.dic = decide (T = "dict") → k.nam = false → k.exc = false → k.isl = decide (T = "list") → KiT K cs k (.type T) := fun hT e1 e2 e3 e4 e5 =>
    kiT_of (B.bl _ hT) (B.bt _ hT) (B.bd _ hT) (B.b2 _ hT) (B.b3 _ hT) e1 e2 e3 e4 e5
  cases h with
  | @pl v T h =>
    refine ⟨_, h.ty, ?_⟩
    have hm := h.mem
    simp only [plT, List.mem_cons, List.not_mem_nil, or_false] at hm
    rcases hm with rfl | rfl | rfl | rfl <;> exact base (by decide) (by decide) (by decide) rfl rfl (by decide)
  | tm h1 h2 => exact ⟨_, .exv (Y.ask 3 (by decide)) h1 h2, kiT_of (B.el 3 (by decide)) (B.et 3 (by decide)) (B.ed 3 (by decide)) (Y.kit 3 2 (by decide) (by decide)) (Y.kit 3 3 (by decide) (by decide)) rfl rfl rfl rfl rfl⟩
  | lst h1 h2 => exact ⟨_, .lst h1, base (by decide) (by decide) (by decide) rfl rfl (by decide)⟩
  | tup h1 => exact ⟨_, .tup h1, base (by decide) (by decide) (by decide) rfl rfl (by decide)⟩
  | dct h1 h2 h3 h4 => exact ⟨_, .dct h1, base (by decide) (by decide) (by decide) rfl rfl (by decide)⟩
  | nm h1 h2 => exact ⟨_, .exv (Y.ask 2 (by decide)) h1 h2, kiT_of (B.el 2 (by decide)) (B.et 2 (by decide)) (B.ed 2 (by decide)) (Y.kit 2 2 (by decide) (by decide)) (Y.kit 2 3 (by decide) (by decide)) rfl rfl rfl rfl rfl⟩
end
abbrev sLInner : Stmt := top 53
theorem scLInner : FnScope ["_law_thing_here"] ["_law_thing_here"] (defScope sLInner) := ⟨rfl, rfl, rfl, by decide +kernel, rfl, by decide +kernel, by decide +kernel⟩
def spInner (K : PySem.W.Frag) (cs : Nat → Addr) : Sp := fun vs H Q _ => ∃ k v o, vs = [v] ∧ Inn K cs H k v o ∧ (∀ l, o = some l → ∀ H1, Same H H1 → Q (.ref l) H1) ∧ (o = none → ∀ p H1, Same H H1 → H p = none → H1 p = some (.lst []) → Q (.ref p) H1)
theorem vals_lt : ∀ us, Vals [V.ty "list", V.ty "tuple"] us → us = [Value.type "list", .type "tuple"] := fun us h => by
  cases h with
  | cons r1 h => cases h with
    | cons r2 h => cases h; cases r1; cases r2; rfl
theorem vals_ltdn {a : Addr} : ∀ us, Vals [V.ty "list", V.ty "tuple", V.ty "dict", V.ref a] us → us = [Value.type "list", .type "tuple", .type "dict", .ref a] := fun us h => by
  cases h with
  | cons r1 h => cases h with
    | cons r2 h => cases h with
      | cons r3 h => cases h with
        | cons r4 h => cases h; cases r1; cases r2; cases r3; cases r4; rfl
section
variable {P : Program} {w : World} {K : PySem.W.Frag} {mg : Str → Option Value} {base : Heap} {cs : Nat → Addr} {f : Addr} {fd : FuncData}
theorem ok_linner (T : Nm mg) (Y : Ys P w K mg base cs) (B : Bs K cs) (F : Df K mg "_law_inner" sLInner ["_law_thing_here"] f fd) : FnOk P w K mg base CX0 1 f fd ["_law_thing_here"] (spInner K cs) := by
  refine F.F.ok scLInner (fun vs H Q E h => ?_) (fun cdv A outer s H vs Q E hr h => ?_)
  · obtain ⟨k, v, o, rfl, _⟩ := h; rfl
  · obtain ⟨k, v, o, rfl, hi, q1, q0⟩ := h
    show RB (cxOf CX0 P w K mg base ["_law_thing_here"] "_law_inner" (defScope sLInner) f cdv A outer s H E).nox (defBody sLInner) _ [some v] H
    have hu1 := hr.units
    obtain ⟨t, ty, kt⟩ := hi.ty Y B
    refine rb_if (k := k.seq) (XT.to (xt_val (M := []) (xd_isVT (xv_name 0 rfl) ty (xcn_cons (xv_bltn (v := .ty "list") T.lst (by decide +kernel) rfl rfl (by decide) (by decide)) (xcn_cons (xv_bltn (v := .ty "tuple") T.tup (by decide +kernel) rfl rfl (by decide) (by decide)) xcn_nil)) (by show 2 ≤ 1000; decide) vals_lt kt.sq T.isi)) rfl) (fun e H1 s1 => ?_) (fun e H1 s1 => rb_nil ?_)
    · have hi1 := hi.up s1
      cases hi1 with
      | pl _ => cases e
      | tm _ _ => cases e
      | dct _ _ _ _ => cases e
      | nm _ _ => cases e
      | lst h1 h2 => exact rb_retR (XV.go (xv_ixS (n := 1) (fun _ _ => rfl) (xv_name 0 rfl) (SqL.of h1) xv_int (atI_nat (j := 1) rfl)) fun H2 s2 => q1 _ rfl H2 (s1.trans s2))
      | tup h1 => exact rb_retR (XV.go (xv_ixT (n := 1) (fun _ _ => rfl) (xv_name 0 rfl) (SqT.of h1) xv_int (atI_nat (j := 1) rfl)) fun H2 s2 => q1 _ rfl H2 (s1.trans s2))
    refine rb_if (k := k.dic) (XT.to (xt_val (M := []) (xd_isV (xv_name 0 rfl) (ty.up s1) (xv_bltn (v := .ty "dict") T.dct (by decide +kernel) rfl rfl (by decide) (by decide)) (fun u r => r) kt.dc T.isi)) rfl) (fun e2 H2 s2 => ?_) (fun e2 H2 s2 => rb_nil ?_)
    · have hi2 := hi.up (s1.trans s2)
      cases hi2 with
      | pl _ => cases e2
      | tm _ _ => cases e2
      | lst _ _ => cases e2
      | tup _ => cases e2
      | nm _ _ => cases e2
      | dct h1 h2 h3 h4 => exact rb_retR (XV.go (xv_ixS (n := 1) (fun _ _ => rfl) (xv_dK (k := .inr "k") (Nat.lt_of_le_of_lt (Nat.add_le_add_left (show 1 ≤ 64 by decide) _) hu1) (xv_name 0 rfl) xv_str h1 h2 (fun _ _ => rfl)) (SqL.of h3) xv_int (atI_nat (j := 1) rfl)) fun H3 s3 => q1 _ rfl H3 ((s1.trans s2).trans s3))
    refine rb_if (k := k.nam) (XT.to (xt_val (M := []) (xd_isV (xv_name 0 rfl) (ty.up (s1.trans s2)) (xv_glob (v := .ref (cs 2)) (show mg "InvalidName" = some (.ref (cs 2)) from Y.g 2 (by decide)) rfl) (fun u r => r) kt.nm T.isi)) rfl) (fun e3 H3 s3 => ?_) (fun e3 H3 s3 => rb_nil ?_)
    · have hi3 := hi.up ((s1.trans s2).trans s3)
      cases hi3 with
      | pl _ => cases e3
      | tm _ _ => cases e3
      | lst _ _ => cases e3
      | tup _ => cases e3
      | dct _ _ _ _ => cases e3
      | nm h1 h2 => exact rb_retR (XV.go (xv_xv (Y.ask 2 (by decide)).xf (Y.no 2 (by decide)) (xv_name 0 rfl) h1 h2 (by simp [List.lookup]) rfl) fun H4 s4 => q1 _ rfl H4 (((s1.trans s2).trans s3).trans s4))
    · have s03 := (s1.trans s2).trans s3
      have eo : o = none := by
        cases hi with
        | pl _ => rfl
        | tm _ _ => rfl
        | lst _ _ => cases e
        | tup _ => cases e
        | dct _ _ _ _ => cases e2
        | nm _ _ => cases e3
      exact rb_retR (re_lstR (ra_nil ⟨by show 0 ≤ 1000; decide, fun p H4 s4 hp h4 => q0 eo p H4 (s03.trans s4) (s03.free hp) h4⟩))
end
end Zn

set_option Elab.async false
set_option linter.all false
set_option maxRecDepth 100000
set_option maxHeartbeats 8000000
namespace Zn
open PySem PySem.Spec PyProof.Rows L2 Dl
/-! k01: _law_alike -/
/-- the thing, with all that the law does with it -/
structure Thg (K : PySem.W.Frag) (cs : Nat → Addr) (H : Hp) (k : Ki) (v : V) (o : Option Addr) : Prop where
  inn : Inn K cs H k v o
  lst : ∀ l, o = some l → ∃ xs, H l = some (.lst xs) ∧ xs.length ≤ 10
  sh : k.exc = false → ∃ t, ∀ X : Cx, X.K = K → Sh X H v t
theorem Thg.up {K : PySem.W.Frag} {cs : Nat → Addr} {H H1 : Hp} {k : Ki} {v : V} {o : Option Addr} (h : Thg K cs H k v o) (s : Same H H1) : Thg K cs H1 k v o :=
  ⟨h.inn.up s, fun l e => by
    obtain ⟨xs, h1, h2⟩ := h.lst l e
    exact ⟨xs, s _ _ h1, h2⟩, fun e => by
    obtain ⟨t, ht⟩ := h.sh e
    exact ⟨t, fun X eX => (ht X eX).up s⟩⟩
/-- a list that was changed and is again as it was -/
theorem same_back {H H1 H2 : Hp} {q : Addr} {xs : List V} {u : HO} (hq : H q = some (.lst xs)) (s1 : Same H H1) (s2 : Same (upd H1 q u) H2) : Same H (upd H2 q (.lst xs)) := fun x o e => by
  by_cases hx : x = q
  · subst hx
    rw [hq] at e
    rw [upd_same]
    exact e
  · rw [upd_ne hx]
    exact s2 x o (by rw [upd_ne hx]; exact s1 x o e)
abbrev sLAlike : Stmt := top 54
abbrev akN : List Str := ["_law_one", "_law_thing_here", "_law_grown", "_law_inner_here", "_law_many", "_law_right_here"]
theorem scLAlike : FnScope akN ["_law_one", "_law_thing_here"] (defScope sLAlike) := ⟨rfl, rfl, rfl, by decide +kernel, rfl, by decide +kernel, by decide +kernel⟩
def spAlike (K : PySem.W.Frag) (cs : Nat → Addr) : Sp := fun vs H Q _ => ∃ k v o, vs = [v, v] ∧ Thg K cs H k v o ∧ ∀ H1, Same H H1 → Q (.bl true) H1
theorem vals_nt {a b : Addr} : ∀ us, Vals [V.ref a, V.ref b] us → us = [Value.ref a, .ref b] := vals_refs
section
variable {P : Program} {w : World} {K : PySem.W.Frag} {mg : Str → Option Value} {base : Heap} {cs : Nat → Addr} {f fI : Addr} {fd gI : FuncData}
abbrev akX (P : Program) (w : World) (K : PySem.W.Frag) (mg : Str → Option Value) (base : Heap) (f : Addr) (cdv : Value) (A : Around) (outer : List Env) (s : Shared) (H : Hp) (E : XK) : Cx := (cxOf CX0 P w K mg base akN "_law_alike" (defScope sLAlike) f cdv A outer s H E).nox
section
variable {cdv : Value} {A : Around} {outer : List Env} {s : Shared} {Hs H : Hp} {E : XK} {D : Ends} {k : Ki} {v : V} {o : Option Addr} {a2 a3 a4 a5 : Option V}
/-- the inner list grows and shrinks again -/
theorem alike2 (T : Nm mg) (Y : Ys P w K mg base cs) (B : Bs K cs) (GI : FnOk P w K mg base CX0 1 fI gI ["_law_thing_here"] (spInner K cs)) (FI : Df K mg "_law_inner" sLInner ["_law_thing_here"] fI gI)
    (hr : Room 2 (A.deeper (envOfC "_law_alike" (defScope sLAlike) s.heap.objs.size f cdv))) (h : Thg K cs H k v o) (q : ∀ H1, Same H H1 → D.rt (.bl true) H1) :
    RB (akX P w K mg base f cdv A outer s Hs E) ((defBody sLAlike).drop 2) D [some v, some v, a2, a3, a4, a5] H := by
  have hr1 := hr.mono (show 1 ≤ 2 by decide)
  obtain ⟨t, ty, kt⟩ := h.inn.ty Y B
  have key : ∀ (p : Addr) (xs : List V) (H1 : Hp), Same H H1 → H1 p = some (.lst xs) → xs.length ≤ 10 → (o = some p ∨ (o = none ∧ xs = [])) →
      RB (akX P w K mg base f cdv A outer s Hs E) ((defBody sLAlike).drop 3) D [some v, some v, a2, some (.ref p), a4, a5] H1 := fun p xs H1 s1 hp hz ho => by
    refine rb_set 4 (M := []) (d := .int (xs.length : Int)) (XV.int (xv_lenS T.len (xv_name 3 rfl) (SqL.of hp))) (fun vn H2 s2 hvn => ?_) scLAlike.nd
    have en := dp_int hvn
    subst en
    refine rb_appendE (xv_name 3 rfl) (s2 _ _ hp) (by omega) fun H3 s3 => XV.go (xv_name 4 rfl) fun H4 s4 => ⟨((s2.trans s3).trans s4) _ _ hp, ?_⟩
    have s14 := (s2.trans s3).trans s4
    have hq4 := s14 _ _ hp
    have i4 := (h.inn.up (s1.trans s14)).upd (u := .lst (xs ++ [.int (xs.length : Int)])) hq4 (ho.imp id And.left)
    obtain ⟨t', ty', kt'⟩ := i4.ty Y B
    have p4 : upd H4 p (.lst (xs ++ [.int (xs.length : Int)])) p = some (.lst (xs ++ [.int (xs.length : Int)])) := upd_same
    have fin : ∀ (g2 : Option V) (H6 : Hp), Same (upd H4 p (.lst (xs ++ [.int (xs.length : Int)]))) H6 → RB (akX P w K mg base f cdv A outer s Hs E) ((defBody sLAlike).drop 7) D [some v, some v, g2, some (.ref p), some (.int (xs.length : Int)), some (.bl true)] H6 := fun g2 H6 s6 => by
      refine rb_exprR (re_pop (y := .int (xs.length : Int)) (xv_name 3 rfl) (s6 _ _ p4) (by simp) fun H7 s7 => ?_)
      rw [List.dropLast_concat]
      refine rb_ret (M := []) (xd_name 5 rfl (.bl true)) fun u H8 s8 hu => ?_
      rw [dp_bl hu]
      exact q H8 ((s1.trans (same_back hp s14 (s6.trans s7))).trans s8)
    refine rb_setR 2 (re_call GI hr1 FI.g FI.F.kp FI.b (ra_1 (XV.go (xv_name 0 rfl) fun H5 s5 => ⟨k, v, o, rfl, i4.up s5, fun l e H6 s6 => ?_, fun e g H6 s6 hg h6 => ?_⟩))) scLAlike.nd
    · have el : l = p := by
        rcases ho with z | ⟨z, _⟩
        · rw [e] at z; exact Option.some.inj z
        · rw [e] at z; cases z
      subst el
      have s46 := s5.trans s6
      refine rb_set 5 (M := []) (d := .bool true) (xd_orT (XD.to (xd_eqI (XV.int (xv_lenS T.len (xv_name 2 rfl) (SqL.of (s46 _ _ p4)))) (XV.int (xv_lenS T.len (xv_name 3 rfl) (SqL.of (s46 _ _ p4))))) (congrArg PyData.bool (decide_eq_true rfl)))) (fun u H7 s7 hu => ?_) scLAlike.nd
      rw [dp_bl hu]
      exact fin _ H7 (s46.trans s7)
    · have s46 := s5.trans s6
      have ex : xs = [] := by
        rcases ho with z | ⟨_, z⟩
        · rw [e] at z; cases z
        · exact z
      have ek : (k.seq || (k.dic || k.nam)) = false := by
        subst e
        cases i4 with
        | pl _ => rfl
        | tm _ _ => rfl
      have ka := kt'.al
      rw [ek] at ka
      refine rb_set 5 (M := []) (d := .bool true) (xd_orF (XD.to (xd_eqI (XV.int (xv_lenS T.len (xv_name 2 rfl) (SqL.of h6))) (XV.int (xv_lenS T.len (xv_name 3 rfl) (SqL.of (s46 _ _ p4))))) (congrArg PyData.bool (decide_eq_false (by rw [ex]; simp))))
        (xd_one (XD.to (xd_not (k := false) (xd_isVT (xv_name 1 rfl) (ty'.up s46) (xcn_cons (xv_bltn (v := .ty "list") T.lst (by decide +kernel) rfl rfl (by decide) (by decide)) (xcn_cons (xv_bltn (v := .ty "tuple") T.tup (by decide +kernel) rfl rfl (by decide) (by decide)) (xcn_cons (xv_bltn (v := .ty "dict") T.dct (by decide +kernel) rfl rfl (by decide) (by decide)) (xcn_cons (xv_glob (v := .ref (cs 2)) (show mg "InvalidName" = some (.ref (cs 2)) from Y.g 2 (by decide)) rfl) xcn_nil)))) (by show 4 ≤ 1000; decide) vals_ltdn ka T.isi)) rfl))) (fun u H7 s7 hu => ?_) scLAlike.nd
      rw [dp_bl hu]
      exact fin _ H7 (s46.trans s7)
  refine rb_setR 3 (re_call GI hr1 FI.g FI.F.kp FI.b (ra_1 (XV.go (xv_name 1 rfl) fun Ha sa => ⟨k, v, o, rfl, h.inn.up sa, fun l e H1 s1 => ?_, fun e p H1 s1 hp h1 => ?_⟩))) scLAlike.nd
  · obtain ⟨xs, h1, h2⟩ := h.lst l e
    exact key l xs H1 (sa.trans s1) ((sa.trans s1) _ _ h1) h2 (.inl e)
  · exact key p [] H1 (sa.trans s1) h1 (Nat.zero_le _) (.inr ⟨e, rfl⟩)
/-- a list that grows and shrinks -/
theorem alike1 (T : Nm mg) (Y : Ys P w K mg base cs) (B : Bs K cs) (GI : FnOk P w K mg base CX0 1 fI gI ["_law_thing_here"] (spInner K cs)) (FI : Df K mg "_law_inner" sLInner ["_law_thing_here"] fI gI)
    (hr : Room 2 (A.deeper (envOfC "_law_alike" (defScope sLAlike) s.heap.objs.size f cdv))) (h : Thg K cs H k v o) (q : ∀ H1, Same H H1 → D.rt (.bl true) H1) :
    RB (akX P w K mg base f cdv A outer s Hs E) ((defBody sLAlike).drop 1) D [some v, some v, a2, a3, a4, a5] H := by
  obtain ⟨t, ty, kt⟩ := h.inn.ty Y B
  refine rb_if (k := k.isl) (XT.to (xt_val (M := []) (xd_isV (xv_name 1 rfl) ty (xv_bltn (v := .ty "list") T.lst (by decide +kernel) rfl rfl (by decide) (by decide)) (fun u r => r) kt.ls T.isi)) rfl) (fun e H2 s2 => ?_) (fun e H2 s2 => rb_nil ?_)
  · have h2 := h.up s2
    obtain ⟨a, l, p, rfl, ha⟩ : ∃ a l p, v = .ref a ∧ H2 a = some (.lst [p, V.ref l]) := by
      have i2 := h2.inn
      cases i2 with
      | lst h1 _ => exact ⟨_, _, _, rfl, h1⟩
      | pl _ => cases e
      | tm _ _ => cases e
      | tup _ => cases e
      | dct _ _ _ _ => cases e
      | nm _ _ => cases e
    refine rb_appendE (xv_name 1 rfl) ha (by show 2 < 100000; decide) fun H3 s3 => XV.go xv_int fun H4 s4 => ⟨(s3.trans s4) _ _ ha, ?_⟩
    have p4 : upd H4 a (.lst ([p, .ref l] ++ [.int 9])) a = some (.lst ([p, .ref l] ++ [.int 9])) := upd_same
    refine rb_set 2 (M := []) (d := .bool true) (XD.to (xd_eqI (XV.int (xv_lenS T.len (xv_name 0 rfl) (SqL.of p4))) (XV.int (xv_lenS T.len (xv_name 1 rfl) (SqL.of p4)))) (congrArg PyData.bool (decide_eq_true rfl))) (fun u H5 s5 hu5 => ?_) scLAlike.nd
    rw [dp_bl hu5]
    refine rb_exprR (re_pop (y := .int 9) (xv_name 1 rfl) (s5 _ _ p4) rfl fun H6 s6 => ?_)
    have sb : Same H2 (upd H6 a (HO.lst [p, V.ref l])) := same_back ha (s3.trans s4) (s5.trans s6)
    show RB (akX P w K mg base f cdv A outer s Hs E) _ _ _ (upd H6 a (HO.lst [p, V.ref l]))
    refine rb_ifF (XT.to (xt_not (xt_val (M := []) (xd_name 2 rfl (.bl true)))) rfl) fun H7 s7 => rb_nil ?_
    exact alike2 T Y B GI FI hr (h2.up (sb.trans s7)) fun H8 s8 => q H8 (((s2.trans sb).trans s7).trans s8)
  · exact alike2 T Y B GI FI hr (h.up s2) fun H8 s8 => q H8 (s2.trans s8)
end
theorem ok_lalike (T : Nm mg) (Y : Ys P w K mg base cs) (B : Bs K cs) (GI : FnOk P w K mg base CX0 1 fI gI ["_law_thing_here"] (spInner K cs)) (FI : Df K mg "_law_inner" sLInner ["_law_thing_here"] fI gI)
    (F : Df K mg "_law_alike" sLAlike ["_law_one", "_law_thing_here"] f fd) : FnG P w K mg base 3 f fd ["_law_one", "_law_thing_here"] (spAlike K cs) := by
  refine fn_g F.F scLAlike (fun vs H Q E h => ?_) (fun cdv A outer s H vs Q E hA hr h => ?_)
  · obtain ⟨k, v, o, rfl, _⟩ := h; rfl
  · obtain ⟨k, v, o, rfl, h, q⟩ := h
    have hu := hr.units
    obtain ⟨t, ty, kt⟩ := h.inn.ty Y B
    show RB (akX P w K mg base f cdv A outer s H E) (defBody sLAlike) _ [some v, some v, none, none, none, none] H
    refine rb_if (k := k.exc) (XT.to (xt_val (M := []) (xd_isVT (xv_name 1 rfl) ty (xcn_cons (xv_glob (v := .ref (cs 2)) (show mg "InvalidName" = some (.ref (cs 2)) from Y.g 2 (by decide)) rfl) (xcn_cons (xv_glob (v := .ref (cs 3)) (show mg "InvalidTime" = some (.ref (cs 3)) from Y.g 3 (by decide)) rfl) xcn_nil)) (by show 2 ≤ 1000; decide) vals_refs kt.ex T.isi)) rfl) (fun e H1 s1 => ?_) (fun e H1 s1 => ?_)
    · have ke := kt.ex
      rw [e] at ke
      exact rb_ifF (XT.to (xt_not (xt_val (M := []) (xd_isVT (xv_name 0 rfl) (ty.up s1) (xcn_cons (xv_glob (v := .ref (cs 2)) (show mg "InvalidName" = some (.ref (cs 2)) from Y.g 2 (by decide)) rfl) (xcn_cons (xv_glob (v := .ref (cs 3)) (show mg "InvalidTime" = some (.ref (cs 3)) from Y.g 3 (by decide)) rfl) xcn_nil)) (by show 2 ≤ 1000; decide) vals_refs ke T.isi))) rfl) fun H2 s2 => rb_nil (alike1 T Y B GI FI hr (h.up (s1.trans s2)) fun H8 s8 => q H8 ((s1.trans s2).trans s8))
    · obtain ⟨tx, hsh⟩ := (h.up s1).sh e
      refine rb_ifF (XT.to (xt_cmp (M := []) op_ne (xd_reprV hA hu T.rep (hsh _ rfl) (xv_name 0 rfl)) (xd_reprV hA hu T.rep (hsh _ rfl) (xv_name 1 rfl)) fun H2 u u2 s2 hv hw Q q => by
        rw [dp_str hv, dp_str hw]
        exact ⟨rfl, by rw [decide_eq_true rfl]; exact q H2 (Same.refl _)⟩) rfl) fun H2 s2 => rb_nil (alike1 T Y B GI FI hr (h.up (s1.trans s2)) fun H8 s8 => q H8 ((s1.trans s2).trans s8))
end
end Zn

set_option Elab.async false
set_option linter.all false
set_option maxRecDepth 100000
set_option maxHeartbeats 8000000
namespace Zn
open PySem PySem.Spec PyProof.Rows L2 Dl
/-! k01: _law_right -/
section
variable {X : Cx} {M : List Addr} {σ : L2.St} {H : Hp} {a b e elt tg iter : Expr} {es ifs : List Expr} {pos spos py p1 p2 tpos : Pos} {Q : VK} {D : Ends} {rest : List Stmt} {scope : Scope} {own : List (Str × Nat)}
theorem rb_setLcL {xs : List V} {pa : Addr} {y : Str} (i : Nat) (hN : X.N.Nodup) (ok : BlkOk X.N X.env.scope scope own) (hit : XV X σ H iter (.ref pa)) (hpa : H pa = some (.lst xs))
    (h : ∀ H1, Same H H1 → ∃ Pv : Addr → Nat → Hp → Prop, (∀ p, H1 p = none → Pv p 0 (upd H1 p (.lst []))) ∧ (∀ p i H', Pv p i H' → H' pa = some (.lst xs)) ∧
      (∀ p i x H', xs[i]? = some x → Pv p i H' → BG X scope tg x (wipe σ (own.map (·.2))) H' fun τ H2 => wipe τ (own.map (·.2)) = wipe σ (own.map (·.2)) ∧ BT X scope ifs τ H2 fun k H3 => if k = true then BE X scope elt τ H3 fun y H4 => ∃ acc, H4 p = some (.lst acc) ∧ acc.length < sizeLine ∧ Pv p (i + 1) (upd H4 p (.lst (acc ++ [y]))) else Pv p (i + 1) H3) ∧ ∀ p H', Pv p xs.length H' → RB X rest D (σ.set i (some (.ref p))) H')
    (hi : X.N[i]? = some y := by rfl) (hx : X.env.scope.names.lookup y = some .local := by rfl) (hsw : swapsWith (.ListComp elt [⟨tg, iter, ifs, 0⟩] scope pos) (some (.Name y py)) spos.line X.env = pure true := by exact sw_true rfl rfl rfl rfl)
    (hc : X.calm = true := by rfl) (hs : ∀ x, foldedSetIterable iter X.env x = pure x := by intro _; rfl) : RB X (.Assign [.Name y py] (.ListComp elt [⟨tg, iter, ifs, 0⟩] scope pos) spos :: rest) D σ H :=
  ⟨_, pss_cons (ps_setLc (own := own) hc hN hi hx hsw (pi_list re_) ok (fun _ _ _ _ _ => bg_) (fun _ _ _ _ _ => bt_) (fun _ _ _ _ _ => be_) hs) rb_, hit H (Same.refl _) _ fun H1 s1 => by
    obtain ⟨Pv, h0, hk, hst, hd⟩ := h H1 s1
    refine ⟨pa, rfl, ⟨xs, SqL.of (s1 _ _ hpa)⟩, fun p hp => ?_⟩
    exact lc_list (xs := xs) (a := pa) (Pv p) (h0 p hp) (fun i H' _ w => SqL.of (hk p i H' w)) (fun i x H' hi w => hst p i x H' hi w) (fun H' w => hd p H' w)⟩
theorem re_lenR {x : Str} (h : RE X e σ H fun v H1 => ∃ p xs, v = .ref p ∧ H1 p = some (.lst xs) ∧ Q (.int xs.length) H1) (hm : X.mg "len" = none) (hg : Gl X "len" := by rfl) (he : starEach [e] X.env = (false, eval e X.env) :: starEach [] X.env := by rfl) (hpl : (backTo pos (starEach [] X.env)).any (·.1) = false := by rfl) : RE X (.Call (.Name "len" p1) [e] [] pos) σ H Q :=
  re_B call_len_seq (ra_1 (re_mono h fun v H1 ⟨p, xs, ev, h1, q⟩ => ⟨p, xs, by rw [ev], .inl (SqL.of h1), q⟩) he) hm PySem.boot_len hg (by decide) (by decide) he hpl
end
theorem same_upd {H H1 : Hp} {p : Addr} {o : HO} (s : Same H H1) (h : H p = none) : Same H (upd H1 p o) := fun x u e => by
  rw [upd_ne (fun z => by rw [z, h] at e; cases e)]
  exact s x u e
theorem kds_shaped : ∀ i : Fin 29, SeqAt.shaped (kdsD i.val) = true := by decide +kernel
theorem kds_due : ∀ i : Fin 29, kdsD i.val = .list ((List.range 29).map fun (j : Nat) => PyData.bool (decide ((i.val : Int) = (j : Int)))) := by
  intro i
  refine congrArg PyData.list (List.map_congr_left fun j _ => congrArg PyData.bool (decide_eq_decide.mpr (by omega)))
theorem bools3 : ∀ a b c : Bool, SeqAt.shaped (.list [.bool a, .bool b, .bool c]) = true := by decide +kernel
structure Bz (K : PySem.W.Frag) (mg : Str → Option Value) (cs : Nat → Addr) (cT cM cS : Addr) : Prop where
  gT : mg "TimeError" = some (.ref cT)
  gM : mg "MissingError" = some (.ref cM)
  gS : mg "StateError" = some (.ref cS)
  ex : ∀ i, i < 29 → PySem.W.kitOne K (.ref (cs i)) (.type "Exception") = some true
  te : ∀ i, i < 29 → PySem.W.kitOne K (.ref (cs i)) (.ref cT) = some (decide (i < 21))
  me : ∀ i, i < 29 → PySem.W.kitOne K (.ref (cs i)) (.ref cM) = some (decide (21 ≤ i) && decide (i < 25))
  se : ∀ i, i < 29 → PySem.W.kitOne K (.ref (cs i)) (.ref cS) = some (decide (25 ≤ i))
  ve : ∀ i, i < 29 → PySem.W.kitOne K (.ref (cs i)) (.type "ValueError") = some (decide (i < 21))
  ke : ∀ i, i < 29 → PySem.W.kitOne K (.ref (cs i)) (.type "KeyError") = some (decide (21 ≤ i) && decide (i < 25))
  le : ∀ i, i < 29 → PySem.W.kitOne K (.ref (cs i)) (.type "LookupError") = some (decide (21 ≤ i))
abbrev sLRight : Stmt := top 55
abbrev rtN : List Str := ["_law_thing_here", "_law_made_here", "_law_at", "_law_e", "_law_due", "_law_bases", "_law_python", "_law_some", "_law_twin", "_law_other"]
theorem scLRight : FnScope rtN ["_law_thing_here"] (defScope sLRight) := ⟨rfl, rfl, rfl, by decide +kernel, rfl, by decide +kernel, by decide +kernel⟩
def spRight (K : PySem.W.Frag) (cs : Nat → Addr) : Sp := fun vs H Q _ => ∃ k v o, vs = [v] ∧ Thg K cs H k v o ∧ ∀ H1, Same H H1 → Q (.bl true) H1
theorem range_get {n k i : Nat} (h : (List.range n)[k]? = some i) : i = k ∧ k < n := by
  have hk : k < n := by
    have := (List.getElem?_eq_some_iff.mp h).1
    simpa using this
  rw [List.getElem?_range hk] at h
  exact ⟨(Option.some.inj h).symm, hk⟩
section
variable {P : Program} {w : World} {K : PySem.W.Frag} {mg : Str → Option Value} {base : Heap} {cs : Nat → Addr} {cT cM cS : Addr} {f fM fN fK fF fD fA : Addr} {fd gM gN gK gF gD gA : FuncData}
abbrev rtX (P : Program) (w : World) (K : PySem.W.Frag) (mg : Str → Option Value) (base : Heap) (f : Addr) (cdv : Value) (A : Around) (outer : List Env) (s : Shared) (H : Hp) (E : XK) : Cx := (cxOf CX0 P w K mg base rtN "_law_right" (defScope sLRight) f cdv A outer s H E).nox
section
variable {cdv : Value} {A : Around} {outer : List Env} {s : Shared} {Hs H : Hp} {E : XK} {D : Ends} {v : V} {p : Addr} {xs : List V} {a2 a3 a4 a5 a6 a7 a8 a9 : Option V}
theorem xd_kinds {σ : L2.St} {x : V} {i : Nat} {e : Expr} {p1 pos : Pos} (GK : FnOk P w K mg base CX0 1 fK gK ["_law_e"] (spKinds K cs)) (FK : Df K mg "_law_kinds" sLKinds ["_law_e"] fK gK) (hr : Room 1 (A.deeper (envOfC "_law_right" (defScope sLRight) s.heap.objs.size f cdv))) (hi : i < 29) (ty : TyV K H x (.ref (cs i))) (ho : XV (rtX P w K mg base f cdv A outer s Hs E) σ H e x)
    (he : starEach [e] (rtX P w K mg base f cdv A outer s Hs E).env = (false, eval e (rtX P w K mg base f cdv A outer s Hs E).env) :: starEach [] (rtX P w K mg base f cdv A outer s Hs E).env := by rfl) (hpl : (backTo pos (starEach [] (rtX P w K mg base f cdv A outer s Hs E).env)).any (·.1) = false := by rfl) :
    XD (rtX P w K mg base f cdv A outer s Hs E) [] σ H (.Call (.Name "_law_kinds" p1) [e] [] pos) (kdsD i) := fun H1 s1 Q q =>
  re_call GK hr FK.g FK.F.kp FK.b (ra_1 (XV.go (ho.up s1) fun H2 s2 => ⟨x, i, rfl, hi, ty.up (s1.trans s2), fun u H3 s3 hu => q u H3 (s2.trans s3) hu⟩) he) rfl (by decide) he hpl
/-- the first loop: classes and bases of all -/
theorem right1 (T : Nm mg) (Y : Ys P w K mg base cs) (Z : Bz K mg cs cT cM cS) (GK : FnOk P w K mg base CX0 1 fK gK ["_law_e"] (spKinds K cs)) (FK : Df K mg "_law_kinds" sLKinds ["_law_e"] fK gK)
    (GD : FnOk P w K mg base CX0 1 fD gD ["_law_at"] (spDue3 K)) (FD : Df K mg "_law_base_due" sLDue ["_law_at"] fD gD)
    (hr : Room 1 (A.deeper (envOfC "_law_right" (defScope sLRight) s.heap.objs.size f cdv))) (hp : H p = some (.lst xs)) (hx : ExA cs v H (List.range 29) xs)
    (q : ∀ H1 a2 a3 a4 a5 a6, Same H H1 → RB (rtX P w K mg base f cdv A outer s Hs E) ((defBody sLRight).drop 2) D [some v, some (.ref p), a2, a3, a4, a5, a6, a7, a8, a9] H1) :
    RB (rtX P w K mg base f cdv A outer s Hs E) ((defBody sLRight).drop 1) D [some v, some (.ref p), a2, a3, a4, a5, a6, a7, a8, a9] H := by
  have hu := hr.units
  have hlen : xs.length = 29 := by rw [hx.len]; simp
  refine rb_enumV T.enu (xv_name 1 rfl) hp (fun H1 s1 => ⟨fun k σ' H' => Same H1 H' ∧ ∃ b2 b3 b4 b5 b6 b9, σ' = [some v, some (.ref p), b2, b3, b4, b5, b6, a7, a8, b9] ∧ b9 = a9, ⟨Same.refl _, a2, a3, a4, a5, a6, a9, rfl, rfl⟩, fun k σ' H' w => (s1.trans w.1) _ _ hp, fun k x hk σ' H' Tp w hT => ?_, fun σ' H' w => ?_⟩)
  · obtain ⟨s2, b2, b3, b4, b5, b6, b9, rfl, rfl⟩ := w
    obtain ⟨i, hi, hx1⟩ := hx.get hk
    obtain ⟨rfl, hi29⟩ := range_get hi
    have s3 : Same H (upd H' Tp (.tup [.int (i : Nat), x])) := (s1.trans s2).trans (same_new hT)
    have s13 : Same H1 (upd H' Tp (.tup [.int (i : Nat), x])) := s2.trans (same_new hT)
    refine rg_tup (SqT.of upd_same) (rgs_cons (rg_name 2 (rgs_cons (rg_name 3 (rgs_nil ?_) scLRight.nd)) scLRight.nd))
    generalize upd H' Tp (.tup [.int (i : Nat), x]) = H2 at s3 s13
    have hx2 := hx1.up s3
    have ty := hx2.ty Y
    refine rb_setRD 4 (own := [("_law_other", 9)]) (M := []) 29 (by decide) (fun j => PyData.bool (decide ((i : Int) = (j : Int)))) T.rng Live.nil scLRight.nd (XD.to (XV.int (xv_lenS T.len (xv_name 1 rfl) (SqL.of (s3 _ _ hp)))) (by rw [hlen])) (blkOk_by (own := [("_law_other", 9)]) (N := rtN) (sc := defScope sLRight) (by decide +kernel)) (fun p' j H3 hj hp' s4 L => ?_) (fun p' ys H3 s4 hp' h4 hy => ?_)
    · intro s9 H9 C9 cl fp
      refine rg_name 9 ⟨rfl, Same.refl _, fun s8 H8 C8 cl8 fp8 => ?_⟩ scLRight.nd
      exact XD.go (xd_eqI (M := p' :: []) (xd_name 2 rfl (.int _)) (xd_name 9 rfl (.int _))) fun y H4 s5 hy => ⟨s5, hy⟩
    have dd : Dq K (hid [] H3) (.ref p') (kdsD i) := by
      rw [kds_due ⟨i, hi29⟩]
      exact .lst (by rw [hid_nil]; exact h4) hy
    have ty3 := ty.up s4
    refine rb_ifF (XT.to (xt_or2 (k1 := false) (k2 := false) (XT.to (xt_neD (M := []) hu (xd_kinds GK FK hr hi29 ty3 (xv_name 3 rfl)) (xd_name 4 rfl dd) (kds_shaped ⟨i, hi29⟩) (kds_shaped ⟨i, hi29⟩)) (by rw [SeqAt.eqv_refl _ (SeqAt.canLay_of_shaped (kds_shaped ⟨i, hi29⟩))]; rfl)) fun _ => XT.to (xt_not (xt_val (M := []) (xd_isV (xv_name 3 rfl) ty3 (xv_bltn (v := .ty "Exception") T.exc (by decide +kernel) rfl rfl (by decide) (by decide)) (fun u r => r) (Z.ex i hi29) T.isi))) rfl) rfl) fun H5 s5 => ?_
    have ty5 := ty3.up s5
    refine rb_setL 5 (M := []) (xl_lst Live.nil (xa_cons (xd_isV (xv_name 3 rfl) ty5 (xv_glob (v := .ref cT) Z.gT rfl) (fun u r => r) (Z.te i hi29) T.isi) (xa_cons (xd_isV (xv_name 3 rfl) ty5 (xv_glob (v := .ref cM) Z.gM rfl) (fun u r => r) (Z.me i hi29) T.isi) (xa_cons (xd_isV (xv_name 3 rfl) ty5 (xv_glob (v := .ref cS) Z.gS rfl) (fun u r => r) (Z.se i hi29) T.isi) xa_nil)))) (fun pb lb H6 s6 hpb hb hlb => ?_) scLRight.nd
    have db : Dq K (hid [] H6) (.ref pb) (.list [.bool (decide (i < 21)), .bool (decide (21 ≤ i) && decide (i < 25)), .bool (decide (25 ≤ i))]) := .lst (by rw [hid_nil]; exact hb) hlb
    have due : ∀ {p1 p2 p3 : Pos}, XD (rtX P w K mg base f cdv A outer s Hs E) [] [some v, some (.ref p), some (.int (i : Nat)), some x, some (.ref p'), some (.ref pb), b6, a7, a8, b9] H6 (.Call (.Name "_law_base_due" p1) [.Name "_law_at" p2] [] p3) (.list [.bool (decide (i < 21)), .bool (decide (21 ≤ i) && decide (i < 25)), .bool (decide (25 ≤ i))]) := fun {p1 p2 p3} H7 s7 Q q =>
      re_call GD hr FD.g FD.F.kp FD.b (ra_1 (XV.go (xv_name 2 rfl) fun H8 s8 => ⟨i, rfl, fun u H9 s9 hu9 => q u H9 (s8.trans s9) hu9⟩))
    refine rb_ifF (XT.to (xt_neD (M := []) hu (xd_name 5 rfl db) due (bools3 _ _ _) (bools3 _ _ _)) (by rw [SeqAt.eqv_refl _ (SeqAt.canLay_of_shaped (bools3 _ _ _))]; rfl)) fun H7 s7 => ?_
    have ty7 := (ty5.up s6).up s7
    have db7 := db.up (hid_mono s7)
    refine rb_setL 6 (M := []) (xl_lst Live.nil (xa_cons (xd_isV (xv_name 3 rfl) ty7 (xv_bltn (v := .ty "ValueError") T.val (by decide +kernel) rfl rfl (by decide) (by decide)) (fun u r => r) (Z.ve i hi29) T.isi) (xa_cons (xd_isV (xv_name 3 rfl) ty7 (xv_bltn (v := .ty "KeyError") T.key (by decide +kernel) rfl rfl (by decide) (by decide)) (fun u r => r) (Z.ke i hi29) T.isi) (xa_cons (xd_isV (xv_name 3 rfl) ty7 (xv_bltn (v := .ty "LookupError") T.lkp (by decide +kernel) rfl rfl (by decide) (by decide)) (fun u r => r) (Z.le i hi29) T.isi) xa_nil)))) (fun pc lc H8 s8 hpc hc hlc => ?_) scLRight.nd
    have dc : Dq K (hid [] H8) (.ref pc) (.list [.bool (decide (i < 21)), .bool (decide (21 ≤ i) && decide (i < 25)), .bool (decide (21 ≤ i))]) := .lst (by rw [hid_nil]; exact hc) hlc
    have db8 := db7.up (hid_mono s8)
    have en : (!decide (i < 21)) = decide (21 ≤ i) := by
      by_cases z : i < 21
      · rw [decide_eq_true z, decide_eq_false (by omega)]; rfl
      · rw [decide_eq_false z, decide_eq_true (by omega)]; rfl
    refine rb_ifF (XT.to (xt_neD (M := []) hu (xd_name 6 rfl dc) (xd_lst Live.nil (xa_cons (xd_ixL (n := 0) (fun _ _ => rfl) (xd_name 5 rfl db8) xd_int (atI_nat (j := 0) rfl)) (xa_cons (xd_ixL (n := 1) (fun _ _ => rfl) (xd_name 5 rfl db8) xd_int (atI_nat (j := 1) rfl)) (xa_cons (XD.to (xd_not (k := decide (i < 21)) (xd_ixL (n := 0) (fun _ _ => rfl) (xd_name 5 rfl db8) xd_int (atI_nat (j := 0) rfl))) (congrArg PyData.bool en)) xa_nil)))) (bools3 _ _ _) (bools3 _ _ _)) (by rw [SeqAt.eqv_refl _ (SeqAt.canLay_of_shaped (bools3 _ _ _))]; rfl)) fun H9 s9 => rb_nil ?_
    exact ⟨((((s13.trans s4).trans s5).trans s6).trans s7).trans (s8.trans s9), _, _, _, _, _, _, rfl, rfl⟩
  · obtain ⟨s2, b2, b3, b4, b5, b6, b9, rfl, rfl⟩ := w
    exact q H' b2 b3 b4 b5 b6 (s1.trans s2)
theorem exa_take {xs : List V} : ∀ {is : List Nat} (n : Nat), ExA cs v H is xs → ExA cs v H (is.take n) (xs.take n) := by
  intro is n h
  induction h generalizing n with
  | nil => simpa using ExA.nil
  | cons a b ih =>
    cases n with
    | zero => exact .nil
    | succ n => exact .cons a (ih n)
/-- the exceptions with a field -/
theorem right2 (T : Nm mg) (Y : Ys P w K mg base cs) (hp : H p = some (.lst xs)) (hx : ExA cs v H (List.range 29) xs)
    (q : ∀ H1 p' ys a3, Same H H1 → H1 p' = some (.lst ys) → ExA cs v H1 (List.range 27) ys → RB (rtX P w K mg base f cdv A outer s Hs E) ((defBody sLRight).drop 3) D [some v, some (.ref p), a2, a3, a4, a5, a6, some (.ref p'), a8, a9] H1) :
    RB (rtX P w K mg base f cdv A outer s Hs E) ((defBody sLRight).drop 2) D [some v, some (.ref p), a2, a3, a4, a5, a6, a7, a8, a9] H := by
  have hlen : xs.length = 29 := by rw [hx.len]; simp
  refine rb_setLcL 7 (own := [("_law_e", 3)]) scLRight.nd (blkOk_by (own := [("_law_e", 3)]) (N := rtN) (sc := defScope sLRight) (by decide +kernel)) (xv_name 1 rfl) hp (fun H1 s1 => ⟨fun p' i H' => Same H H' ∧ H p' = none ∧ H' p' = some (.lst (xs.take (min i 27))), fun p' hp' => ⟨s1.trans (same_new hp'), s1.free hp', upd_same⟩, fun p' i H' w => w.1 _ _ hp, fun p' j x H' hi w => ?_, fun p' H' w => ?_⟩)
  · obtain ⟨s2, hp0, hacc⟩ := w
    obtain ⟨j', hj, hx1⟩ := hx.get hi
    obtain ⟨rfl, hi29⟩ := range_get hj
    have hx2 := hx1.up s2
    have ty := hx2.ty Y
    have kk : PySem.W.kitAny K (.ref (cs j')) [.ref (cs 28), .ref (cs 27)] = some (decide (27 ≤ j')) := by
      have e : (decide (j' = 28) || (decide (j' = 27) || false)) = decide (27 ≤ j') := by
        have : ∀ j : Fin 29, (decide (j.val = 28) || (decide (j.val = 27) || false)) = decide (27 ≤ j.val) := by decide
        exact this ⟨j', hi29⟩
      rw [← e]
      exact kitAny_cons (Y.kit j' 28 hi29 (by decide)) (kitAny_cons (Y.kit j' 27 hi29 (by decide)) rfl)
    intro s9 H9 C9 cl fp
    refine rg_name 3 ⟨rfl, fun s8 H8 C8 cl8 fp8 => ⟨_, pts_one rt_, ?_⟩⟩ scLRight.nd
    refine (XT.to (xt_not (xt_val (M := []) (xd_isVT (xv_name 3 rfl) ty (xcn_cons (xv_glob (v := .ref (cs 28)) (show mg "NothingToUndo" = some (.ref (cs 28)) from Y.g 28 (by decide)) rfl) (xcn_cons (xv_glob (v := .ref (cs 27)) (show mg "NoProgram" = some (.ref (cs 27)) from Y.g 27 (by decide)) rfl) xcn_nil)) (by show 2 ≤ 1000; decide) vals_refs kk T.isi))) rfl) H' (Same.refl _) _ fun H3 s3 => ?_
    by_cases hj : 27 ≤ j'
    · rw [decide_eq_true hj]
      have e : min (j' + 1) 27 = min j' 27 := by omega
      refine iteF ⟨s2.trans s3, hp0, ?_⟩
      rw [e]
      exact s3 _ _ hacc
    · rw [decide_eq_false hj]
      refine iteT fun s7 H7 C7 cl7 fp7 => XV.go (xv_name 3 rfl) fun H4 s4 => ⟨_, (s3.trans s4) _ _ hacc, ?_, ?_, hp0, ?_⟩
      · rw [List.length_take]
        have h4 : 100000 < sizeLine := by decide
        omega
      · exact same_upd (s2.trans (s3.trans s4)) hp0
      · rw [upd_same]
        have e1 : min (j' + 1) 27 = j' + 1 := by omega
        have e2 : min j' 27 = j' := by omega
        rw [e1, e2, List.take_add_one, hi]
        rfl
  · obtain ⟨s2, hp0, hacc⟩ := w
    rw [hlen] at hacc
    exact q H' p' (xs.take 27) a3 s2 hacc (by
      have := (exa_take (cs := cs) (v := v) 27 hx).up s2
      exact this)
/-- the second loop: fields -/
theorem right3 (T : Nm mg) (Y : Ys P w K mg base cs) (GN : FnOk P w K mg base CX0 3 fN gN ["_law_thing_here"] (spMadeN cs 27)) (FN : Df K mg "_law_named" sLNamed ["_law_thing_here"] fN gN) (GK : FnOk P w K mg base CX0 1 fK gK ["_law_e"] (spKinds K cs)) (FK : Df K mg "_law_kinds" sLKinds ["_law_e"] fK gK)
    (GF : FnOk P w K mg base CX0 1 fF gF ["_law_e"] (spField cs)) (FF : Df K mg "_law_field" sLField ["_law_e"] fF gF)
    (GA : FnG P w K mg base 3 fA gA ["_law_one", "_law_thing_here"] (spAlike K cs)) (FA : Df K mg "_law_alike" sLAlike ["_law_one", "_law_thing_here"] fA gA)
    (hA : (A.deeper (envOfC "_law_right" (defScope sLRight) s.heap.objs.size f cdv)).guards = some []) (hr : Room 3 (A.deeper (envOfC "_law_right" (defScope sLRight) s.heap.objs.size f cdv))) {k : Ki} {o : Option Addr} (ht : Thg K cs H k v o)
    (hp : H p = some (.lst xs)) (hx : ExA cs v H (List.range 27) xs) (q : ∀ H1, Same H H1 → D.rt (.bl true) H1) :
    RB (rtX P w K mg base f cdv A outer s Hs E) ((defBody sLRight).drop 3) D [some v, a2, a3, a4, a5, a6, a7, some (.ref p), a8, a9] H := by
  have hr1 := hr.mono (show 1 ≤ 3 by decide)
  have hu := hr.units
  have hlen : xs.length = 27 := by rw [hx.len]; simp
  refine rb_zipV T.zip (XV.go (xv_name 7 rfl) fun Ha sa => ⟨p, xs, rfl, re_call GN hr FN.g FN.F.kp FN.b (ra_1 (XV.go (xv_name 0 rfl) fun Hb sb => ⟨v, rfl, fun pb ys H1 s1 hpb hy => ⟨pb, ys, rfl, ((sa.trans sb).trans s1) _ _ hp, hpb, fun i σ' H' => Same H1 H' ∧ ∃ b3 b8, σ' = [some v, a2, a3, b3, a5, a6, a7, some (.ref p), b8, a9], ⟨Same.refl _, a4, a8, rfl⟩, fun i σ' H' w => ⟨w.1 _ _ (((sa.trans sb).trans s1) _ _ hp), w.1 _ _ hpb⟩, fun i x y hx1 hy1 σ' H' Tp w hT => ?_, fun σ' H' w => ?_⟩⟩))⟩)
  · obtain ⟨s2, b3, b8, rfl⟩ := w
    have s02 : Same H H' := (((sa.trans sb).trans s1).trans s2)
    obtain ⟨j, hj, ex⟩ := hx.get hx1
    obtain ⟨rfl, hj27⟩ := range_get hj
    obtain ⟨j2, hj2, ey⟩ := hy.get hy1
    obtain ⟨rfl, _⟩ := range_get hj2
    have s3 : Same H (upd H' Tp (.tup [x, y])) := s02.trans (same_new hT)
    have s13 : Same H1 (upd H' Tp (.tup [x, y])) := s2.trans (same_new hT)
    refine rg_tup (SqT.of upd_same) (rgs_cons (rg_name 3 (rgs_cons (rg_name 8 (rgs_nil ?_) scLRight.nd)) scLRight.nd))
    generalize upd H' Tp (.tup [x, y]) = H2 at s3 s13
    have ex2 := ex.up s3
    have ey2 := ey.up s13
    have ht2 := ht.up s3
    have alk : ∀ {z : V} {nm : Str} {p1 p2 p3 p4 p5 p6 : Pos} {H3 : Hp}, Ex1 cs v j2 H3 z → Thg K cs H3 k v o → XV (rtX P w K mg base f cdv A outer s Hs E) [some v, a2, a3, some x, a5, a6, a7, some (.ref p), some y, a9] H3 (.Name nm p4) z → XD (rtX P w K mg base f cdv A outer s Hs E) [] [some v, a2, a3, some x, a5, a6, a7, some (.ref p), some y, a9] H3 (.Call (.Name "_law_alike" p1) [.Call (.Name "_law_field" p2) [.Name nm p4] [] p3, .Name "_law_thing_here" p5] [] p6) (.bool true) := fun {z nm p1 p2 p3 p4 p5 p6 H3} hz ht3 ho H4 s4 Q q =>
      re_callG GA hA hr FA.g FA.F.kp FA.b (ra_cons (re_call GF hr1 FF.g FF.F.kp FF.b (ra_1 (XV.go (ho.up s4) fun H5 s5 => ⟨v, z, j2, rfl, hj27, hz.up (s4.trans s5), fun H6 s6 => ra_1 (XV.go (xv_name 0 rfl) fun H7 s7 => ⟨k, v, o, rfl, ht3.up (((s4.trans s5).trans s6).trans s7), fun H8 s8 => q _ H8 (((s5.trans s6).trans s7).trans s8) (.bl true)⟩)⟩))))
    refine rb_ifF (XT.to (xt_or2 (k1 := false) (k2 := false) (XT.to (xt_not (xt_val (M := []) (alk ex2 ht2 (xv_name 3 rfl)))) rfl) fun _ => XT.to (xt_not (xt_val (M := []) (alk ey2 ht2 (xv_name 8 rfl)))) rfl) rfl) fun H3 s4 => ?_
    have e29 : j2 < 29 := by omega
    have sh := kds_shaped ⟨j2, e29⟩
    refine rb_ifF (XT.to (xt_neD (M := []) hu (xd_kinds GK FK hr1 e29 ((ex2.up s4).ty Y) (xv_name 3 rfl)) (xd_kinds GK FK hr1 e29 ((ey2.up s4).ty Y) (xv_name 8 rfl)) sh sh) (by rw [SeqAt.eqv_refl _ (SeqAt.canLay_of_shaped sh)]; rfl)) fun H4 s5 => rb_nil ?_
    exact ⟨(s13.trans s4).trans s5, _, _, rfl⟩
  · obtain ⟨s2, b3, b8, rfl⟩ := w
    have s02 : Same H H' := (((sa.trans sb).trans s1).trans s2)
    refine rb_retR ⟨_, pe_cmpR op_eq re_ re_ (nomark _), XV.go (xv_lenS T.len (xv_name 7 rfl) (SqL.of (s02 _ _ hp))) fun H2 s3 => re_lenR (x := "") (re_call GN hr FN.g FN.F.kp FN.b (ra_1 (XV.go (xv_name 0 rfl) fun H3 s4 => ⟨v, rfl, fun pb2 ys2 H4 s5 hpb2 hy2 => ⟨pb2, ys2, rfl, hpb2, rfl, ?_⟩⟩))) T.len⟩
    have e : decide (V.int (xs.length : Int) = V.int (ys2.length : Int)) = true := by
      rw [hlen, hy2.len]
      exact decide_eq_true (by simp)
    rw [e]
    exact q H4 (((s02.trans s3).trans s4).trans s5)
end
theorem ok_lright (T : Nm mg) (Y : Ys P w K mg base cs) (Z : Bz K mg cs cT cM cS) (GM : FnOk P w K mg base CX0 3 fM gM ["_law_thing_here"] (spMadeN cs 29)) (FM : Df K mg "_law_made" sLMade ["_law_thing_here"] fM gM)
    (GN : FnOk P w K mg base CX0 3 fN gN ["_law_thing_here"] (spMadeN cs 27)) (FN : Df K mg "_law_named" sLNamed ["_law_thing_here"] fN gN) (GK : FnOk P w K mg base CX0 1 fK gK ["_law_e"] (spKinds K cs)) (FK : Df K mg "_law_kinds" sLKinds ["_law_e"] fK gK)
    (GD : FnOk P w K mg base CX0 1 fD gD ["_law_at"] (spDue3 K)) (FD : Df K mg "_law_base_due" sLDue ["_law_at"] fD gD)
    (GF : FnOk P w K mg base CX0 1 fF gF ["_law_e"] (spField cs)) (FF : Df K mg "_law_field" sLField ["_law_e"] fF gF)
    (GA : FnG P w K mg base 3 fA gA ["_law_one", "_law_thing_here"] (spAlike K cs)) (FA : Df K mg "_law_alike" sLAlike ["_law_one", "_law_thing_here"] fA gA)
    (F : Df K mg "_law_right" sLRight ["_law_thing_here"] f fd) : FnG P w K mg base 4 f fd ["_law_thing_here"] (spRight K cs) := by
  refine fn_g F.F scLRight (fun vs H Q E h => ?_) (fun cdv A outer s H vs Q E hA hr h => ?_)
  · obtain ⟨k, v, o, rfl, _⟩ := h; rfl
  · obtain ⟨k, v, o, rfl, ht, q⟩ := h
    have hr1 := hr.mono (show 1 ≤ 3 by decide)
    show RB (rtX P w K mg base f cdv A outer s H E) (defBody sLRight) _ [some v, none, none, none, none, none, none, none, none, none] H
    refine rb_setR 1 (re_call GM hr FM.g FM.F.kp FM.b (ra_1 (XV.go (xv_name 0 rfl) fun Ha sa => ⟨v, rfl, fun p xs H1 s1 hp hx => ?_⟩))) scLRight.nd
    have s01 := sa.trans s1
    refine right1 T Y Z GK FK GD FD hr1 hp hx fun H2 a2 a3 a4 a5 a6 s2 => ?_
    refine right2 T Y (s2 _ _ hp) (hx.up s2) fun H3 p' ys a3 s3 hp' hy => ?_
    exact right3 T Y GN FN GK FK GF FF GA FA hA hr (ht.up ((s01.trans s2).trans s3)) hp' hy fun H4 s4 => q H4 (((s01.trans s2).trans s3).trans s4)
end
end Zn

set_option Elab.async false
set_option linter.all false
set_option maxRecDepth 100000
set_option maxHeartbeats 8000000
namespace Zn
open PySem PySem.Spec PyProof.Rows L2 Dl
/-! k01: what shows itself how; the things of the law -/
structure Rz (K : PySem.W.Frag) (cs : Nat → Addr) : Prop where
  rp : ∃ cd, PySem.W.clsIn K (cs 3) = some cd ∧ (Str.ofString ((cd.name.toString.cutAt '.').getLastD "")).length ≤ 100 ∧ PySem.W.findIn K (.ref (cs 3)) "__repr__" = some (some (.builtin "BaseException.__repr__"))
theorem int_len {n : Int} (h : n.natAbs.log2 < 1000) : (Str.ofString (toString n)).length ≤ 1001 := by
  rw [PySem.ofString_length]
  exact int_text_length_le (by decide) h
theorem repr_len {x : Str} (h : PyData.strOk x = true) (hl : x.length ≤ 100) : (reprText x).length ≤ 1002 := by
  have := StrLaws.reprText_len x fun c hc => by
    have h1 : x.cps.all (· < 0x110000) = true := h
    have h2 := (Array.all_eq_true'.mp h1) c (Array.mem_toList_iff.mp hc)
    have h3 : c < 0x110000 := by simpa using h2
    omega
  omega
theorem litL {s : String} : (Str.ofString s).length = s.length := PySem.ofString_length s
theorem listText_le {ts : List Str} {m k : Nat} (h1 : (ts.map (·.length)).sum ≤ m) (h2 : ts.length ≤ k) : (listText ts).length ≤ m + 2 * k + 2 := by
  have h := textFrom_len_le ts 0 "["
  show (textFrom 0 "[" ts ++ ("]" : Str)).length ≤ _
  rw [Str.length_append]
  have e1 : ("[" : Str).length = 1 := by decide
  have e2 : ("]" : Str).length = 1 := by decide
  omega
theorem tupleText_le {ts : List Str} {m k : Nat} (h1 : (ts.map (·.length)).sum ≤ m) (h2 : ts.length ≤ k) : (tupleText ts).length ≤ m + 2 * k + 3 := by
  have h := StrLaws.join_length_le ", " ts
  show ((("(" : Str) ++ Str.join ", " ts) ++ (if ts.length == 1 then ",)" else ")" : String)).length ≤ _
  rw [Str.length_append, Str.length_append]
  have e1 : ("(" : Str).length = 1 := by decide
  have e2 : (", " : Str).length = 2 := by decide
  have e3 : (Str.ofString (if ts.length == 1 then ",)" else ")" : String)).length ≤ 2 := by
    cases (ts.length == 1) <;> decide
  rw [e2] at h
  have e4 : ts.length * 2 ≤ k * 2 := Nat.mul_le_mul_right 2 h2
  omega
theorem dictText_le {ts : List Str} {m k : Nat} (h1 : (ts.map (·.length)).sum ≤ m) (h2 : ts.length ≤ k) : (dictText ts).length ≤ m + 2 * k + 2 := by
  have h := StrLaws.join_length_le ", " ts
  show ((("{" : Str) ++ Str.join ", " ts) ++ ("}" : Str)).length ≤ _
  rw [Str.length_append, Str.length_append]
  have e1 : ("{" : Str).length = 1 := by decide
  have e2 : (", " : Str).length = 2 := by decide
  have e3 : ("}" : Str).length = 1 := by decide
  rw [e2] at h
  have e4 : ts.length * 2 ≤ k * 2 := Nat.mul_le_mul_right 2 h2
  omega
/-- one of the first eight things -/
def P8 (cs : Nat → Addr) (H : Hp) (v : V) : Prop := (∃ T, PlV v T) ∨ ∃ a t1 d fs, ∃ m : Int, v = .ref a ∧ H a = some (exv a (cs 3) t1 (some d)) ∧ H d = some (exd d fs) ∧ H t1 = some (.tup [.int m]) ∧ m.natAbs.log2 < 1000
theorem P8.up {cs : Nat → Addr} {H H1 : Hp} {v : V} (h : P8 cs H v) (s : Same H H1) : P8 cs H1 v := by
  rcases h with h | ⟨a, t1, d, fs, m, e, h1, h2, h3, h4⟩
  · exact .inl h
  · exact .inr ⟨a, t1, d, fs, m, e, s _ _ h1, s _ _ h2, s _ _ h3, h4⟩
section
variable {P : Program} {w : World} {K : PySem.W.Frag} {mg : Str → Option Value} {base : Heap} {cs : Nat → Addr} {H : Hp} {v : V}
theorem P8.rp (Y : Ys P w K mg base cs) (R : Rz K cs) (h : P8 cs H v) : ∃ t : Str, t.length ≤ 1200 ∧ ∀ X : Cx, X.K = K → ∀ as d, Rp X H as d v t := by
  rcases h with ⟨T, h⟩ | ⟨a, t1, d, fs, m, rfl, h1, h2, h3, h4⟩
  · cases h with
    | non => exact ⟨_, by decide, fun X _ as d => rp_non⟩
    | @bl b => exact ⟨blT b, by cases b <;> decide, fun X _ as d => rp_bl⟩
    | @int n hn => exact ⟨_, Nat.le_trans (int_len hn) (by decide), fun X _ as d => rp_int (by omega)⟩
    | @str x hx hl => exact ⟨_, Nat.le_trans (repr_len hx hl) (by decide), fun X _ as d => rp_str (Nat.le_trans (repr_len hx hl) (by decide))⟩
  · obtain ⟨cd, cc, hz, hs⟩ := R.rp
    refine ⟨exTxt cd m, ?_, fun X e as d => rp_exi (by rw [e]; exact Y.ask 3 (by decide)) (by rw [e]; exact cc) (by rw [e]; exact hs) h1 h3 (by omega)⟩
    unfold exTxt
    rw [Str.length_append, Str.length_append, Str.length_append]
    have e1 : (Str.ofString "(").length = 1 := by decide
    have e2 : (Str.ofString ")").length = 1 := by decide
    have e3 := int_len h4
    omega
theorem PlV.sh {T : String} (h : PlV v T) : ∃ t, ∀ X : Cx, X.K = K → Sh X H v t := by
  cases h with
  | non => exact ⟨_, fun X _ => sh_non⟩
  | bl => exact ⟨_, fun X _ => sh_bl⟩
  | int hn => exact ⟨_, fun X _ => sh_int (by omega)⟩
  | str hx hl => exact ⟨_, fun X _ => sh_str (Nat.le_trans (repr_len hx hl) (by decide))⟩
/-- a list of a thing and a list -/
structure In2 (cs : Nat → Addr) (H : Hp) (l q : Addr) (p : V) : Prop where
  hl : H l = some (.lst [p, .ref q])
  hq : H q = some (.lst [.int 3])
  ne : l ≠ q
  pp : P8 cs H p
theorem In2.up {l q : Addr} {p : V} {H1 : Hp} (h : In2 cs H l q p) (s : Same H H1) : In2 cs H1 l q p := ⟨s _ _ h.hl, s _ _ h.hq, h.ne, h.pp.up s⟩
def tx3 : Str := listText [Str.ofString (toString (3 : Int))]
theorem In2.items {l q : Addr} {p : V} (Y : Ys P w K mg base cs) (R : Rz K cs) (h : In2 cs H l q p) : ∃ t : Str, t.length ≤ 1200 ∧ ∀ X : Cx, X.K = K → RpA X H [q] 1 [p, .ref q] [t, tx3] := by
  obtain ⟨t, ht, hr⟩ := h.pp.rp Y R
  exact ⟨t, ht, fun X e => .cons (hr X e _ _) (.cons (rp_lst h.hq (by simp) (.cons (rp_int (by decide)) .nil)) .nil)⟩
theorem in2_le {t : Str} (ht : t.length ≤ 1200) : (([t, tx3] : List Str).map (·.length)).sum ≤ 1210 := by
  have e : tx3.length ≤ 10 := by decide +kernel
  simp only [List.map_cons, List.map_nil, List.sum_cons, List.sum_nil]
  omega
theorem In2.lst {l q : Addr} {p : V} (Y : Ys P w K mg base cs) (R : Rz K cs) (h : In2 cs H l q p) : ∃ t : Str, t.length ≤ 1300 ∧ ∀ X : Cx, X.K = K → Rp X H [l, q] 2 (.ref l) t := by
  obtain ⟨t, ht, hr⟩ := h.items Y R
  exact ⟨listText [t, tx3], Nat.le_trans (listText_le (k := 2) (in2_le ht) (Nat.le_refl 2)) (by decide), fun X e => rp_lst h.hl (by simpa using h.ne) (hr X e)⟩
theorem In2.lk {l q : Addr} {p : V} (h : In2 cs H l q p) : ∀ l', some q = some l' → ∃ xs, H l' = some (.lst xs) ∧ xs.length ≤ 10 := fun l' e => by
  cases e
  exact ⟨_, h.hq, by decide⟩
theorem thg_pl {T : String} (h : PlV v T) : Thg K cs H .pl v none := ⟨.pl h, fun l e => (by cases e), fun _ => h.sh⟩
theorem thg_8 (h : P8 cs H v) : ∃ k o, Thg K cs H k v o := by
  rcases h with ⟨T, h⟩ | ⟨a, t1, d, fs, m, rfl, h1, h2, h3, h4⟩
  · exact ⟨_, _, thg_pl h⟩
  · exact ⟨.tm, none, ⟨.tm h1 h2, fun l e => (by cases e), fun e => (by cases e)⟩⟩
theorem thg_lst {l q : Addr} {p : V} (Y : Ys P w K mg base cs) (R : Rz K cs) (h : In2 cs H l q p) : Thg K cs H .lst (.ref l) (some q) := by
  refine ⟨.lst h.hl h.ne, h.lk, fun _ => ?_⟩
  obtain ⟨t, ht, hr⟩ := h.items Y R
  exact ⟨_, fun X e => sh_lst h.hl (by simpa using h.ne) (hr X e) (by decide) (Nat.le_trans (listText_le (k := 2) (in2_le ht) (Nat.le_refl 2)) (by decide))⟩
theorem thg_tup {l q b : Addr} {p : V} (Y : Ys P w K mg base cs) (R : Rz K cs) (h : In2 cs H l q p) (hb : H b = some (.tup [p, .ref q])) : Thg K cs H .tup (.ref b) (some q) := by
  refine ⟨.tup hb, h.lk, fun _ => ?_⟩
  obtain ⟨t, ht, hr⟩ := h.items Y R
  have nb : b ∉ [q] := fun z => by
    simp only [List.mem_singleton] at z
    rw [z, h.hq] at hb
    cases hb
  exact ⟨_, fun X e => sh_tup hb nb (hr X e) (by decide) (Nat.le_trans (tupleText_le (k := 2) (in2_le ht) (Nat.le_refl 2)) (by decide))⟩
theorem In2.nd {l q b : Addr} {p : V} {kvs : List (Key × V)} (h : In2 cs H l q p) (hb : H b = some (.dK kvs)) : b ∉ [l, q] := fun z => by
  simp only [List.mem_cons, List.not_mem_nil, or_false] at z
  rcases z with z | z
  · rw [z, h.hl] at hb; cases hb
  · rw [z, h.hq] at hb; cases hb
theorem thg_d1 {l q b : Addr} {p : V} (Y : Ys P w K mg base cs) (R : Rz K cs) (h : In2 cs H l q p) (hb : H b = some (.dK [(.inr "k", .ref l)])) : Thg K cs H .dct (.ref b) (some q) := by
  refine ⟨.dct hb (by rfl) h.hl h.ne, h.lk, fun _ => ?_⟩
  obtain ⟨t, ht, hr⟩ := h.lst Y R
  refine ⟨_, fun X e => sh_dct hb (h.nd hb) (.str (by decide +kernel) (hr X e) .nil) (by decide) (Nat.le_trans (dictText_le (m := 1400) (k := 1) ?_ (Nat.le_refl 1)) (by decide))⟩
  simp only [List.map_cons, List.map_nil, List.sum_cons, List.sum_nil, Str.length_append]
  have e1 : (reprText "k").length ≤ 12 := by decide +kernel
  have e2 : (": " : Str).length = 2 := by decide
  omega
theorem thg_d2 {l q b : Addr} {p : V} (Y : Ys P w K mg base cs) (R : Rz K cs) (h : In2 cs H l q p) (hb : H b = some (.dK [(.inl 4, .str "x"), (.inr "k", .ref l)])) : Thg K cs H .dct (.ref b) (some q) := by
  refine ⟨.dct hb (by rfl) h.hl h.ne, h.lk, fun _ => ?_⟩
  obtain ⟨t, ht, hr⟩ := h.lst Y R
  refine ⟨_, fun X e => sh_dct hb (h.nd hb) (.int (by decide) (rp_str (by decide +kernel)) (.str (by decide +kernel) (hr X e) .nil)) (by decide) (Nat.le_trans (dictText_le (m := 1500) (k := 2) ?_ (Nat.le_refl 2)) (by decide))⟩
  simp only [List.map_cons, List.map_nil, List.sum_cons, List.sum_nil, Str.length_append]
  have e1 : (reprText "k").length ≤ 12 := by decide +kernel
  have e2 : (": " : Str).length = 2 := by decide
  have e3 : (reprText "x").length ≤ 12 := by decide +kernel
  have e4 : (Str.ofString (toString (4 : Int))).length ≤ 3 := by decide +kernel
  omega
theorem thg_nm {a t1 d l : Addr} {n : Int} (h1 : H a = some (exv a (cs 2) t1 (some d))) (h2 : H d = some (exd d [("value", .ref l)])) (h3 : H l = some (.lst [.int n])) : Thg K cs H .nm (.ref a) (some l) :=
  ⟨.nm h1 h2, fun l' e => (by cases e; exact ⟨_, h3, by simp⟩), fun e => (by cases e)⟩
end
end Zn

set_option Elab.async false
set_option linter.all false
set_option maxRecDepth 100000
set_option maxHeartbeats 8000000
namespace Zn
open PySem PySem.Spec PyProof.Rows L2 Dl
/-! k01: _law_thing -/
def repA (m : Nat) : Str := ⟨(List.replicate m ("a" : Str).cps).foldl (· ++ ·) #[]⟩
theorem rep_facts : ∀ m : Fin 30, PyData.strOk (repA m.val) = true ∧ (repA m.val).length ≤ 100 ∧ (decide (((m.val : Nat) : Int) < -(2 ^ 63 : Int)) || decide (((m.val : Nat) : Int) ≥ 2 ^ 63)) = false := by decide +kernel
theorem rep_facts2 : ∀ m : Fin 30, PySem.Builtin.Str.tooLong (("a" : Str).length * ((m.val : Nat) : Int).toNat) = false ∧ (((m.val : Nat) : Int) < 1 ∨ ¬ ((("a" : Str).length : Int) > (2 ^ 63 - 1) / ((m.val : Nat) : Int))) := by decide +kernel
section
variable {X : Cx} {M : List Addr} {σ : L2.St} {H : Hp} {a b e : Expr} {es : List Expr} {pos p1 p2 : Pos} {Q : VK}
/-- 'a' * m -/
theorem op_mulA : OpR X (binaryOp .Mult) (fun x y H Q => x = .str "a" ∧ ∃ m : Nat, y = .int (m : Int) ∧ m < 30 ∧ ∀ z : Str, PyData.strOk z = true → z.length ≤ 100 → Q (.str z) H) := by
  intro pins s σ H x y v u Q I rx ry h
  obtain ⟨rfl, m, rfl, hm, q⟩ := h
  obtain ⟨t, rfl⟩ := rx
  obtain ⟨t', rfl⟩ := ry
  obtain ⟨f1, f2, f3⟩ := rep_facts ⟨m, hm⟩
  obtain ⟨g1, g2⟩ := rep_facts2 ⟨m, hm⟩
  refine P.mul_str f3 (fun n _ => g2.resolve_left n) (fun _ _ => g1) ?_
  by_cases h1 : (m : Int) < 1
  · rw [if_pos h1]
    exact ⟨by decide, ⟨.str Str.empty, H, I.tok _, ⟨_, rfl⟩, q Str.empty (by decide +kernel) (by decide)⟩⟩
  · rw [if_neg h1]
    by_cases h2 : ((m : Int) == 1 || ("a" : Str).length == 0) = true
    · rw [if_pos h2]
      exact ⟨.str "a", H, I, ⟨t, rfl⟩, q "a" (by decide +kernel) (by decide)⟩
    · rw [if_neg h2]
      exact ⟨by show (repA m).length ≤ _; exact Nat.le_trans f2 (by decide), ⟨.str (repA m), H, I.tok _, ⟨_, rfl⟩, q _ f1 f2⟩⟩
theorem xv_non {j} : XV X σ H (.Constant .none j pos) .non := fun H1 _ Q q => ⟨_, pe_non, q H1 (Same.refl _)⟩
theorem xv_bl {k : Bool} {j} : XV X σ H (.Constant (.bool k) j pos) (.bl k) := fun H1 _ Q q => ⟨_, pe_bl, q H1 (Same.refl _)⟩
theorem same_dict {p : Addr} {kvs : List (Key × V)} {H1 : Hp} (hp : H p = none) (s : Same (upd H p (.dK [])) H1) : Same H (upd H1 p (.dK kvs)) := fun b o e => by
  have hb : b ≠ p := fun z => by rw [z, hp] at e; cases e
  rw [upd_ne hb]
  exact s b o (by rw [upd_ne hb]; exact e)
end
/-- not the bag -/
theorem bag_ne {H : Hp} {a b : Addr} {n : Nat} {o : HO} (h : BagAt H b n) (e : H a = some o) (ho : ∀ g m c : Int, o ≠ .lst [.int g, .int m, .int c]) : a ≠ b := fun z => by
  obtain ⟨g, m, c, hb, _⟩ := h
  rw [z, hb] at e
  exact ho g m c (Option.some.inj e).symm
theorem bag_keep {H H1 : Hp} {a b : Addr} {n : Nat} {o : HO} (h : BagAt H b n) (s : SameB b H H1) (e : H a = some o) (ho : ∀ g m c : Int, o ≠ .lst [.int g, .int m, .int c]) : H1 a = some o := s _ _ (bag_ne h e ho) e
section
variable {cs : Nat → Addr} {H H1 : Hp} {b : Addr} {n : Nat} {v : V}
theorem P8.upB (h : P8 cs H v) (hb : BagAt H b n) (s : SameB b H H1) : P8 cs H1 v := by
  rcases h with h | ⟨a, t1, d, fs, m, e, h1, h2, h3, h4⟩
  · exact .inl h
  · exact .inr ⟨a, t1, d, fs, m, e, bag_keep hb s h1 fun _ _ _ => exv_lst, bag_keep hb s h2 fun _ _ _ => exd_lst, bag_keep hb s h3 fun _ _ _ z => (by cases z), h4⟩
theorem In2.upB {l q : Addr} {p : V} (h : In2 cs H l q p) (hb : BagAt H b n) (s : SameB b H H1) : In2 cs H1 l q p :=
  ⟨bag_keep hb s h.hl fun _ _ _ z => (by cases z), bag_keep hb s h.hq fun _ _ _ z => (by cases z), h.ne, h.pp.upB hb s⟩
/-- one of the thirteen things -/
inductive T13 (cs : Nat → Addr) (H : Hp) : V → Prop
  | p8 {v : V} : P8 cs H v → T13 cs H v
  | lst {l q : Addr} {p : V} : In2 cs H l q p → T13 cs H (.ref l)
  | tup {l q a : Addr} {p : V} : In2 cs H l q p → H a = some (.tup [p, .ref q]) → T13 cs H (.ref a)
  | d1 {l q a : Addr} {p : V} : In2 cs H l q p → H a = some (.dK [(.inr "k", .ref l)]) → T13 cs H (.ref a)
  | d2 {l q a : Addr} {p : V} : In2 cs H l q p → H a = some (.dK [(.inl 4, .str "x"), (.inr "k", .ref l)]) → T13 cs H (.ref a)
  | nm {a t1 d l : Addr} {m : Int} : H a = some (exv a (cs 2) t1 (some d)) → H d = some (exd d [("value", .ref l)]) → H l = some (.lst [.int m]) → T13 cs H (.ref a)
theorem T13.upB (h : T13 cs H v) (hb : BagAt H b n) (s : SameB b H H1) : T13 cs H1 v := by
  cases h with
  | p8 h => exact .p8 (h.upB hb s)
  | lst h => exact .lst (h.upB hb s)
  | tup h e => exact .tup (h.upB hb s) (bag_keep hb s e fun _ _ _ z => by cases z)
  | d1 h e => exact .d1 (h.upB hb s) (bag_keep hb s e fun _ _ _ z => by cases z)
  | d2 h e => exact .d2 (h.upB hb s) (bag_keep hb s e fun _ _ _ z => by cases z)
  | nm h1 h2 h3 => exact .nm (bag_keep hb s h1 fun _ _ _ => exv_lst) (bag_keep hb s h2 fun _ _ _ => exd_lst) (bag_keep hb s h3 fun _ _ _ z => by cases z)
theorem T13.thg {P : Program} {w : World} {K : PySem.W.Frag} {mg : Str → Option Value} {base : Heap} (Y : Ys P w K mg base cs) (R : Rz K cs) (h : T13 cs H v) : ∃ k o, Thg K cs H k v o := by
  cases h with
  | p8 h => exact thg_8 h
  | lst h => exact ⟨_, _, thg_lst Y R h⟩
  | tup h e => exact ⟨_, _, thg_tup Y R h e⟩
  | d1 h e => exact ⟨_, _, thg_d1 Y R h e⟩
  | d2 h e => exact ⟨_, _, thg_d2 Y R h e⟩
  | nm h1 h2 h3 => exact ⟨_, _, thg_nm h1 h2 h3⟩
end
theorem log_small {n : Int} (h : n.natAbs < 2 ^ 200) : n.natAbs.log2 < 1000 := by
  by_cases z : n.natAbs = 0
  · rw [z]; decide
  · exact (Nat.log2_lt z).mpr (Nat.lt_of_lt_of_le h (Nat.pow_le_pow_right (by decide) (by decide)))
abbrev sLThing : Stmt := top 47
abbrev thN : List Str := ["_law_box_here", "_law_amount", "_law_plain", "_law_inner_here", "_law_made_here"]
theorem scLThing : FnScope thN ["_law_box_here"] (defScope sLThing) := ⟨rfl, rfl, rfl, by decide +kernel, rfl, by decide +kernel, by decide +kernel⟩
def spThing (K : PySem.W.Frag) (cs : Nat → Addr) : Sp := fun vs H Q _ => ∃ b n, vs = [.ref b] ∧ BagAt H b n ∧ n ≤ 100 ∧ ∀ k v o H1, SameB b H H1 → Thg K cs H1 k v o → Q v H1
section
variable {P : Program} {w : World} {K : PySem.W.Frag} {mg : Str → Option Value} {base : Heap} {cs : Nat → Addr} {f fT : Addr} {fd gT : FuncData}
theorem ok_lthing (T : Nm mg) (Y : Ys P w K mg base cs) (R : Rz K cs) (GT : FnOk P w K mg base CX0 1 fT gT ["_law_box_here", "_law_many"] spTake) (FT : Df K mg "_law_take" sTake ["_law_box_here", "_law_many"] fT gT)
    (F : Df K mg "_law_thing" sLThing ["_law_box_here"] f fd) : FnOk P w K mg base CX0 3 f fd ["_law_box_here"] (spThing K cs) := by
  refine F.F.ok scLThing (fun vs H Q E h => ?_) (fun cdv A outer s H vs Q E hr h => ?_)
  · obtain ⟨b, n, rfl, _⟩ := h; rfl
  · obtain ⟨b, n, rfl, hB, hn, q⟩ := h
    obtain ⟨f2, d2, z2, k2⟩ := Y.y2
    obtain ⟨f3, d3, z3, k3⟩ := Y.y3
    have hr1 := hr.mono (show 1 ≤ 2 by decide)
    show RB (cxOf CX0 P w K mg base thN "_law_thing" (defScope sLThing) f cdv A outer s H E).nox (defBody sLThing) _ [some (.ref b), none, none, none, none] H
    refine rb_setR 1 (re_take (n := n) (many := 10 ^ 29) GT FT hr1 (xv_name 0 rfl) (xd_pow (M := []) xd_int xd_int ⟨by decide, by decide, by decide⟩).vint hB fun am H1 a0 a1 sB1 hB1 => ?_) scLThing.nd
    have am2 : am.natAbs < 2 ^ 200 := by omega
    have am30 : ∃ m : Nat, am % 30 = (m : Int) ∧ m < 30 := ⟨(am % 30).toNat, by omega, by omega⟩
    obtain ⟨m, em, hm⟩ := am30
    refine rb_setR 2 (re_lstR ?_) scLThing.nd
    refine ra_cons (XV.go xv_non fun H2 s2 => ?_)
    refine ra_cons (XV.go xv_bl fun H3 s3 => ?_)
    refine ra_cons (XV.go xv_bl fun H4 s4 => ?_)
    refine ra_cons (XV.go (xv_name 1 rfl) fun H5 s5 => ?_)
    refine ra_cons (XV.go (xd_sub (M := []) xd_int (xv_name 1 rfl).int).vint fun H6 s6 => ?_)
    refine ra_cons (re_bin op_mulA (XV.go xv_str fun H7 s7 => XV.go (xd_mod (M := []) (xv_name 1 rfl).int xd_int (by decide)).vint fun H8 s8 => ⟨rfl, m, congrArg V.int em, hm, fun z hz1 hz2 => ?_⟩))
    refine ra_cons (XV.go xv_str fun H9 s9 => ?_)
    refine ra_1 (re_exv z3 hr (XV.go (xd_mod (M := []) (xv_name 1 rfl).int xd_int (by decide)).vint fun Ha sa => fun ea t1 dd Hb ha0 hb0 hc0 hne sb h1 h2 h3 => ⟨by simp, fun pl Hc sc hpl0 hpl => ?_⟩))
    have sAll : Same H1 Hc := ((((((((s2.trans s3).trans s4).trans s5).trans s6).trans s7).trans s8).trans s9).trans sa).trans (sb.trans sc)
    generalize hvs : ([V.non, .bl true, .bl false, .int am, .int (0 - am), .str z, .str "start", .ref ea] : List V) = vs at hpl
    have v8 : ∀ y ∈ vs, P8 cs Hc y := by
      subst hvs
      intro y hy
      simp only [List.mem_cons, List.not_mem_nil, or_false] at hy
      rcases hy with rfl | rfl | rfl | rfl | rfl | rfl | rfl | rfl
      · exact .inl ⟨_, .non⟩
      · exact .inl ⟨_, .bl⟩
      · exact .inl ⟨_, .bl⟩
      · exact .inl ⟨_, .int (log_small am2)⟩
      · exact .inl ⟨_, .int (log_small (by omega))⟩
      · exact .inl ⟨_, .str hz1 hz2⟩
      · exact .inl ⟨_, .str (by decide +kernel) (by decide)⟩
      · exact .inr ⟨ea, t1, dd, _, am % 99, rfl, sc _ _ h1, sc _ _ h2, sc _ _ h3, log_small (by omega)⟩
    have vlen : vs.length = 8 := by rw [← hvs]; rfl
    clear hvs h1 h2 h3
    have hBc : BagAt Hc b (n + 1) := hB1.up sAll (Nat.le_refl _)
    have nb : ∀ {x : Addr} {H' : Hp} {j : Nat}, BagAt H' b j → H' x = none → x ≠ b := fun hh e z => by
      rw [z] at e
      exact hh.some e
    have npl : pl ≠ b := nb (hB1.up (((((((((s2.trans s3).trans s4).trans s5).trans s6).trans s7).trans s8).trans s9).trans sa).trans sb) (Nat.le_refl _)) hpl0
    -- the inner list
    refine rb_setR 3 (re_lstR ?_) scLThing.nd
    refine ra_cons ⟨_, pe_ix ix_list re_ re_ (fun _ _ => rfl), XV.go (xv_name 2 rfl) fun Hd sd => ?_⟩
    refine re_take (n := n + 1) (many := 8) GT FT hr1 (xv_name 0 rfl) xv_int (hBc.up sd (Nat.le_refl _)) fun r He r0 r1 sB2 hB2 => ?_
    have hlt : r.toNat < vs.length := by omega
    refine ⟨pl, vs, r, vs[r.toNat], rfl, rfl, SqL.of (sB2 _ _ npl (sd _ _ hpl)), at_any r0 hlt, ?_⟩
    have hv0 : P8 cs Hc vs[r.toNat] := v8 _ (List.getElem_mem hlt)
    have hv1 : P8 cs He vs[r.toNat] := (hv0.up sd).upB (hBc.up sd (Nat.le_refl _)) sB2
    have hpl1 : He pl = some (.lst vs) := sB2 _ _ npl (sd _ _ hpl)
    have v81 : ∀ y ∈ vs, P8 cs He y := fun y hy => ((v8 y hy).up sd).upB (hBc.up sd (Nat.le_refl _)) sB2
    generalize vs[r.toNat] = p at hv1
    clear hv0 v8
    refine ra_1 (re_lstR (ra_1 (XV.go xv_int fun Hf sf => ⟨by simp, fun ql Hg sg hq0 hq => ⟨by simp, fun il Hh sh hil0 hil => ?_⟩⟩)))
    have i2 : In2 cs Hh il ql p := ⟨hil, sh _ _ hq, fun z => (by rw [z] at hil0; rw [hil0] at hq; cases hq), hv1.up ((sf.trans sg).trans sh)⟩
    have s3' := (sf.trans sg).trans sh
    have hBh : BagAt Hh b (n + 2) := hB2.up s3' (Nat.le_refl _)
    -- the things made of it
    refine rb_setR 4 (re_lstR ?_) scLThing.nd
    refine ra_cons (XV.go (xv_name 3 rfl) fun Hi si => ?_)
    refine ra_cons (re_Ty call_tuple_of (ra_1 (XV.go (xv_name 3 rfl) fun Hj sj => ⟨il, _, rfl, .inl ⟨SqL.of ((si.trans sj) _ _ hil), fun tp htp => ?_⟩⟩)) T.tup (by decide +kernel) (hn := by decide) (hdb := by decide))
    have t1 : Same Hh (upd Hj tp (.tup [p, .ref ql])) := (si.trans sj).trans (same_new htp)
    have t2 : upd Hj tp (.tup [p, .ref ql]) tp = some (.tup [p, .ref ql]) := upd_same
    generalize upd Hj tp (.tup [p, .ref ql]) = H10 at t1 t2
    refine ra_cons ⟨_, pe_disp (pps_cons pe_str re_ pps_nil) rfl rfl (by simp) (by simp), fun da hda => XV.go (xv_name 3 rfl) fun Hk sk => ⟨sk _ _ upd_same, [(.inr "k", .ref il)], rfl, by show 1 ≤ 15; decide, ?_⟩⟩
    have u1 : Same H10 (upd Hk da (.dK (mergeK [] [(.inr "k", .ref il)]))) := same_dict hda sk
    have u2 : upd Hk da (.dK (mergeK [] [(.inr "k", .ref il)])) da = some (.dK [(.inr "k", .ref il)]) := upd_same
    generalize upd Hk da (.dK (mergeK [] [(.inr "k", .ref il)])) = H11 at u1 u2
    refine ra_cons ⟨_, pe_disp (pps_cons pe_int pe_str (pps_cons pe_str re_ pps_nil)) rfl rfl (by simp) (by simp), fun db hdb => XV.go (xv_name 3 rfl) fun Hl sl => ⟨sl _ _ upd_same, [(.inl 4, .str "x"), (.inr "k", .ref il)], rfl, by show 2 ≤ 15; decide, ?_⟩⟩
    have w1 : Same H11 (upd Hl db (.dK (mergeK [] [(.inl 4, .str "x"), (.inr "k", .ref il)]))) := same_dict hdb sl
    have w2 : upd Hl db (.dK (mergeK [] [(.inl 4, .str "x"), (.inr "k", .ref il)])) db = some (.dK [(.inl 4, .str "x"), (.inr "k", .ref il)]) := upd_same
    generalize upd Hl db (.dK (mergeK [] [(.inl 4, .str "x"), (.inr "k", .ref il)])) = H12 at w1 w2
    refine ra_1 (re_exv z2 hr (re_lstR (ra_1 (XV.go (xv_name 1 rfl) fun H13 s13 => ⟨by simp, fun nl H14 s14 _ hnl => fun na t5 nd H15 _ _ _ _ s15 n1 n2 n3 => ⟨by simp, fun ml H16 s16 hml0 hml => ?_⟩⟩))))
    have x1 : Same H12 H16 := ((s13.trans s14).trans s15).trans s16
    have tAll : ∀ y ∈ vs ++ [V.ref il, .ref tp, .ref da, .ref db, .ref na], T13 cs H16 y := by
      have i3 := i2.up (((t1.trans u1).trans w1).trans x1)
      intro y hy
      rcases List.mem_append.mp hy with hy | hy
      · exact .p8 ((v81 y hy).up (((((s3'.trans t1).trans u1).trans w1).trans x1)))
      · simp only [List.mem_cons, List.not_mem_nil, or_false] at hy
        rcases hy with rfl | rfl | rfl | rfl | rfl
        · exact .lst i3
        · exact .tup i3 (((u1.trans w1).trans x1) _ _ t2)
        · exact .d1 i3 ((w1.trans x1) _ _ u2)
        · exact .d2 i3 (x1 _ _ w2)
        · exact .nm (s16 _ _ n1) (s16 _ _ n2) ((s15.trans s16) _ _ hnl)
    have sA : Same Hh H16 := ((t1.trans u1).trans w1).trans x1
    have hB16 : BagAt H16 b (n + 2) := hBh.up sA (Nat.le_refl _)
    have hpl16 : H16 pl = some (.lst vs) := (s3'.trans sA) _ _ hpl1
    have sB16 : SameB b H H16 := (((sB1.trans (.of sAll)).trans (.of sd)).trans sB2).trans ((SameB.of s3').trans (.of sA))
    refine rb_retR ⟨_, pe_ix ix_list re_ re_ (fun _ _ => rfl), re_bin op_cat (XV.go (xv_name 2 rfl) fun H17 s17 => XV.go (xv_name 4 rfl) fun H18 s18 => ⟨pl, ml, vs, _, rfl, rfl, (s17.trans s18) _ _ hpl16, (s17.trans s18) _ _ hml, small_sz (by rw [vlen]; simp), fun ul hul => ?_⟩)⟩
    have s1718 := (s17.trans s18).trans (same_new (o := .lst (vs ++ [V.ref il, .ref tp, .ref da, .ref db, .ref na])) hul)
    have hul2 : upd H18 ul (.lst (vs ++ [V.ref il, .ref tp, .ref da, .ref db, .ref na])) ul = some (.lst (vs ++ [V.ref il, .ref tp, .ref da, .ref db, .ref na])) := upd_same
    have nul : ul ≠ b := nb (hB16.up (s17.trans s18) (Nat.le_refl _)) hul
    generalize upd H18 ul (.lst (vs ++ [V.ref il, .ref tp, .ref da, .ref db, .ref na])) = H19 at s1718 hul2
    refine re_take (n := n + 2) (many := 13) GT FT hr1 (xv_name 0 rfl) xv_int (hB16.up s1718 (Nat.le_refl _)) fun r2 H20 r20 r21 sB3 hB3 => ?_
    have hlen : (vs ++ [V.ref il, .ref tp, .ref da, .ref db, .ref na]).length = 13 := by rw [List.length_append, vlen]; rfl
    have hlt2 : r2.toNat < (vs ++ [V.ref il, .ref tp, .ref da, .ref db, .ref na]).length := by omega
    refine ⟨ul, _, r2, _, rfl, rfl, SqL.of (sB3 _ _ nul hul2), at_any r20 hlt2, ?_⟩
    obtain ⟨k, o, hk⟩ := ((tAll _ (List.getElem_mem hlt2)).upB hB16 ((SameB.of s1718).trans sB3)).thg Y R
    exact q k _ o H20 ((sB16.trans (.of s1718)).trans sB3) hk
end
end Zn

set_option Elab.async false
set_option linter.all false
set_option maxRecDepth 100000
set_option maxHeartbeats 8000000
namespace Zn
open PySem PySem.Spec PyProof.Rows L2 Dl
/-! k01: _law_bases_right -/
structure Wz (K : PySem.W.Frag) (mg : Str → Option Value) (cb : Nat → Addr) : Prop where
  xT : XClsN K mg veTl "ValueError.__new__" "ValueError.__init__" "ValueError" "TimeError" (cb 0)
  xM : XClsN K mg SKx.keTl "LookupError.__new__" "KeyError.__init__" "KeyError" "MissingError" (cb 1)
  xS : XClsN K mg SLx.leTl "LookupError.__new__" "LookupError.__init__" "LookupError" "StateError" (cb 2)
  ask : ∀ i, i < 3 → XAsk K (cb i)
  kit : ∀ i j, i < 3 → j < 3 → PySem.W.kitOne K (.ref (cb i)) (.ref (cb j)) = some (decide (i = j))
  ve : PySem.W.kitOne K (.ref (cb 0)) (.type "ValueError") = some true
  ke : PySem.W.kitOne K (.ref (cb 1)) (.type "KeyError") = some true
  le : PySem.W.kitOne K (.ref (cb 2)) (.type "LookupError") = some true
section
variable {X : Cx} {M : List Addr} {σ : L2.St} {H : Hp} {a b e : Expr} {es : List Expr} {pos p1 p2 : Pos} {d : PyData} {Q : VK}
/-- [True] * 3 -/
theorem xd_true3 {j1 j2 : Nat} {q0 q1 q2 : Pos} : XD X [] σ H (.BinOp (.List [.Constant (.bool true) j1 q1] q0) .Mult (.Constant (.int 3) j2 q2) pos) (.list [.bool true, .bool true, .bool true]) := fun H1 s1 Q q =>
  re_bin op_rep (re_lstR (ra_1 (XV.go xv_bl fun H2 s2 => ⟨by decide, fun p H3 s3 hp h3 => XV.go xv_int fun H4 s4 => ⟨p, 3, _, rfl, rfl, s4 _ _ h3, by decide, by decide, by decide, fun p' hp' => q _ _ ((s2.trans s3).trans (s4.trans (same_new hp'))) (.lst (by rw [hid_nil]; exact upd_same) (.cons (.bl true) (.cons (.bl true) (.cons (.bl true) .nil))))⟩⟩)))
end
abbrev sLBases : Stmt := top 56
abbrev bsN : List Str := ["_law_word", "_law_made_here", "_law_python", "_law_kinds_here", "_law_e", "_law_at", "_law_other"]
theorem scLBases : FnScope bsN ["_law_word"] (defScope sLBases) := ⟨rfl, rfl, rfl, by decide +kernel, rfl, by decide +kernel, by decide +kernel⟩
def spBases : Sp := fun vs H Q _ => ∃ z, vs = [.str z] ∧ ∀ H1, Same H H1 → Q (.bl true) H1
def k3D (i : Nat) : PyData := .list ((List.range 3).map fun (j : Nat) => PyData.bool (decide ((i : Int) = (j : Int))))
theorem k3_all : SeqAt.shaped (.list ((List.range 3).map k3D)) = true := by decide +kernel
theorem vals_3 {K : PySem.W.Frag} {H : Hp} {cb : Nat → Addr} {xs : List V} {j : Nat} {x : V} (h0 : ∃ a0 a1 a2, xs = [V.ref a0, .ref a1, .ref a2] ∧ TyV K H (.ref a0) (.ref (cb 0)) ∧ TyV K H (.ref a1) (.ref (cb 1)) ∧ TyV K H (.ref a2) (.ref (cb 2))) (hx : xs[j]? = some x) : j < 3 ∧ TyV K H x (.ref (cb j)) := by
  obtain ⟨a0, a1, a2, rfl, t0, t1, t2⟩ := h0
  match j with
  | 0 => simp at hx; subst hx; exact ⟨by decide, t0⟩
  | 1 => simp at hx; subst hx; exact ⟨by decide, t1⟩
  | 2 => simp at hx; subst hx; exact ⟨by decide, t2⟩
  | j + 3 => simp at hx
section
variable {P : Program} {w : World} {K : PySem.W.Frag} {mg : Str → Option Value} {base : Heap} {cb : Nat → Addr} {f : Addr} {fd : FuncData}
theorem ok_lbases (T : Nm mg) (W : Wz K mg cb) (F : Df K mg "_law_bases_right" sLBases ["_law_word"] f fd) : FnOk P w K mg base CX0 1 f fd ["_law_word"] spBases := by
  refine F.F.ok scLBases (fun vs H Q E h => ?_) (fun cdv A outer s H vs Q E hr h => ?_)
  · obtain ⟨z, rfl, _⟩ := h; rfl
  · obtain ⟨z, rfl, q⟩ := h
    have hu := hr.units
    generalize hX : (cxOf CX0 P w K mg base bsN "_law_bases_right" (defScope sLBases) f cdv A outer s H E).nox = X0
    have hX' := hX
    subst hX'
    clear hX
    show RB (cxOf CX0 P w K mg base bsN "_law_bases_right" (defScope sLBases) f cdv A outer s H E).nox (defBody sLBases) _ [some (.str z), none, none, none, none, none, none] H
    refine rb_setR 1 (re_lstR ?_) scLBases.nd
    refine ra_cons (re_exc1 W.xT (XV.go (xv_name 0 rfl) fun H1 s1 a0 h0 => ?_))
    have t1 : Same H (upd H1 a0 (ExO (.ref (cb 0)) a0)) := s1.trans (same_new h0)
    have e1 : upd H1 a0 (ExO (.ref (cb 0)) a0) a0 = some (ExO (.ref (cb 0)) a0) := upd_same
    generalize upd H1 a0 (ExO (.ref (cb 0)) a0) = H2 at t1 e1
    refine ra_cons (re_exc1 W.xM (XV.go (xv_name 0 rfl) fun H3 s3 a1 h1 => ?_))
    have t2 : Same H2 (upd H3 a1 (ExO (.ref (cb 1)) a1)) := s3.trans (same_new h1)
    have e2 : upd H3 a1 (ExO (.ref (cb 1)) a1) a1 = some (ExO (.ref (cb 1)) a1) := upd_same
    generalize upd H3 a1 (ExO (.ref (cb 1)) a1) = H4 at t2 e2
    refine ra_1 (re_exc1 W.xS (XV.go (xv_name 0 rfl) fun H5 s5 a2 h2 => ?_))
    have t3 : Same H4 (upd H5 a2 (ExO (.ref (cb 2)) a2)) := s5.trans (same_new h2)
    have e3 : upd H5 a2 (ExO (.ref (cb 2)) a2) a2 = some (ExO (.ref (cb 2)) a2) := upd_same
    generalize upd H5 a2 (ExO (.ref (cb 2)) a2) = H6 at t3 e3
    refine ⟨by simp, fun p H7 s7 hp0 hp => ?_⟩
    have ty0 : TyV K H7 (.ref a0) (.ref (cb 0)) := .ex0 (W.ask 0 (by decide)) (((t2.trans t3).trans s7) _ _ e1)
    have ty1 : TyV K H7 (.ref a1) (.ref (cb 1)) := .ex0 (W.ask 1 (by decide)) ((t3.trans s7) _ _ e2)
    have ty2 : TyV K H7 (.ref a2) (.ref (cb 2)) := .ex0 (W.ask 2 (by decide)) (s7 _ _ e3)
    have s07 : Same H H7 := ((t1.trans t2).trans t3).trans s7
    clear s1 h0 s3 h1 s5 h2 e1 e2 e3 t1 t2 t3
    refine rb_setL 2 (M := []) (xl_lst Live.nil (xa_cons (xd_isV (xv_ixS (n := 0) (fun _ _ => rfl) (xv_name 1 rfl) (SqL.of hp) xv_int (atI_nat (j := 0) rfl)) ty0 (xv_bltn (v := .ty "ValueError") T.val (by decide +kernel) rfl rfl (by decide) (by decide)) (fun u r => r) W.ve T.isi)
      (xa_cons (xd_isV (xv_ixS (n := 1) (fun _ _ => rfl) (xv_name 1 rfl) (SqL.of hp) xv_int (atI_nat (j := 1) rfl)) ty1 (xv_bltn (v := .ty "KeyError") T.key (by decide +kernel) rfl rfl (by decide) (by decide)) (fun u r => r) W.ke T.isi)
      (xa_cons (xd_isV (xv_ixS (n := 2) (fun _ _ => rfl) (xv_name 1 rfl) (SqL.of hp) xv_int (atI_nat (j := 2) rfl)) ty2 (xv_bltn (v := .ty "LookupError") T.lkp (by decide +kernel) rfl rfl (by decide) (by decide)) (fun u r => r) W.le T.isi) xa_nil)))) (fun pb lb H8 s8 hpb hb hlb => ?_) scLBases.nd
    have db : Dq K (hid [] H8) (.ref pb) (.list [.bool true, .bool true, .bool true]) := .lst (by rw [hid_nil]; exact hb) hlb
    refine rb_ifF (XT.to (xt_neD (M := []) hu (xd_name 2 rfl db) xd_true3 (bools3 _ _ _) (bools3 _ _ _)) (by rw [SeqAt.eqv_refl _ (SeqAt.canLay_of_shaped (bools3 _ _ _))]; rfl)) fun H9 s9 => ?_
    have hp9 := (s8.trans s9) _ _ hp
    have xs3 : ∃ b0 b1 b2, [V.ref a0, .ref a1, .ref a2] = [V.ref b0, .ref b1, .ref b2] ∧ TyV K H9 (.ref b0) (.ref (cb 0)) ∧ TyV K H9 (.ref b1) (.ref (cb 1)) ∧ TyV K H9 (.ref b2) (.ref (cb 2)) := ⟨a0, a1, a2, rfl, ty0.up (s8.trans s9), ty1.up (s8.trans s9), ty2.up (s8.trans s9)⟩
    have hl3 : ([V.ref a0, .ref a1, .ref a2] : List V).length = 3 := rfl
    generalize [V.ref a0, .ref a1, .ref a2] = xs at xs3 hl3 hp9
    refine rb_setLcL 3 (own := [("_law_e", 4)]) scLBases.nd (blkOk_by (own := [("_law_e", 4)]) (N := bsN) (sc := defScope sLBases) (by decide +kernel)) (xv_name 1 rfl) hp9 (fun H10 s10 => ⟨fun p' i H' => Same H10 H' ∧ H10 p' = none ∧ ∃ acc, H' p' = some (.lst acc) ∧ DqAll K (hid [p'] H') acc ((List.range i).map k3D), fun p' hp' => ⟨same_new hp', hp', [], upd_same, .nil⟩, fun p' i H' w => w.1 _ _ (s10 _ _ hp9), fun p' j x H' hj w => ?_, fun p' H' w => ?_⟩)
    · obtain ⟨s11, hpn, acc, hacc, ea⟩ := w
      obtain ⟨j3, ty⟩ := vals_3 xs3 hj
      have ty' := ty.up (s10.trans s11)
      intro s12 H12 C12 cl fp
      refine rg_name 4 ⟨rfl, bt_nil (iteT fun s13 H13 C13 cl13 fp13 => ?_)⟩ scLBases.nd
      have L : Live [p'] H' := fun b hb => by
        rw [List.mem_singleton.mp hb, hacc]; simp
      refine XL.go (M := [p']) (xl_lst L (xa_cons (xd_isV (xv_name 4 rfl) ty' (xv_glob (v := .ref (cb 0)) W.xT.mgC rfl) (fun u r => r) (W.kit j 0 j3 (by decide)) T.isi) (xa_cons (xd_isV (xv_name 4 rfl) ty' (xv_glob (v := .ref (cb 1)) W.xM.mgC rfl) (fun u r => r) (W.kit j 1 j3 (by decide)) T.isi) (xa_cons (xd_isV (xv_name 4 rfl) ty' (xv_glob (v := .ref (cb 2)) W.xS.mgC rfl) (fun u r => r) (W.kit j 2 j3 (by decide)) T.isi) xa_nil)))) fun y ys H14 s14 hy0 hy hys => ?_
      refine ⟨acc, s14 _ _ hacc, ?_, fun b o e => ?_, hpn, acc ++ [.ref y], upd_same, ?_⟩
      · have h4 : 100000 < sizeLine := by decide
        rw [dpa_len ea, List.length_map, List.length_range]
        omega
      · rw [upd_ne (ne_of_none e hpn)]
        exact s14 _ _ (s11 _ _ e)
      · rw [hid_upd_ne, List.range_succ, List.map_append]
        refine dpa_app (ea.up (hid_mono s14)) (.cons ?_ .nil)
        have e3 : k3D j = .list [.bool (decide (j = 0)), .bool (decide (j = 1)), .bool (decide (j = 2))] := by
          have : ∀ j : Fin 3, (decide (j.val = 0) = decide (((j.val : Nat) : Int) = ((0 : Nat) : Int)) ∧ decide (j.val = 1) = decide (((j.val : Nat) : Int) = ((1 : Nat) : Int)) ∧ decide (j.val = 2) = decide (((j.val : Nat) : Int) = ((2 : Nat) : Int))) := by decide
          obtain ⟨z1, z2, z3⟩ := this ⟨j, j3⟩
          simp only at z1 z2 z3
          rw [z1, z2, z3]
          rfl
        rw [e3]
        have ny : y ∉ [p'] := fun z => by
          rw [List.mem_singleton.mp z, hacc] at hy0; cases hy0
        exact .lst (by rw [hid_of ny]; exact hy) hys
    · obtain ⟨s11, hpn, acc, hacc, ea⟩ := w
      rw [hl3] at ea
      have dd : Dq K (hid [] H') (.ref p') (.list ((List.range 3).map k3D)) := .lst (by rw [hid_nil]; exact hacc) (ea.up fun b o e => by rw [hid_nil]; exact hid_le _ _ e)
      refine rb_ret (M := []) (xd_eqD hu (xd_name 3 rfl dd) (XL.dd (xl_rngD (own := [("_law_at", 5)]) 3 (by decide) k3D T.rng Live.nil scLBases.nd xd_int (blkOk_by (own := [("_law_at", 5)]) (N := bsN) (sc := defScope sLBases) (by decide +kernel)) (fun p1 i H12 hi hp1 s12 L12 => ?_)) Live.nil) k3_all k3_all) fun u H13 s13 hu13 => ?_
      · intro s14 H14 C14 cl fp
        refine rg_name 5 ⟨rfl, Same.refl _, fun s15 H15 C15 cl15 fp15 => ?_⟩ scLBases.nd
        exact XD.go (XL.dd (xl_rngD (own := [("_law_other", 6)]) 3 (by decide) (fun j => PyData.bool (decide ((i : Int) = (j : Int)))) T.rng L12 scLBases.nd xd_int (blkOk_by (by rfl)) (fun p2 j H16 hj hp2 s16 L16 => by
          intro s17 H17 C17 cl17 fp17
          refine rg_name 6 ⟨rfl, Same.refl _, fun s18 H18 C18 cl18 fp18 => ?_⟩ scLBases.nd
          exact XD.go (xd_eqI (M := p2 :: p1 :: []) (xd_name 5 rfl (.int _)) (xd_name 6 rfl (.int _))) fun y H4 s5 hy => ⟨s5, hy⟩)) L12) fun v H19 s19 hv => ⟨s19, hv⟩
      · rw [SeqAt.eqv_refl _ (SeqAt.canLay_of_shaped k3_all)] at hu13
        rw [dp_bl hu13]
        exact q H13 ((((((s07.trans s8).trans s9).trans s10).trans s11)).trans s13)
end
end Zn

set_option Elab.async false
set_option linter.all false
set_option maxRecDepth 100000
set_option maxHeartbeats 8000000
/-! defs that take a caught exception; try with clauses of several forms (a name, a tuple of three names; with and without a name of the exception) -/
namespace L2H
open PySem PySem.Spec PyProof.Rows L2 HotX
/-- a def that is called in an except suite with what is handled there: p is that exception and its object -/
structure FnE (P : Program) (w : World) (K : PySem.W.Frag) (mg : Str → Option Value) (base : Heap) (k : Nat) (f : Addr) (fd : FuncData) (ps : List Str) (sp : Addr × Obj → Sp) : Prop where
  many : ∀ p vs H Q E, sp p vs H Q E → vs.length = ps.length
  goes : ∀ (A : Around) (outer : List Env) (s : Shared) (H : Hp) (us : List Value) (vs : List V) (Q : VK) (E : L2.XK) (p : Addr × Obj), RoomH k A → PinOk outer H s p → Env0 P w K mg base A outer s H → BindsTo s fd ⟨us, []⟩ (ps.zip us) → Vals vs us → sp p vs H Q E →
    codeAny (model P w) A (.call (.ref f) ⟨us, []⟩) (CR CX0 outer P w H s Q E) s
theorem fnE_of {P : Program} {w : World} {K : PySem.W.Frag} {mg : Str → Option Value} {base : Heap} {x qual : Str} {st : Stmt} {f : Addr} {fd : FuncData} {N ps : List Str} {k : Nat} {sp : Addr × Obj → Sp} (F : Fun K x qual st f fd) (S : FnScope N ps (defScope st)) (many : ∀ p vs H Q E, sp p vs H Q E → vs.length = ps.length)
    (body : ∀ (cdv : Value) (A : Around) (outer : List Env) (s : Shared) (H : Hp) (vs : List V) (Q : VK) (E : L2.XK) (p : Addr × Obj), RoomH k (A.deeper (envOfC qual (defScope st) s.heap.objs.size f cdv)) → sp p vs H Q E →
      ∃ t, PSs (cxH CX0 P w K mg base N qual (defScope st) f cdv A outer s H E p) (defBody st) t ∧ t { nx := fun _ H' => Q .non H', rt := Q } (L2.start N vs) H) : FnE P w K mg base (k + 1) f fd ps sp := by
  obtain ⟨oc, od, kV, doc, pm, an, cdv, ct, osl, rfl, look, hcode⟩ := F.ex
  refine ⟨many, fun A outer s H us vs Q E p room pin env bnd rel wish => ?_⟩
  have len := many _ _ _ _ _ wish
  have kin : K.In s.heap := env.mod.kin.keeps fun c u z => (env.bs c u z).1
  have nolim : s.heap.NoLimit := env.mod.nolimit.keeps fun c u z => (env.bs c u z).1
  have kinds : ∀ y ∈ ps.zip us, (defScope st).names.lookup y.1 = some .local ∨ ((defScope st).names.lookup y.1 = some .cell ∧ ((cellsFrom (s.heap.objs.size + 1) (defScope st).names []).lookup y.1).isSome = true) := by
    rintro ⟨nm, u⟩ mem
    rcases S.par nm (List.of_mem_zip mem).1 with z | z
    · exact Or.inl z
    · exact Or.inr ⟨z, PySem.W.cellsFrom_some _ _ _ (Or.inl z)⟩
  refine codeAny_call_function room.depth (kin _ _ look) rfl S.co S.gen rfl (PySem.W.codeRec_of kin hcode) (bnd _ _ _ _ ?_)
  refine wpAny_newFunctionEnv_cells S.kind kinds fun en een s1 call => ?_
  subst een
  refine ⟨nolim.keeps call.toInCall.keep, codeAny_func ?_⟩
  obtain ⟨t, reads, wish2⟩ := body cdv A outer s H vs Q E p (room.deeper _) wish
  have J0 : Inv (cxH CX0 P w K mg base N qual (defScope st) f cdv A outer s H E p) [] (L2.start N vs) H s1 := inv_startH S pin env len rel call
  refine wpAny_mono (reads.run [] s1 (L2.start N vs) H _ J0 wish2) (fun fl s2 done => ?_) fun _ _ z => z
  cases fl with
  | ret u => obtain ⟨v, σ2, H2, J2, rv, q⟩ := done; exact ⟨v, H2, J2.os, J2.bare, J2.base, J2.hok, rv, q⟩
  | next => obtain ⟨σ2, H2, J2, q⟩ := done; exact ⟨V.non, H2, J2.os, J2.bare, J2.base, J2.hok, rfl, q⟩
  | brk => obtain ⟨_, _, _, z⟩ := done; exact z.elim
  | cont => obtain ⟨_, _, _, z⟩ := done; exact z.elim
end L2H
namespace Dl
open PySem PySem.Spec PyProof.Rows L2 L2H
section
variable {X : Cx} {M : List Addr} {σ : L2.St} {H : Hp} {e o : Expr} {x fl p : Str} {v : V} {pos p1 p2 : Pos} {k : Nat} {f C a d : Addr} {ob : Obj} {fd : FuncData} {pn : List (Addr × Obj)} {Q : VK} {sp : Addr × Obj → Sp} {fs : List (Str × V)}
/-- f(e), e the exception that the suite handles -/
theorem re_callE (F : FnE X.prog X.w X.K X.mg X.base k f fd [p] sp) (room : RoomH k X.A) (hm : X.mg x = some (.ref f)) (kp : PySem.W.keepIn X.K (.ref f) = true) (bd : Binds X.K fd [p] []) (ho : XV (X.suite a ((a, ob) :: pn)) σ H e (.ref a)) (h : ∀ H1, Same H H1 → sp (a, ob) [.ref a] H1 Q fun _ _ _ => False)
    (hg : Gl X x := by rfl) (hdb : (x == ("__debug__" : Str)) = false := by decide) (he : starEach [e] X.env = (false, eval e X.env) :: starEach [] X.env := by rfl) (hpl : (backTo pos (starEach [] X.env)).any (·.1) = false := by rfl) : RE (X.suite a ((a, ob) :: pn)) (.Call (.Name x p1) [e] [] pos) σ H Q := by
  refine ⟨fun σ' H' Q' => RA (X.suite a ((a, ob) :: pn)) [e] σ' H' fun vs H1 => vs = [.ref a] ∧ sp (a, ob) [.ref a] H1 Q' fun _ _ _ => False, ⟨fun pins s σ' H' Q' I w => ?_⟩, ra_1 (XV.go ho fun H1 s1 => ⟨rfl, h H1 s1⟩) he⟩
  refine wpAny_Call_Name_kw (ld_glob (X := X.suite a ((a, ob) :: pn)) I hg hm ?_ hdb)
  refine PySem.W.callWith_K (h₀ := X.base) I.ok.mod.kin kp (thn (ra_.run pos pins s σ' H' _ I w) fun us s1 ⟨vs, H1, I1, rel, ev, q⟩ => ⟨I1.kIn, ?_⟩) he hpl
  subst ev
  have P1 := I1.pin (a, ob) (List.mem_append_left _ List.mem_cons_self)
  have pin : PinOk X.stack H1 s1 (a, ob) := ⟨P1.1, P1.2.1, fun z => (List.mem_cons.mp (I1.stkSub a z)).elim P1.2.2.1 P1.2.2.2.1, P1.2.2.2.2⟩
  have hl : us.length = [p].length := by rw [← rel.length]; rfl
  have b := bd s1 us I1.kIn (by rw [List.append_nil]; exact hl)
  rw [List.append_nil] at b
  refine wpAny_call (codeAny_mono (F.goes (X.A.mark (some (.ref a))) X.stack s1 H1 us [.ref a] Q' _ (a, ob) ⟨room.dp, room.un⟩ pin I1.env0 b rel q) fun r s2 z => ?_)
  match r, z with
  | .error er, z => exact (pass0 pins σ' H1 s1 er s2 I1 z)
  | .ok (.ret u), z => exact I1.after z
  | .ok .next, z => exact z.elim
  | .ok .brk, z => exact z.elim
  | .ok .cont, z => exact z.elim
/-- e.f, e an exception whose object is pinned -/
theorem xv_xfG (hp : (a, ob) ∈ X.pn) (T : XfC X.K C) (no : PySem.W.findIn X.K (.ref C) fl = some none) (z : Zc (.ref C) (some d) ob) (hf : ∃ vs, ob.data = .fields vs) (ho : XV X σ H e (.ref a)) (hd : H d = some (.xd fs)) (hl : fs.lookup fl = some v)
    (hb : attributeBase e fl X.env (eval e X.env) = eval e X.env := by rfl) : XV X σ H (.Attribute e fl pos) v := fun H1 s1 Q q => by
  refine ⟨fun σ' H' Q' => RE X e σ' H' fun u H2 => u = .ref a ∧ H2 d = some (.xd fs) ∧ Q' v H2, ⟨fun pins s σ' H' Q' I w => ?_⟩, ho H1 s1 _ fun H2 s2 => ⟨rfl, (s1.trans s2) _ _ hd, q H2 s2⟩⟩
  refine attr_of hb (thn (re_.run pins s σ' H' _ I w) fun u s2 ⟨y, H2, I2, ry, ey, hd2, q2⟩ => ?_)
  subst ey
  obtain rfl : u = Value.ref a := ry
  obtain ⟨get, _⟩ := I2.pin (a, ob) (List.mem_append_left _ hp)
  obtain ⟨vs, dat⟩ := hf
  obtain ⟨mA, ns, rel⟩ := (show ObjOk X.prog X.w H2 s2.heap d (.xd fs) from I2.hok d _ hd2)
  obtain ⟨od, there, look⟩ := lookIn_ns ns
  obtain ⟨u2, hu2, ru2⟩ := RelO.some_of (v := v) (o := mA fl) (by rw [← hl]; exact rel fl)
  have inst : PySem.W.InstAt s2.heap a ob C (some od) := ⟨get, z.1, by unfold PySem.W.notCls; rw [dat] <;> rfl, by rw [z.2]; exact there⟩
  exact HandSPX.exc_get I2.kIn inst T.ga T.gg T.exC (PySem.W.findObj_own T.hdC no rfl (by rw [look, hu2])) (handed_of ru2) ⟨v, H2, I2.tok _, ru2, q2⟩
/-- what a class of exceptions must tell, so that isinstance asks its instances rightly -/
structure XIs (K : PySem.W.Frag) (C : Addr) : Prop where
  xf : XfC K C
  cl : (PySem.W.clsIn K C).isSome = true
  ha : PySem.W.findIn K (.ref C) "__class__" = some (some (.builtin "object.__class__"))
  hn : PySem.W.specialIn K (.builtin "object.__class__") "__get__" = some (some (.builtin "getset_descriptor.__get__"))
  ht : PySem.W.takesIn K (.builtin "object.__class__") = some true
  hm : PySem.W.mroIn K C (.type "object") = some true
theorem call_isX (hp : (a, ob) ∈ X.pn) (T : XIs X.K C) (z : Zc (.ref C) (some d) ob) (hf : ∃ vs, ob.data = .fields vs) : CallR X (.builtin "isinstance") (fun xs H Q => ∃ (D : Addr) (b : Bool), xs = [.ref a, .ref D] ∧ H d = some (.xd fs) ∧ PySem.W.kitOne X.K (.ref C) (.ref D) = some b ∧ Q (.bl b) H) := by
  intro pins s σ H xs us Q I rel ⟨D, b, exs, hd, kit, q⟩
  subst exs
  cases rel with
  | cons r1 rel =>
    cases rel with
    | cons r2 rel =>
      cases rel
      cases r1
      cases r2
      obtain ⟨get, _⟩ := I.pin (a, ob) (List.mem_append_left _ hp)
      obtain ⟨vs, dat⟩ := hf
      obtain ⟨mA, ns, _⟩ := (show ObjOk X.prog X.w H s.heap d (.xd fs) from I.hok d _ hd)
      obtain ⟨od, there, _⟩ := lookIn_ns ns
      have inst : PySem.W.InstAt s.heap a ob C (some od) := ⟨get, z.1, by unfold PySem.W.notCls; rw [dat] <;> rfl, by rw [z.2]; exact there⟩
      have hd1 : PySem.W.findObj X.K C (some od) "__class__" = some (.bind (.builtin "getset_descriptor.__get__") (.builtin "object.__class__")) := PySem.W.findObj_data T.cl T.ha T.hn T.ht
      exact PySem.W.kia_one (PySem.W.kitx_exc T.cl T.xf.ga T.xf.gg T.xf.exC T.ha T.hn T.ht T.hm) I.kIn inst kit (fun w => nomatch w) fun tk => ⟨.bl b, H, I.kept (t' := tk) fun _ _ w => w, rfl, q⟩
theorem xd_isX {b : Bool} (hp : (a, ob) ∈ X.pn) (T : XIs X.K C) (z : Zc (.ref C) (some d) ob) (hf : ∃ vs, ob.data = .fields vs) (hd : H d = some (.xd fs)) (hm : X.mg "isinstance" = none) {D : Addr} (hD : X.mg x = some (.ref D)) (ho : XV X σ H o (.ref a)) (kit : PySem.W.kitOne X.K (.ref C) (.ref D) = some b) (hg : Gl X "isinstance" := by rfl) (hgZ : Gl X x := by rfl) (hdb : (x == ("__debug__" : Str)) = false := by decide)
    (he : starEach [o, .Name x p2] X.env = (false, eval o X.env) :: starEach [.Name x p2] X.env := by rfl) (he2 : starEach [.Name x p2] X.env = (false, eval (.Name x p2) X.env) :: starEach [] X.env := by rfl) (hpl : (backTo pos (starEach [.Name x p2] X.env)).any (·.1) = false := by rfl) :
    XD X M σ H (.Call (.Name "isinstance" p1) [o, .Name x p2] [] pos) (.bool b) := fun H1 s Q q =>
  re_B (call_isX (fs := fs) hp T z hf) (ra_cons (ho H1 s _ fun H2 s2 => ra_1 (xv_glob (v := .ref D) hD rfl hgZ hdb H2 (Same.refl _) _ fun H3 s3 => ⟨D, b, rfl, ((s.trans s2).trans s3) _ _ hd, kit, q _ H3 (s2.trans s3) (.bl _)⟩) he2) he) hm (by decide +kernel) hg (by decide) (by decide) he hpl
end
end Dl

set_option Elab.async false
set_option linter.all false
set_option maxRecDepth 100000
set_option maxHeartbeats 8000000
namespace Zn
open PySem PySem.Spec PyProof.Rows L2 Dl L2H
/-! k01: _law_field asked of a caught exception; _law_raised -/
theorem xis_of {K : PySem.W.Frag} {C : Addr} (h : XAsk K C) : XIs K C := ⟨h.xf, h.cl, h.ha, h.hn, h.ht, h.hm⟩
section
variable {X : Cx} {M : List Addr} {σ : L2.St} {H : Hp} {o : Expr} {es : List Expr} {a C d : Addr} {ob : Obj} {fs : List (Str × V)} {p1 p3 pos : Pos} {kk : Nat} {cl : List V} {cvs : List Value} {b : Bool}
theorem call_isXT (hp : (a, ob) ∈ X.pn) (T : XIs X.K C) (z : Zc (.ref C) (some d) ob) (hf : ∃ vs, ob.data = .fields vs) : CallR X (.builtin "isinstance") (fun xs H Q => ∃ (tp : Addr) (cs : List V) (cvs : List Value) (b : Bool), xs = [.ref a, .ref tp] ∧ H d = some (.xd fs) ∧ H tp = some (.tup cs) ∧ (∀ us, Vals cs us → us = cvs) ∧ PySem.W.kitAny X.K (.ref C) cvs = some b ∧ Q (.bl b) H) := by
  intro pins s σ H xs us Q I rel ⟨tp, cs, cvs, b, exs, hd, htp, hc, kit, q⟩
  subst exs
  cases rel with
  | cons r1 rel =>
    cases rel with
    | cons r2 rel =>
      cases rel
      cases r1
      cases r2
      obtain ⟨get, _⟩ := I.pin (a, ob) (List.mem_append_left _ hp)
      obtain ⟨vs, dat⟩ := hf
      obtain ⟨mA, ns, _⟩ := (show ObjOk X.prog X.w H s.heap d (.xd fs) from I.hok d _ hd)
      obtain ⟨od0, there, _⟩ := lookIn_ns ns
      have inst : PySem.W.InstAt s.heap a ob C (some od0) := ⟨get, z.1, by unfold PySem.W.notCls; rw [dat] <;> rfl, by rw [z.2]; exact there⟩
      obtain ⟨_, its, rv, ⟨oc, od, oda, osl⟩, g, c, n, hdd⟩ := (show ObjOk X.prog X.w H s.heap tp (.tup cs) from I.hok tp _ htp)
      dsimp only at c hdd
      subst c hdd
      have ec := hc _ rv
      subst ec
      exact PySem.W.kia_tup (PySem.W.kitx_exc T.cl T.xf.ga T.xf.gg T.xf.exC T.ha T.hn T.ht T.hm) I.kIn inst g kit (fun w => nomatch w) fun tk => ⟨.bl b, H, I.kept (t' := tk) fun _ _ w => w, rfl, q⟩
theorem xd_isXT (hp : (a, ob) ∈ X.pn) (T : XIs X.K C) (z : Zc (.ref C) (some d) ob) (hf : ∃ vs, ob.data = .fields vs) (hd : H d = some (.xd fs)) (ho : XV X σ H o (.ref a)) (hcl : XCN X σ H es cl) (hz : cl.length ≤ 1000) (hc : ∀ us, Vals cl us → us = cvs) (kit : PySem.W.kitAny X.K (.ref C) cvs = some b) (hm : X.mg "isinstance" = none) (hg : Gl X "isinstance" := by rfl)
    (he : starEach [o, .Tuple es kk p3] X.env = (false, eval o X.env) :: starEach [.Tuple es kk p3] X.env := by rfl) (he2 : starEach [.Tuple es kk p3] X.env = (false, eval (.Tuple es kk p3) X.env) :: starEach [] X.env := by rfl) (hpl : (backTo pos (starEach [.Tuple es kk p3] X.env)).any (·.1) = false := by rfl) :
    XD X M σ H (.Call (.Name "isinstance" p1) [o, .Tuple es kk p3] [] pos) (.bool b) := fun H1 s Q q =>
  re_B (call_isXT (fs := fs) hp T z hf) (ra_cons (ho H1 s _ fun H2 s2 => ra_1 (re_tupR (hcl H2 (s.trans s2) _ fun H3 s3 => ⟨hz, fun p H4 s4 hp h4 => ⟨p, cl, cvs, b, rfl, (((s.trans s2).trans s3).trans s4) _ _ hd, h4, hc, kit, q _ H4 ((s2.trans s3).trans s4) (.bl _)⟩⟩)) he2) he) hm (by decide +kernel) hg (by decide) (by decide) he hpl
end
def spFieldE (cs : Nat → Addr) : Addr × Obj → Sp := fun p vs H Q _ => ∃ (d : Addr) (v : V) (i : Nat), vs = [.ref p.1] ∧ i < 27 ∧ flN i = "value" ∧ Zc (.ref (cs i)) (some d) p.2 ∧ (∃ fs, p.2.data = .fields fs) ∧ H d = some (.xd [("value", v)]) ∧ ∀ H1, Same H H1 → Q v H1
section
variable {P : Program} {w : World} {K : PySem.W.Frag} {mg : Str → Option Value} {base : Heap} {cs : Nat → Addr} {f : Addr} {fd : FuncData}
theorem ok_lfieldE (T : Nm mg) (Y : Ys P w K mg base cs) (F : Df K mg "_law_field" sLField ["_law_e"] f fd) : FnE P w K mg base 1 f fd ["_law_e"] (spFieldE cs) := by
  refine fnE_of F.F scLField (fun p vs H Q E h => ?_) (fun cdv A outer s H vs Q E p hr h => ?_)
  · obtain ⟨d, v, i, rfl, _⟩ := h; rfl
  · obtain ⟨d, v, i, rfl, hi, ev, z, hf, hd, q⟩ := h
    show RB (cxH CX0 P w K mg base ["_law_e"] "_law_field" (defScope sLField) f cdv A outer s H E p) (defBody sLField) _ [some (.ref p.1)] H
    have hi29 : i < 29 := by omega
    have hp : (p.1, p.2) ∈ (cxH CX0 P w K mg base ["_law_e"] "_law_field" (defScope sLField) f cdv A outer s H E p).pn := by show (p.1, p.2) ∈ [p]; exact List.mem_singleton.mpr rfl
    have W := xis_of (Y.ask i hi29)
    have g : ∀ {j : Nat} {y : Str}, j < 29 → clN j = y → ∀ {p' : Pos}, Gl (cxH CX0 P w K mg base ["_law_e"] "_law_field" (defScope sLField) f cdv A outer s H E p) y → (y == ("__debug__" : Str)) = false → ∀ {σ Hx}, XV (cxH CX0 P w K mg base ["_law_e"] "_law_field" (defScope sLField) f cdv A outer s H E p) σ Hx (.Name y p') (.ref (cs j)) := fun {j y} hj e {p'} hg hd {σ Hx} => xv_glob (v := .ref (cs j)) (by rw [← e]; exact Y.g j hj) rfl hg hd
    have k1 : PySem.W.kitAny K (.ref (cs i)) [.ref (cs 16), .ref (cs 22)] = some false := by
      have := kitAny_cons (Y.kit i 16 hi29 (by decide)) (kitAny_cons (Y.kit i 22 hi29 (by decide)) kitAny_nil)
      rw [fl_lab ⟨i, hi⟩] at this
      rw [this]
      show some (decide (flN i = "label")) = _
      rw [ev]; rfl
    have k2 : PySem.W.kitAny K (.ref (cs i)) [.ref (cs 5), .ref (cs 21), .ref (cs 23), .ref (cs 24)] = some false := by
      have := kitAny_cons (Y.kit i 5 hi29 (by decide)) (kitAny_cons (Y.kit i 21 hi29 (by decide)) (kitAny_cons (Y.kit i 23 hi29 (by decide)) (kitAny_cons (Y.kit i 24 hi29 (by decide)) kitAny_nil)))
      rw [fl_ix ⟨i, hi⟩] at this
      rw [this]
      show some (decide (flN i = "index")) = _
      rw [ev]; rfl
    refine rb_ifF (XT.to (xt_val (M := []) (xd_isXT (fs := [("value", v)]) hp W z hf hd (xv_name 0 rfl) (xcn_cons (g (j := 16) (by decide) rfl rfl (by decide)) (xcn_cons (g (j := 22) (by decide) rfl rfl (by decide)) xcn_nil)) (by show 2 ≤ 1000; decide) vals_refs k1 T.isi)) rfl) fun H1 s1 => ?_
    refine rb_ifF (XT.to (xt_val (M := []) (xd_isXT (fs := [("value", v)]) hp W z hf (s1 _ _ hd) (xv_name 0 rfl) (xcn_cons (g (j := 5) (by decide) rfl rfl (by decide)) (xcn_cons (g (j := 21) (by decide) rfl rfl (by decide)) (xcn_cons (g (j := 23) (by decide) rfl rfl (by decide)) (xcn_cons (g (j := 24) (by decide) rfl rfl (by decide)) xcn_nil)))) (by show 4 ≤ 1000; decide) vals_refs4 k2 T.isi)) rfl) fun H2 s2 => ?_
    have no := Y.no i hi
    rw [ev] at no
    exact rb_retR (XV.go (xv_xfG (a := p.1) (ob := p.2) (fs := [("value", v)]) hp W.xf no z hf (xv_name 0 rfl) ((s1.trans s2) _ _ hd) (by simp [List.lookup]) rfl) fun H3 s3 => q H3 ((s1.trans s2).trans s3))
end
end Zn

set_option Elab.async false
set_option linter.all false
set_option maxRecDepth 100000
set_option maxHeartbeats 8000000
namespace Zn
open PySem PySem.Spec PyProof.Rows L2 Dl L2H
/-! k01: _law_raised -/
def rsI (k : Nat) : PyData := match k with | 0 => .str "beat" | 1 => .int 1440 | _ => .none
def rsD (k : Nat) : PyData := .list [.str "base", rsI k]
structure Ez (K : PySem.W.Frag) (cs : Nat → Addr) (cT : Addr) : Prop where
  xI : PySem.W.exmOne K (.ref (cs 1)) (.ref (cs 4)) = some false
  xT : PySem.W.exmOne K (.ref (cs 3)) (.ref (cs 4)) = some false
  bI : PySem.W.exmOne K (.ref (cs 1)) (.ref cT) = some true
  bT : PySem.W.exmOne K (.ref (cs 3)) (.ref cT) = some true
theorem th_non {K : PySem.W.Frag} {H : Hp} : Th K H .non "NoneType" := ⟨fun _ _ => .base .non, by decide, fun _ z => V.noConfusion z, fun z => absurd z (by decide), fun _ z => V.noConfusion z, fun z => absurd z (by decide)⟩
abbrev sLRaised : Stmt := top 57
abbrev rsN : List Str := ["_law_kind", "_law_e"]
theorem scLRaised : FnScope rsN ["_law_kind"] (defScope sLRaised) := ⟨rfl, rfl, rfl, by decide +kernel, rfl, by decide +kernel, by decide +kernel⟩
def spRaised (K : PySem.W.Frag) : Sp := fun vs H Q _ => ∃ (M : List Addr) (k : Nat), vs = [.int (k : Int)] ∧ k < 3 ∧ Live M H ∧ ∀ v H1, Same H H1 → Dq K (hid M H1) v (rsD k) → Q v H1
theorem rb_ifE {X : Cx} {σ : L2.St} {H : Hp} {c : Expr} {pos : Pos} {D : Ends} {rest : List Stmt} {t f : List Stmt} (h : XT X σ H c false) (k : ∀ H1, Same H H1 → RB X f { D with nx := RB X rest D } σ H1) : RB X (.If c t f pos :: rest) D σ H := rb_if h (fun z => Bool.noConfusion z) fun _ => k
section
variable {P : Program} {w : World} {K : PySem.W.Frag} {mg : Str → Option Value} {base : Heap} {cs : Nat → Addr} {cT : Addr} {f fE fD fX : Addr} {fd gE gD gX : FuncData}
theorem ok_lraised (Y : Ys P w K mg base cs) (Z : Ez K cs cT) (hT : mg "TimeError" = some (.ref cT)) (GE : FnE P w K mg base 1 fE gE ["_law_e"] (spFieldE cs)) (FE : Df K mg "_law_field" sLField ["_law_e"] fE gE)
    (GD : FnOk P w K mg base (L2.CX P w) 4 fD gD ["reading"] (spOf K (cs 1) fun n => n / 1440)) (FD : Df K mg "day_of" sDayOf ["reading"] fD gD) (GX : FnOk P w K mg base (L2.CX P w) 5 fX gX ["time"] (spTText K (cs 3))) (kX : mg "time_text" = some (.ref fX)) (keX : PySem.W.keepIn K (.ref fX) = true) (bX : Binds K gX ["time"] [])
    (F : Df K mg "_law_raised" sLRaised ["_law_kind"] f fd) : FnOk P w K mg base CX0 6 f fd ["_law_kind"] (spRaised K) := by
  refine F.F.ok scLRaised (fun vs H Q E h => ?_) (fun cdv A outer s H vs Q E hr h => ?_)
  · obtain ⟨M, k, rfl, _⟩ := h; rfl
  · obtain ⟨M, k, rfl, hk, L, q⟩ := h
    have hr1 := hr.mono (show 1 ≤ 5 by decide)
    have hr4 := hr.mono (show 4 ≤ 5 by decide)
    show RB (cxOf CX0 P w K mg base rsN "_law_raised" (defScope sLRaised) f cdv A outer s H E).nox (defBody sLRaised) _ [some (.int (k : Int)), none] H
    have tk0 : Takes (cxOf CX0 P w K mg base rsN "_law_raised" (defScope sLRaised) f cdv A outer s H E).nox (fun _ _ _ _ => False) := fun u s' ⟨_, _, _, _, _, _, _, _, _, _, _, _, _, _, _, _, w⟩ => w.elim
    refine rb_tryAs (Wout := fun _ _ _ _ => False) 1 scLRaised.nd tk0 (Cls.cons (c := .ref (cs 4)) ⟨rfl, rfl, .inl (show mg "InvalidText" = some (.ref (cs 4)) from Y.g 4 (by decide))⟩ (Cls.cons (c := .ref cT) ⟨rfl, rfl, .inl hT⟩ Cls.nil)) fun pn xe tk po => ?_
    generalize hW : wManyAs _ _ _ _ _ = W at tk
    have go : ∀ (i : Nat) (v : V), i < 27 → flN i = "value" → PySem.W.exmOne K (.ref (cs i)) (.ref (cs 4)) = some false → PySem.W.exmOne K (.ref (cs i)) (.ref cT) = some true → (∀ Hx : Hp, Dq K Hx v (rsI k)) → ∀ {Hx : Hp}, Same H Hx → Out (fun cls d H2 => W cls d [some (.int (k : Int)), none] H2) (cs i) v Hx := fun i v hi ev x1 x2 hv {Hx} sx d H1 s1 e => by
      rw [← hW]
      refine ⟨false, x1, fun z => absurd z (by decide), fun _ => ⟨true, x2, fun _ a ha ob pn z hf => ?_, fun z => absurd z (by decide)⟩⟩
      refine rb_ret (M := M) (d := rsD k) (xd_lst (L.mono (sx.trans s1)) (xa_cons xd_str (xa_cons (fun H2 s2 Q2 q2 => re_callE (f := fE) (fd := gE) GE (roomH_of hr1) FE.g FE.F.kp FE.b (xv_name 1 rfl) fun H3 s3 => ⟨d, v, i, rfl, hi, ev, z, hf, (s2.trans s3) _ _ e, fun H4 s4 => q2 _ H4 (s3.trans s4) (hv _)⟩) xa_nil))) fun u H2 s2 hu => ?_
      exact q u H2 ((sx.trans s1).trans s2) hu
    have hcase : k = 0 ∨ k = 1 ∨ k = 2 := by omega
    rcases hcase with rfl | rfl | rfl
    · refine rb_ifT ((xt_eqI (M := []) (m := 0) (n := 0) (xd_name 0 rfl (.int _)) xd_int).to rfl) fun H1 s1 => ?_
      exact rb_exprR (re_callX GD hr4 tk FD.g FD.F.kp FD.b (ra_1 (XV.go xv_str fun H2 s2 => ⟨_, "str", rfl, th_str, fun z => absurd z (by decide), fun _ => go 1 _ (by decide) rfl Z.xI Z.bI (fun Hx => .str _) (s1.trans s2)⟩)))
    · refine rb_ifE ((xt_eqI (M := []) (m := 1) (n := 0) (xd_name 0 rfl (.int _)) xd_int).to rfl) fun H1 s1 => ?_
      refine rb_ifT ((xt_eqI (M := []) (m := 1) (n := 1) (xd_name 0 rfl (.int _)) xd_int).to rfl) fun H2 s2 => ?_
      exact rb_exprR (re_callX GX hr tk kX keX bX (ra_1 (XV.go xv_int fun H3 s3 => ⟨_, "int", rfl, th_int, fun t e t0 t1 => (by cases e; exact absurd t1 (by decide)), fun _ => go 3 _ (by decide) rfl Z.xT Z.bT (fun Hx => .int _) ((s1.trans s2).trans s3)⟩)))
    · refine rb_ifE ((xt_eqI (M := []) (m := 2) (n := 0) (xd_name 0 rfl (.int _)) xd_int).to rfl) fun H1 s1 => ?_
      refine rb_ifE ((xt_eqI (M := []) (m := 2) (n := 1) (xd_name 0 rfl (.int _)) xd_int).to rfl) fun H2 s2 => ?_
      exact rb_exprR (re_callX GD hr4 tk FD.g FD.F.kp FD.b (ra_1 (XV.go xv_non fun H3 s3 => ⟨_, "NoneType", rfl, th_non, fun z => absurd z (by decide), fun _ => go 1 _ (by decide) rfl Z.xI Z.bI (fun Hx => .non) ((s1.trans s2).trans s3)⟩)))
end
end Zn

set_option Elab.async false
set_option linter.all false
set_option maxRecDepth 100000
set_option maxHeartbeats 8000000
namespace Zn
open PySem PySem.Spec PyProof.Rows L2 Dl L2H
/-! k01: the law -/
abbrev sLaw : Stmt := top 58
abbrev nLaw : List Str := ["_law_script", "_law_k", "_law_kind"]
theorem scLaw : FnScope nLaw ["_law_script"] (defScope sLaw) := ⟨rfl, rfl, rfl, by decide +kernel, rfl, by decide +kernel, by decide +kernel⟩
def spLaw (K : PySem.W.Frag) : Sp := fun vs H Q _ => ∃ (a : Addr) (ns : List Int), vs = [.ref a] ∧ SqL K H a (ns.map V.int) ∧ ∀ H1, Same H H1 → Q (.bl true) H1
theorem rs_all : SeqAt.shaped (.list ((List.range 3).map rsD)) = true := by decide +kernel
theorem same_of_B {b : Addr} {H H1 : Hp} (hb : H b = none) (s : SameB b H H1) : Same H H1 := fun a o e => s a o (fun z => by rw [z, hb] at e; cases e) e
section
variable {P : Program} {w : World} {K : PySem.W.Frag} {mg : Str → Option Value} {base : Heap} {cs cb : Nat → Addr} {f fC fB fT fR fW fX : Addr} {fd gC gB gT gR gW gX : FuncData}
theorem ok_law (T : Nm mg) (GC : FnOk P w K mg base CX0 1 fC gC ["_law_script", "_law_k"] (spCell K)) (FC : Df K mg "_law_cell" sCell ["_law_script", "_law_k"] fC gC) (GB : FnOk P w K mg base CX0 1 fB gB ["_law_cell_here"] spBag) (FB : Df K mg "_law_box" sBag ["_law_cell_here"] fB gB)
    (GT : FnOk P w K mg base CX0 3 fT gT ["_law_box_here"] (spThing K cs)) (FT : Df K mg "_law_thing" sLThing ["_law_box_here"] fT gT) (GR : FnG P w K mg base 4 fR gR ["_law_thing_here"] (spRight K cs)) (FR : Df K mg "_law_right" sLRight ["_law_thing_here"] fR gR)
    (GW : FnOk P w K mg base CX0 1 fW gW ["_law_word"] spBases) (FW : Df K mg "_law_bases_right" sLBases ["_law_word"] fW gW) (GX : FnOk P w K mg base CX0 6 fX gX ["_law_kind"] (spRaised K)) (FX : Df K mg "_law_raised" sLRaised ["_law_kind"] fX gX)
    (F : Fun K "law" "law" sLaw f fd) : FnG P w K mg base 8 f fd ["_law_script"] (spLaw K) := by
  refine fn_g F scLaw (fun vs H Q E h => ?_) (fun cdv A outer s H vs Q E hA hr h => ?_)
  · obtain ⟨a, ns, rfl, _⟩ := h; rfl
  · obtain ⟨a, ns, rfl, hS, q⟩ := h
    have hr6 := hr.mono (show 6 ≤ 7 by decide)
    have hr4 := hr.mono (show 4 ≤ 7 by decide)
    have hr3 := hr.mono (show 3 ≤ 7 by decide)
    have hr1 := hr.mono (show 1 ≤ 7 by decide)
    refine rb_range T.rng (XD.go (M := []) (xd_max T.max (xa_cons xd_int (xa_cons (xd_min T.min (xa_cons xd_int (xa_cons (xv_lenS T.len (xv_name 0 rfl) hS).int xa_nil))) xa_nil))) fun v H0 s0 hv => ?_)
    have ev := dp_int hv
    subst ev
    generalize hnn : (if (if ((ns.map V.int).length : Int) < 6 then ((ns.map V.int).length : Int) else 6) > 2 then (if ((ns.map V.int).length : Int) < 6 then ((ns.map V.int).length : Int) else 6) else 2) = nn
    have hn2 : 0 ≤ nn ∧ nn ≤ 100 := by
      rw [← hnn]
      split <;> split <;> omega
    refine ⟨nn.toNat, by rw [Int.toNat_of_nonneg hn2.1], by omega, fun i σ' H' => Same H H' ∧ ∃ u1 u2, σ' = [some (.ref a), u1, u2], ⟨s0, none, none, rfl⟩, fun i σ' H' hi w => ?_, fun σ' H' w => ?_⟩
    · obtain ⟨sH0, u1, u2, rfl⟩ := w
      refine rg_name 1 ?_ scLaw.nd
      refine rb_ifR ⟨_, pt_not rt_, _, pt_val re_ (by intro _; rfl), re_callG GR hA hr4 FR.g FR.F.kp FR.b (ra_1 (re_call GT hr3 FT.g FT.F.kp FT.b (ra_1 (re_call GB hr1 FB.g FB.F.kp FB.b (ra_1 (re_call GC hr1 FC.g FC.F.kp FC.b (ra_cons (XV.go (xv_name 0 rfl) fun Ha sa => ra_1 (XV.go (xv_name 1 rfl) fun Hb sb => ⟨a, ns, i, rfl, ((sH0.trans sa).trans sb).seq hS, fun nc Hc sc => ⟨nc, rfl, fun b H1 s1 hb hBg => ?_⟩⟩)))))))))⟩
      have s01 : Same H' H1 := ((sa.trans sb).trans sc).trans s1
      have hb0 : H' b = none := ((sa.trans sb).trans sc).free hb
      refine ⟨b, 0, rfl, hBg, by decide, fun k v o H2 sB2 ht => ⟨k, v, o, rfl, ht, fun H3 s3 => ⟨true, rfl, iteF (rb_nil (rb_nil ⟨(sH0.trans (same_of_B hb0 ((SameB.of s01).trans sB2))).trans s3, _, _, rfl⟩))⟩⟩⟩
    · obtain ⟨sH, u1, u2, rfl⟩ := w
      have bw : ∀ {j : Nat} {z : Str} {p1 p2 p3 : Pos} {Hx : Hp}, XD (cxOf CX0 P w K mg base nLaw "law" (defScope sLaw) f cdv A outer s H E).nox [] [some (.ref a), u1, u2] Hx (.Call (.Name "_law_bases_right" p1) [.Constant (.str z) j p2] [] p3) (.bool true) := fun {j z p1 p2 p3 Hx} H1 s1 Q2 q2 =>
        re_call GW hr1 FW.g FW.F.kp FW.b (ra_1 (XV.go xv_str fun H2 s2 => ⟨z, rfl, fun H3 s3 => q2 _ H3 (s2.trans s3) (.bl true)⟩))
      refine rb_ifF (XT.to (xt_or2 (k1 := false) (k2 := false) (XT.to (xt_not (xt_val (M := []) bw)) rfl) fun _ => XT.to (xt_not (xt_val (M := []) bw)) rfl) rfl) fun H1 s1 => ?_
      refine rb_ret (M := []) (xd_eqD hr.units (XL.dd (xl_rngD (own := [("_law_kind", 2)]) 3 (by decide) rsD T.rng Live.nil scLaw.nd xd_int (blkOk_by (own := [("_law_kind", 2)]) (N := nLaw) (sc := defScope sLaw) (by decide +kernel)) (fun p1 i H12 hi hp1 s12 L12 => ?_)) Live.nil)
        (d2 := .list ((List.range 3).map rsD)) (xd_lst Live.nil (xa_cons (xd_lst Live.nil (xa_cons xd_str (xa_cons xd_str xa_nil))) (xa_cons (xd_lst Live.nil (xa_cons xd_str (xa_cons xd_int xa_nil))) (xa_cons (xd_lst Live.nil (xa_cons xd_str (xa_cons xd_non xa_nil))) xa_nil)))) rs_all rs_all) fun u H13 s13 hu13 => ?_
      · intro s14 H14 C14 cl fp
        refine rg_name 2 ⟨rfl, Same.refl _, fun s15 H15 C15 cl15 fp15 => ?_⟩ scLaw.nd
        exact re_call GX hr6 FX.g FX.F.kp FX.b (ra_1 (XV.go (xv_name 2 rfl) fun H16 s16 => ⟨[p1], i, rfl, hi, L12.mono s16, fun v H17 s17 hv => ⟨s16.trans s17, hv⟩⟩))
      · rw [SeqAt.eqv_refl _ (SeqAt.canLay_of_shaped rs_all)] at hu13
        rw [dp_bl hu13]
        exact q H13 ((sH.trans s1).trans s13)
end
end Zn

set_option Elab.async false
set_option linter.all false
set_option maxRecDepth 100000
set_option maxHeartbeats 8000000
namespace Zn
open PySem PySem.Spec PyProof.Rows L2 Dl
/-! ### the law called behind the top -/
section
variable {P : Program} {w : World} {K : PySem.W.Frag} {mg mb : Str → Option Value} {fa a : Addr} {fd : FuncData} {t : Shared} {us : List Value} {ns : List Int}
/-- from a heap H that tells of the script at most -/
theorem head_from {H : Hp} (KX : K.In t.heap) (hg : t.heap.Ns mainGlobals mg) (hb : t.heap.Ns builtinsNs mb) (hbb : ∀ x : Str, x ≠ "__name__" → mb x = bootBuiltins x) (hlim : t.heap.NoLimit) (gens : t.gens = #[])
    (hobj : t.heap.get? a = some { cls := .type "list", data := .seq us.toArray })
    (F : ∀ base : Heap, K.In base → base.Ns mainGlobals mg → FnG P w K mg base 8 fa fd ["_law_script"] (spLaw K)) (hbd : ∀ (s : Shared) (u : Value), BindsTo s fd ⟨[u], []⟩ [("_law_script", u)])
    (only : Only H) (hS : SqL K H a (ns.map V.int)) (hok : HOk P w H t.heap) (at1 : ∀ b, H b ≠ none → b = a) (nk : H a ≠ none → K.lookup a = none) :
    codeAny (model P w) callerA (.call (.ref fa) ⟨[.ref a], []⟩) (fun r s => r = .ok (.ret (.bool true)) ∧ OldK t.heap s.heap ∧ s.os = t.os ∧ AllBare s.gens) t := by
  have kept : ∀ {b : Addr} {o : Obj}, t.heap.get? b = some o → H b = none → (hidT t.heap H).get? b = some o := fun p q => hidT_get p q
  have free : ∀ {b : Addr} {o : Obj}, t.heap.get? b = some o → (b = a → False) → H b = none := fun {b o} _ nb => Classical.byContradiction fun z => nb (at1 b z)
  have spaces : ∀ {b : Addr} {m : Str → Option Value}, t.heap.Ns b m → (hidT t.heap H).Ns b m := fun {b m} z => by
    obtain ⟨o, es, ep, p, q, r⟩ := z
    refine ⟨o, es, ep, kept p (free p fun e => ?_), q, r⟩
    rw [e, hobj] at p
    injection p with p
    rw [← p] at q
    injection q
  have kin : K.In (hidT t.heap H) := fun b o e => kept (KX b o e) (Classical.byContradiction fun z => by
    have eb := at1 b z
    rw [eb] at z e
    rw [nk z] at e
    cases e)
  obtain ⟨mc, hl1, hl2⟩ := hlim
  have md : Mod K mg (hidT t.heap H) := ⟨kin, spaces hg, ⟨mb, spaces hb, hbb⟩, mc, spaces hl1, hl2⟩
  have env : Env0 P w K mg (hidT t.heap H) callerA [] t H := { frames := rfl, mod := md, bs := fun b o e => of_hidT e, bsz := Nat.le_of_eq (hidT_size _ _), funs := trivial, frf := fun b z => absurd z List.not_mem_nil, hok := hok, bare := .of_eq gens }
  have run := (F _ kin (spaces hg)).run callerA rfl ⟨rfl, by decide, by decide⟩ [] t H ⟨[.ref a], []⟩ [.ref a] [.ref a] (fun v _ => v = .bl true) (fun _ _ _ => False) env (hbd t (.ref a)) (.cons rfl .nil) ⟨a, ns, rfl, hS, fun _ _ => rfl⟩
  refine codeAny_mono run fun r s z => ?_
  match r, z with
  | .error e, z => exact z.elim
  | .ok .next, z => exact z.elim
  | .ok .brk, z => exact z.elim
  | .ok .cont, z => exact z.elim
  | .ok (.ret u), z =>
    obtain ⟨v, H2, os, bare, un, hok2, rv, ev⟩ := z
    have ev' : v = .bl true := ev
    rw [ev'] at rv
    have eu : u = Value.bool true := rv
    rw [eu]
    refine ⟨rfl, OldK.of_keep fun b o e => ?_, os, bare⟩
    rcases only b with n | ⟨ob, xs, fz⟩
    · exact un.keep b o e n (fun q => absurd (show b ∈ ([] : List Addr) from q) List.not_mem_nil) (by simp)
    · have p1 := (hok b _ fz).1
      have p2 := (hok2 b _ (un.frzs b ob _ fz)).1
      rw [e] at p1
      injection p1 with p1
      rw [p1]
      exact p2
/-- the law, called with a script -/
theorem head_g (KX : K.In t.heap) (hg : t.heap.Ns mainGlobals mg) (hb : t.heap.Ns builtinsNs mb) (hbb : ∀ x : Str, x ≠ "__name__" → mb x = bootBuiltins x) (hlim : t.heap.NoLimit) (gens : t.gens = #[])
    (hobj : t.heap.get? a = some { cls := .type "list", data := .seq us.toArray }) (hi : IntsAre us ns) (hl : ns.length ≤ sizeLine)
    (F : ∀ base : Heap, K.In base → base.Ns mainGlobals mg → FnG P w K mg base 8 fa fd ["_law_script"] (spLaw K)) (hbd : ∀ (s : Shared) (u : Value), BindsTo s fd ⟨[u], []⟩ [("_law_script", u)]) :
    codeAny (model P w) callerA (.call (.ref fa) ⟨[.ref a], []⟩) (fun r s => r = .ok (.ret (.bool true)) ∧ OldK t.heap s.heap ∧ s.os = t.os ∧ AllBare s.gens) t := by
  have vi := vals_ints hi
  have el := hi.length
  rcases lk : K.lookup a with _ | o
  · have e1 : ∀ b, b ≠ a → (if b = a then some (HO.frz { cls := .type "list", data := .seq us.toArray } (.lst (ns.map V.int))) else none) = none := fun b n => if_neg n
    refine head_from (H := fun b => if b = a then some (.frz { cls := .type "list", data := .seq us.toArray } (.lst (ns.map V.int))) else none) (ns := ns) KX hg hb hbb hlim gens hobj F hbd (fun b => ?_) (.inl (.inr ⟨_, if_pos rfl⟩)) (fun b u z => ?_) (fun b z => Classical.byContradiction fun n => z (e1 b n)) fun _ => lk
    · exact (Classical.em (b = a)).elim (fun z => .inr ⟨_, _, if_pos z⟩) fun z => .inl (e1 b z)
    · rcases Classical.em (b = a) with e | e
      · rw [e] at z ⊢
        have z' := (if_pos rfl).symm.trans z
        injection z' with z'
        rw [← z']
        exact ⟨hobj, by rw [List.length_map]; exact hl, us, _, vi, hobj⟩
      · exact absurd ((e1 b e).symm.trans z) (fun q => nomatch q)
  · have e := KX a o lk
    rw [hobj] at e
    injection e with e
    rw [← e] at lk
    exact head_from (H := fun _ => none) (ns := ns) KX hg hb hbb hlim gens hobj F hbd (fun _ => .inl rfl) (.inr ⟨_, us.toArray, _, lk, rfl, rfl, rfl, by rw [List.size_toArray, el]; exact hl, by simpa using vi⟩) (fun _ _ z => nomatch z) (fun _ z => absurd rfl z) (fun z => absurd rfl z)
end
theorem walk_g {l : PySem.W.OpenLaw} {q : Program} {loose : List Str} {XP : (Str → Option Value) → Heap → Prop} {YP : World → Heap → Prop} {d : DefRec} {K : Params → PySem.W.Frag} (hn : l.most = some 63) (hdf : d.params.defaults = [])
    (hY : ∀ (w : World) (h : Heap), YP w h → (K w.params).In h)
    (F : ∀ (w : World) (mg : Str → Option Value) (fa : Addr) (h : Heap), (K w.params).In h → h.Ns mainGlobals mg → mg d.name = some (.ref fa) →
      ∃ fd : FuncData, (∀ (s : Shared) (u : Value), BindsTo s fd ⟨[u], []⟩ [("_law_script", u)]) ∧ ∀ base : Heap, (K w.params).In base → base.Ns mainGlobals mg → FnG l.prog w (K w.params) mg base 8 fa fd ["_law_script"] (spLaw (K w.params))) :
    PySem.W.WalkO q loose XP YP l.row.toRowW d [] (fun f vs => PySem.call f vs) :=
  Att.attach_call hn hdf fun w _ s1 mg _ fa _ _ _ _ a us ns G Y _ _ _ hm hobj hi hl hg => by
    have KX := hY w _ Y
    obtain ⟨fd, hb, hF⟩ := F w mg fa _ KX G.T.g hm
    exact head_g KX G.T.g G.T.b G.T.builtins G.T.nolimit hg hobj hi (Nat.le_trans hl (by decide)) hF hb
end Zn

set_option Elab.async false
set_option linter.all false
set_option maxRecDepth 100000
set_option maxHeartbeats 8000000
namespace Zn
open PySem PySem.Spec PyProof.Rows L2 Dl L2H PySem.SLx
/-! ### k01: what the start has written, put together -/
def DfE (K : PySem.W.Frag) (mg : Str → Option Value) (x : Str) (st : Stmt) (ps : List Str) : Prop := ∃ f fd, Df K mg x st ps f fd
theorem df_mk {K : PySem.W.Frag} {h : Heap} {mg : Str → Option Value} {x : Str} {st : Stmt} {ps : List Str} {f : Addr} {od an : Option Addr} {osl : Array (Option Value)} {oc kV dc pm cd ct : Value} (X : K.In h) (G : h.Ns mainGlobals mg)
    (a : PySem.W.nsIn K mainGlobals x = some (some (.ref f))) (l : K.lookup f = some ⟨oc, od, .func (PySem.W.fnOf x x (defArgs st) (defBody st) (defScope st) .none kV dc pm an cd ct), osl⟩) (c : PySem.W.codeIn K cd x = true) (k : PySem.W.keepIn K (.ref f) = true)
    (hb : ∀ (us : List Value), us.length = ps.length → bindArgs (PySem.W.fnOf x x (defArgs st) (defBody st) (defScope st) .none kV dc pm an cd ct) ⟨us, []⟩ = pure (ps.zip us)) : DfE K mg x st ps :=
  ⟨f, _, fun_mk l c k, PySem.W.mg_of X G a, .all hb⟩
def GlI (K : PySem.W.Frag) (x : Str) (n : Int) : Prop := ∃ t, PySem.W.nsIn K mainGlobals x = some (some (.int n t))
theorem gi_mk {K : PySem.W.Frag} {x : Str} {n : Int} {t : Tok} (h : PySem.W.nsIn K mainGlobals x = some (some (.int n t))) : GlI K x n := ⟨t, h⟩
structure ObF (K : PySem.W.Frag) : Prop where
  hn : PySem.W.specialIn K (.builtin "object.__class__") "__get__" = some (some (.builtin "getset_descriptor.__get__"))
  htk : PySem.W.takesIn K (.builtin "object.__class__") = some true
/-- a class of exceptions, as the start has laid it -/
structure CE (K : PySem.W.Frag) (x : Str) (C : Addr) (mr : List Value) (nw : String) : Prop where
  aC : PySem.W.nsIn K mainGlobals x = some (some (.ref C))
  xL : ∃ nm q N bs sn sub ab col dd m0 m1 m2 m3 m5, K.lookup C = some (excClassObj nm q C N bs mr true sn sub ab col dd m0 m1 m2 m3 m5 nw)
  sa : PySem.W.findIn K (.ref C) "__setattr__" = some (some (.builtin "object.__setattr__"))
  ga : PySem.W.findIn K (.ref C) "__getattribute__" = some (some (.builtin "BaseException.__getattribute__"))
  gg : PySem.W.findIn K (.ref C) "__getattr__" = some none
  ha : PySem.W.findIn K (.ref C) "__class__" = some (some (.builtin "object.__class__"))
  kC : PySem.W.keepIn K (.ref C) = true
section
variable {K : PySem.W.Frag} {x y qn fl : Str} {C D N fI : Addr} {mr mr2 bs bm : List Value} {nw nw2 : String} {nm q : Str} {sn : List Str} {sub : List Value} {ab : Bool} {col : Option Bool} {dd : Option Addr} {m0 m1 m2 m3 m5 : Option Value} {st : Stmt} {od an : Option Addr} {osl : Array (Option Value)} {oc kV dc pm cd ct : Value}
theorem ce_mk (aC : PySem.W.nsIn K mainGlobals x = some (some (.ref C))) (xL : K.lookup C = some (excClassObj nm q C N bs bm true sn sub ab col dd m0 m1 m2 m3 m5 nw)) (hm : bm = mr)
    (sa : PySem.W.findIn K (.ref C) "__setattr__" = some (some (.builtin "object.__setattr__"))) (ga : PySem.W.findIn K (.ref C) "__getattribute__" = some (some (.builtin "BaseException.__getattribute__"))) (gg : PySem.W.findIn K (.ref C) "__getattr__" = some none)
    (ha : PySem.W.findIn K (.ref C) "__class__" = some (some (.builtin "object.__class__"))) (kC : PySem.W.keepIn K (.ref C) = true) : CE K x C mr nw := by
  subst hm
  exact ⟨aC, ⟨nm, q, N, bs, sn, sub, ab, col, dd, m0, m1, m2, m3, m5, xL⟩, sa, ga, gg, ha, kC⟩
theorem cls_obj {hd : Bool} (l : K.lookup C = some (excClassObj nm q C N bs bm hd sn sub ab col dd m0 m1 m2 m3 m5 nw)) : PySem.W.clsIn K C = some { name := nm, bases := bs, mro := .ref C :: bm, ns := N, qualname := q, hasDict := hd, slotNames := sn, subclasses := sub, abstract := ab, collection := col, hasDel := false } := by
  unfold PySem.W.clsIn
  rw [l]
theorem CE.cls (h : CE K x C mr nw) : ∃ cd, PySem.W.clsIn K C = some cd ∧ cd.mro = .ref C :: mr ∧ cd.hasDict = true := by
  obtain ⟨nm, q, N, bs, sn, sub, ab, col, dd, m0, m1, m2, m3, m5, l⟩ := h.xL
  exact ⟨_, cls_obj l, rfl, rfl⟩
theorem CE.ty (h : CE K x C mr nw) : PySem.W.typeIn K (.ref C) = some (.type "type") := by
  obtain ⟨nm, q, N, bs, sn, sub, ab, col, dd, m0, m1, m2, m3, m5, l⟩ := h.xL
  show (K.lookup C).map (·.cls) = _
  rw [l]
  rfl
theorem CE.mro (h : CE K x C mr nw) (v : Value) : PySem.W.mroIn K C v = some ((Value.ref C :: mr).contains v) := by
  obtain ⟨cd, c, m, _⟩ := h.cls
  unfold PySem.W.mroIn
  rw [c]
  show (if cd.mro.isEmpty = true then none else some (cd.mro.contains v)) = _
  rw [m]
  rfl
theorem CE.sb (h : CE K x C mr nw) (v : Value) : PySem.W.subIn K (.ref C) v = some ((Value.ref C :: mr).contains v) := h.mro v
theorem CE.hd (h : CE K x C mr nw) : PySem.W.hasDictIn K C = true := by
  obtain ⟨cd, c, _, d⟩ := h.cls
  unfold PySem.W.hasDictIn
  rw [c]
  exact d
theorem CE.isS (h : CE K x C mr nw) : (PySem.W.clsIn K C).isSome = true := by
  obtain ⟨cd, c, _⟩ := h.cls
  rw [c]; rfl
theorem CE.kt {t : Value} {b : Bool} (h : CE K x C mr nw) (s : PySem.W.subIn K t (.ref C) = some b) : PySem.W.kitCls K t (.ref C) = some b := by
  show (if ((PySem.W.clsIn K C).isSome && PySem.W.typeIn K (.ref C) == some (.type "type")) = true then PySem.W.subIn K t (.ref C) else none) = some b
  have e2 : ((PySem.W.clsIn K C).isSome && PySem.W.typeIn K (.ref C) == some (.type "type")) = true := by
    rw [h.isS, h.ty] <;> rfl
  rw [if_pos e2, s]
theorem CE.kitR (h1 : CE K x C mr nw) (h2 : CE K y D mr2 nw2) : PySem.W.kitOne K (.ref C) (.ref D) = some ((Value.ref C :: mr).contains (.ref D)) := by
  unfold PySem.W.kitOne
  split
  · rename_i e
    have e' : Value.ref C = Value.ref D := eq_of_beq e
    rw [← e', List.contains_cons, beq_self_eq_true]
    rfl
  · exact h2.kt (h1.sb _)
theorem CE.kitT (h1 : CE K x C mr nw) {T : String} (hm : PySem.W.kitMeta T = true) : PySem.W.kitOne K (.ref C) (.type T) = some ((Value.ref C :: mr).contains (.type T)) := by
  unfold PySem.W.kitOne
  rw [if_neg (by intro z; cases eq_of_beq z)]
  show (if PySem.W.kitMeta T = true then PySem.W.subIn K (.ref C) (.type T) else none) = _
  rw [if_pos hm]
  exact h1.sb _
theorem CE.exm (h1 : CE K x C mr nw) (h2 : CE K y D mr2 nw2) (hb : (Value.ref D :: mr2).contains (.type "BaseException") = true) : PySem.W.exmOne K (.ref C) (.ref D) = some ((Value.ref C :: mr).contains (.ref D)) := by
  unfold PySem.W.exmOne
  rw [h2.sb, hb, if_pos (by rfl)]
  exact h2.kt (h1.sb _)
theorem CE.xf (h : CE K x C mr nw) (hb : (Value.ref C :: mr).contains (.type "BaseException") = true) : XfC K C := ⟨h.ga, h.gg, by rw [h.sb, hb], h.hd⟩
theorem CE.ask (h : CE K x C mr nw) (O : ObF K) (hb : (Value.ref C :: mr).contains (.type "BaseException") = true) (ho : (Value.ref C :: mr).contains (.type "object") = true) : XAsk K C := ⟨h.xf hb, h.isS, h.ha, O.hn, O.htk, by rw [h.mro, ho]⟩
/-- its field and its maker -/
structure CF (K : PySem.W.Frag) (qn fl : Str) (st : Stmt) (C : Addr) : Prop where
  no : PySem.W.findIn K (.ref C) fl = some none
  fn : ∃ fI fd, PySem.W.findIn K (.ref C) "__init__" = some (some (.ref fI)) ∧ PySem.W.typeIn K (.ref fI) = some (.type "function") ∧ Fun K "__init__" qn st fI fd ∧ Binds K fd ["self", fl] [] ∧ ∀ (s : Shared) (u v : Value), BindsTo s fd ⟨[u], [(fl, v)]⟩ ((["self", fl] : List Str).zip [u, v])
theorem cf_mk (no : PySem.W.findIn K (.ref C) fl = some none) (a1 : PySem.W.findIn K (.ref C) "__init__" = some (some (.ref fI))) (t1 : PySem.W.typeIn K (.ref fI) = some (.type "function")) (l : K.lookup fI = some ⟨oc, od, .func (PySem.W.fnOf "__init__" qn (defArgs st) (defBody st) (defScope st) .none kV dc pm an cd ct), osl⟩) (c : PySem.W.codeIn K cd qn = true) (k : PySem.W.keepIn K (.ref fI) = true)
    (hb : ∀ (us : List Value), us.length = 2 → bindArgs (PySem.W.fnOf "__init__" qn (defArgs st) (defBody st) (defScope st) .none kV dc pm an cd ct) ⟨us, []⟩ = pure ((["self", fl] : List Str).zip us))
    (hk : ∀ (u v : Value), bindArgs (PySem.W.fnOf "__init__" qn (defArgs st) (defBody st) (defScope st) .none kV dc pm an cd ct) ⟨[u], [(fl, v)]⟩ = pure ((["self", fl] : List Str).zip [u, v])) : CF K qn fl st C :=
  ⟨no, fI, _, a1, t1, fun_mk l c k, .all hb, fun s u v => .of_eq (hk u v)⟩
/-- what its text looks like -/
def RzF (K : PySem.W.Frag) (C : Addr) : Prop := ∃ cd, PySem.W.clsIn K C = some cd ∧ (Str.ofString ((cd.name.toString.cutAt '.').getLastD "")).length ≤ 100 ∧ PySem.W.findIn K (.ref C) "__repr__" = some (some (.builtin "BaseException.__repr__"))
theorem rz_mk {cdt : ClassData} (l : PySem.W.clsIn K C = some cdt) (z : (Str.ofString ((cdt.name.toString.cutAt '.').getLastD "")).length ≤ 100) (r : PySem.W.findIn K (.ref C) "__repr__" = some (some (.builtin "BaseException.__repr__"))) : RzF K C := ⟨cdt, l, z, r⟩
theorem nsOk_mk {o : Obj} (l : K.lookup N = some o) (h : PySem.W.nsOkIn [(N, o)] N = true) : PySem.W.nsOkIn K N = true := by
  have e : List.lookup N [(N, o)] = some o := by simp [List.lookup]
  unfold PySem.W.nsOkIn at h ⊢
  rw [e] at h
  rw [l]
  exact h
theorem tail_self {tl : List Value} (h : tl ≠ []) : PySem.W.tailIn K tl tl = true := by
  cases tl with
  | nil => exact absurd rfl h
  | cons a r =>
    unfold PySem.W.tailIn
    rw [beq_self_eq_true]
    rfl
/-- a class without an own __init__, a built-in one above it -/
theorem ei0_mk {hd : Bool} {tl : List Value} (l : K.lookup C = some (excClassObj nm q C N bs bm hd sn sub ab col dd m0 m1 m2 m3 m5 nw)) (e : bm = tl) (ne : tl ≠ []) (n : PySem.W.nsOkIn K N = true) (i : PySem.W.nsIn K N "__init__" = some none) : PySem.W.excIn K C tl nw = true := by
  subst e
  unfold PySem.W.excIn
  rw [l]
  show (C == C && nw == nw && !false && PySem.W.tailIn K bm bm && PySem.W.nsOkIn K N && PySem.W.nsIn K N "__init__" == some none) = true
  rw [tail_self ne, n, i]
  simp
/-- an own class above it, without an own __init__ -/
theorem ei1_mk {A M : Addr} {hd hd2 ab2 : Bool} {tl : List Value} {nm2 q2 : Str} {bs2 bm2 sub2 : List Value} {sn2 : List Str} {col2 : Option Bool} {dd2 : Option Addr} {k0 k1 k2 k3 k5 : Option Value} {nw' : String}
    (l : K.lookup C = some (excClassObj nm q C N bs bm hd sn sub ab col dd m0 m1 m2 m3 m5 nw)) (e : bm = .ref A :: tl) (ne : tl ≠ []) (n : PySem.W.nsOkIn K N = true) (i : PySem.W.nsIn K N "__init__" = some none)
    (l2 : K.lookup A = some (excClassObj nm2 q2 A M bs2 bm2 hd2 sn2 sub2 ab2 col2 dd2 k0 k1 k2 k3 k5 nw')) (n2 : PySem.W.nsOkIn K M = true) (i2 : PySem.W.nsIn K M "__init__" = some none) : PySem.W.excIn K C tl nw = true := by
  subst e
  have t1 : PySem.W.tailIn K tl (.ref A :: tl) = true := by
    unfold PySem.W.tailIn
    dsimp only
    rw [l2]
    show (_ || (PySem.W.nsOkIn K M && PySem.W.nsIn K M "__init__" == some none && PySem.W.tailIn K tl tl)) = true
    rw [n2, i2, tail_self ne]
    simp
  unfold PySem.W.excIn
  rw [l]
  show (C == C && nw == nw && !false && PySem.W.tailIn K tl (.ref A :: tl) && PySem.W.nsOkIn K N && PySem.W.nsIn K N "__init__" == some none) = true
  rw [t1, n, i]
  simp
theorem con_ref {X : Addr} {tl : List Value} (h : ∀ v ∈ tl, ∃ T, v = Value.type T) : (Value.ref C :: .ref D :: tl).contains (.ref X) = (decide (X = C) || decide (X = D)) := by
  rw [Bool.eq_iff_iff]
  simp only [List.contains_eq_mem, decide_eq_true_eq, Bool.or_eq_true, List.mem_cons, Value.ref.injEq]
  constructor
  · rintro (z | z | z)
    · exact .inl z
    · exact .inr z
    · obtain ⟨T, e⟩ := h _ z
      cases e
  · rintro (z | z)
    · exact .inl z
    · exact .inr (.inl z)
theorem con_ty {X : String} {tl : List Value} : (Value.ref C :: .ref D :: tl).contains (.type X) = tl.contains (.type X) := rfl
theorem con_ty0 {X : String} {tl : List Value} : (Value.ref C :: tl).contains (.type X) = tl.contains (.type X) := rfl
end
def kN (i : Nat) : Nat := if i < 21 then 0 else if i < 25 then 1 else 2
def tlN (i : Nat) : List Value := if i < 21 then veTl else if i < 25 then SKx.keTl else leTl
def nwN (i : Nat) : String := if i < 21 then "ValueError.__new__" else "LookupError.__new__"
theorem tl_ty : ∀ i : Fin 29, (tlN i.val).all (fun v => match v with | .type _ => true | _ => false) = true := by decide +kernel
theorem tl_tyM {i : Nat} (hi : i < 29) : ∀ v ∈ tlN i, ∃ T, v = Value.type T := fun v hv => by
  have h := List.all_eq_true.mp (tl_ty ⟨i, hi⟩) v hv
  cases v <;> first | exact ⟨_, rfl⟩ | cases h
theorem tl_base : ∀ i : Fin 29, (tlN i.val).contains (.type "BaseException") = true := by decide +kernel
theorem tl_obj : ∀ i : Fin 29, (tlN i.val).contains (.type "object") = true := by decide +kernel
theorem tl_exc : ∀ i : Fin 29, (tlN i.val).contains (.type "Exception") = true := by decide +kernel
theorem tl_ve : ∀ i : Fin 29, (tlN i.val).contains (.type "ValueError") = decide (i.val < 21) := by decide +kernel
theorem tl_ke : ∀ i : Fin 29, (tlN i.val).contains (.type "KeyError") = (decide (21 ≤ i.val) && decide (i.val < 25)) := by decide +kernel
theorem tl_le : ∀ i : Fin 29, (tlN i.val).contains (.type "LookupError") = decide (21 ≤ i.val) := by decide +kernel
theorem tl_list : ∀ i : Fin 29, (tlN i.val).contains (.type "list") = false ∧ (tlN i.val).contains (.type "tuple") = false ∧ (tlN i.val).contains (.type "dict") = false := by decide +kernel
theorem kN_0 : ∀ i : Fin 29, decide (0 = kN i.val) = decide (i.val < 21) := by decide +kernel
theorem kN_1 : ∀ i : Fin 29, decide (1 = kN i.val) = (decide (21 ≤ i.val) && decide (i.val < 25)) := by decide +kernel
theorem kN_2 : ∀ i : Fin 29, decide (2 = kN i.val) = decide (25 ≤ i.val) := by decide +kernel
theorem kN_3 : ∀ i : Fin 29, kN i.val < 3 := by decide +kernel
/-- all classes -/
structure CA (K : PySem.W.Frag) (cs cb : Nat → Addr) : Prop where
  e : ∀ i, i < 29 → CE K (clN i) (cs i) (.ref (cb (kN i)) :: tlN i) (nwN i)
  b0 : CE K "TimeError" (cb 0) veTl "ValueError.__new__"
  b1 : CE K "MissingError" (cb 1) SKx.keTl "LookupError.__new__"
  b2 : CE K "StateError" (cb 2) leTl "LookupError.__new__"
  cc : ∀ i j, i < 29 → j < 29 → cs i = cs j → i = j
  cd : ∀ i k, i < 29 → k < 3 → cs i ≠ cb k
  dd : ∀ k l, k < 3 → l < 3 → cb k = cb l → k = l
section
variable {K : PySem.W.Frag} {cs cb : Nat → Addr}
theorem CA.kit (A : CA K cs cb) (i j : Nat) (hi : i < 29) (hj : j < 29) : PySem.W.kitOne K (.ref (cs i)) (.ref (cs j)) = some (decide (i = j)) := by
  rw [(A.e i hi).kitR (A.e j hj), con_ref (tl_tyM hi)]
  rw [decide_eq_false (fun z => A.cd j (kN i) hj (kN_3 ⟨i, hi⟩) z : ¬ cs j = cb (kN i)), Bool.or_false]
  exact congrArg some (decide_eq_decide.mpr ⟨fun z => (A.cc j i hj hi z).symm, fun z => by rw [z]⟩)
theorem CA.kitB (A : CA K cs cb) {x : Str} {mr : List Value} {nw : String} (i k : Nat) (hi : i < 29) (hk : k < 3) (B : CE K x (cb k) mr nw) : PySem.W.kitOne K (.ref (cs i)) (.ref (cb k)) = some (decide (k = kN i)) := by
  rw [(A.e i hi).kitR B, con_ref (tl_tyM hi)]
  rw [decide_eq_false (fun z => A.cd i k hi hk z.symm : ¬ cb k = cs i), Bool.false_or]
  exact congrArg some (decide_eq_decide.mpr ⟨fun z => A.dd k (kN i) hk (kN_3 ⟨i, hi⟩) z, fun z => by rw [z]⟩)
theorem CA.kitT (A : CA K cs cb) (i : Nat) (hi : i < 29) {T : String} (hm : PySem.W.kitMeta T = true) : PySem.W.kitOne K (.ref (cs i)) (.type T) = some ((tlN i).contains (.type T)) := by
  rw [(A.e i hi).kitT hm, con_ty]
theorem CA.bz {mg : Str → Option Value} (A : CA K cs cb) (g0 : mg "TimeError" = some (.ref (cb 0))) (g1 : mg "MissingError" = some (.ref (cb 1))) (g2 : mg "StateError" = some (.ref (cb 2))) : Bz K mg cs (cb 0) (cb 1) (cb 2) where
  gT := g0
  gM := g1
  gS := g2
  ex i hi := by rw [A.kitT i hi (by decide +kernel), tl_exc ⟨i, hi⟩]
  te i hi := by rw [A.kitB i 0 hi (by decide) A.b0, kN_0 ⟨i, hi⟩]
  me i hi := by rw [A.kitB i 1 hi (by decide) A.b1, kN_1 ⟨i, hi⟩]
  se i hi := by rw [A.kitB i 2 hi (by decide) A.b2, kN_2 ⟨i, hi⟩]
  ve i hi := by rw [A.kitT i hi (by decide +kernel), tl_ve ⟨i, hi⟩]
  ke i hi := by rw [A.kitT i hi (by decide +kernel), tl_ke ⟨i, hi⟩]
  le i hi := by rw [A.kitT i hi (by decide +kernel), tl_le ⟨i, hi⟩]
theorem kit_bt : ∀ T ∈ baT, PySem.W.kitOne K (.type T) (.type "list") = some (decide (T = "list")) ∧ PySem.W.kitOne K (.type T) (.type "tuple") = some (decide (T = "tuple")) ∧ PySem.W.kitOne K (.type T) (.type "dict") = some (decide (T = "dict")) := by
  intro T h
  simp only [baT, List.mem_cons, List.not_mem_nil, or_false] at h
  rcases h with h | h | h | h | h | h | h <;> subst h <;> exact ⟨by kernel_rfl, by kernel_rfl, by kernel_rfl⟩
theorem sub_bt {c : Addr} : ∀ T ∈ baT, PySem.W.subIn K (.type T) (.ref c) = some false := by
  intro T h
  simp only [baT, List.mem_cons, List.not_mem_nil, or_false] at h
  rcases h with h | h | h | h | h | h | h <;> subst h <;> kernel_rfl
theorem kit_tr {x : Str} {C : Addr} {mr : List Value} {nw : String} (h : CE K x C mr nw) : ∀ T ∈ baT, PySem.W.kitOne K (.type T) (.ref C) = some false := fun T hT => by
  unfold PySem.W.kitOne
  rw [if_neg (by intro z; cases eq_of_beq z)]
  exact h.kt (sub_bt T hT)
theorem CA.bs (A : CA K cs cb) : Bs K cs where
  b2 := kit_tr (A.e 2 (by decide))
  b3 := kit_tr (A.e 3 (by decide))
  bl T h := (kit_bt T h).1
  bt T h := (kit_bt T h).2.1
  bd T h := (kit_bt T h).2.2
  el i hi := by rw [A.kitT i hi (by decide +kernel), (tl_list ⟨i, hi⟩).1]
  et i hi := by rw [A.kitT i hi (by decide +kernel), (tl_list ⟨i, hi⟩).2.1]
  ed i hi := by rw [A.kitT i hi (by decide +kernel), (tl_list ⟨i, hi⟩).2.2]
theorem CA.exB (A : CA K cs cb) (i : Nat) (hi : i < 29) : (Value.ref (cs i) :: .ref (cb (kN i)) :: tlN i).contains (.type "BaseException") = true := by rw [con_ty, tl_base ⟨i, hi⟩]
theorem CA.ez (A : CA K cs cb) : Ez K cs (cb 0) where
  xI := by
    rw [(A.e 1 (by decide)).exm (A.e 4 (by decide)) (A.exB 4 (by decide)), con_ref (tl_tyM (by decide : 1 < 29))]
    rw [decide_eq_false (fun z => by cases A.cc 4 1 (by decide) (by decide) z), decide_eq_false (fun z => A.cd 4 _ (by decide) (by decide) z)]
    rfl
  xT := by
    rw [(A.e 3 (by decide)).exm (A.e 4 (by decide)) (A.exB 4 (by decide)), con_ref (tl_tyM (by decide : 3 < 29))]
    rw [decide_eq_false (fun z => by cases A.cc 4 3 (by decide) (by decide) z), decide_eq_false (fun z => A.cd 4 _ (by decide) (by decide) z)]
    rfl
  bI := by
    rw [(A.e 1 (by decide)).exm A.b0 (by rw [con_ty0]; decide +kernel), con_ref (tl_tyM (by decide : 1 < 29))]
    rw [decide_eq_true (show cb 0 = cb (kN 1) from rfl), Bool.or_true]
  bT := by
    rw [(A.e 3 (by decide)).exm A.b0 (by rw [con_ty0]; decide +kernel), con_ref (tl_tyM (by decide : 3 < 29))]
    rw [decide_eq_true (show cb 0 = cb (kN 3) from rfl), Bool.or_true]
theorem CA.te (A : CA K cs cb) (i : Nat) (hi : i < 29) : PySem.W.exmOne K (.ref (cs i)) (.ref (cs i)) = some true := by
  rw [(A.e i hi).exm (A.e i hi) (A.exB i hi), con_ref (tl_tyM hi), decide_eq_true rfl]
  rfl
end
theorem sv_ve (l : List Value) (h : Tl veTl l) : PySem.SKx.Sees "ValueError" l := ⟨(h.has _).trans (by decide +kernel), (h.has _).trans (by decide +kernel), (h.has _).trans (by decide +kernel)⟩
theorem sv_le (l : List Value) (h : Tl leTl l) : PySem.SKx.Sees "LookupError" l := ⟨(h.has _).trans (by decide +kernel), (h.has _).trans (by decide +kernel), (h.has _).trans (by decide +kernel)⟩
theorem sv_ke (l : List Value) (h : Tl SKx.keTl l) : PySem.SKx.Sees "LookupError" l := PySem.SKx.sees_ke h
theorem tl_refl {tl : List Value} : Tl tl tl := ⟨[], rfl⟩
section
variable {P : Program} {w : World} {K : PySem.W.Frag} {mg : Str → Option Value} {base : Heap}
theorem oexG_of {x : Str} {C D : Addr} {tl : List Value} {nw : String} (h : CE K x C (.ref D :: tl) nw) (F : TlF tl) (hb : tl.contains (.type "BaseException") = true) : OexG K C tl nw := by
  obtain ⟨nm, q, N, bs, sn, sub, ab, col, dd, m0, m1, m2, m3, m5, l⟩ := h.xL
  exact ⟨F, ⟨nm, q, N, bs, _, sn, sub, ab, col, dd, m0, m1, m2, m3, m5, l, ⟨[D], rfl⟩⟩, h.sa, by rw [h.sb, con_ty, hb], h.ty, h.kC⟩
theorem oexC_of {x : Str} {C D : Addr} (h : CE K x C (.ref D :: veTl) "ValueError.__new__") : OexC K C := by
  obtain ⟨nm, q, N, bs, sn, sub, ab, col, dd, m0, m1, m2, m3, m5, l⟩ := h.xL
  exact ⟨⟨nm, q, N, bs, _, sn, sub, ab, col, dd, m0, m1, m2, m3, m5, l, rfl⟩, h.sa, by rw [h.sb, con_ty]; decide +kernel, h.ty, h.kC⟩
theorem xv_of {x fl qn : Str} {C D : Addr} {tl : List Value} {newId initId B : String} {st : Stmt} (FB : ∃ tlB, ExcBaseFacts B newId initId tlB) (SV : ∀ l, Tl tl l → PySem.SKx.Sees B l) (TF : TlF tl) (hb : tl.contains (.type "BaseException") = true) (hg : mg x = some (.ref C)) (E : CE K x C (.ref D :: tl) newId) (F : CF K qn fl st C)
    (ok : ∀ fI fd, OexG K C tl newId → PySem.W.findIn K (.ref C) fl = some none → Fun K "__init__" qn st fI fd → FnOk P w K mg base CX0 1 fI fd ["self", fl] (spXV C fl)) : ∃ f fd, XClsV P w K mg base tl newId initId B x fl C f fd ∧ ∀ (s : Shared) (u v : Value), BindsTo s fd ⟨[u], [(fl, v)]⟩ ((["self", fl] : List Str).zip [u, v]) := by
  obtain ⟨fI, fd, a1, t1, f1, b1, k1⟩ := F.fn
  exact ⟨fI, fd, ⟨FB, SV, hg, oexG_of E TF hb, a1, t1, ok fI fd (oexG_of E TF hb) F.no f1, b1⟩, k1⟩
abbrev sX0 : Stmt := inClass (top 4) 0
theorem scX0 : FnScope ["self", "value"] ["self", "value"] (defScope sX0) := ⟨rfl, rfl, rfl, by decide +kernel, rfl, by decide +kernel, by decide +kernel⟩
theorem ok_xv0 {f C : Addr} {fd : FuncData} {tl : List Value} {nw : String} (T : OexG K C tl nw) (no : PySem.W.findIn K (.ref C) "value" = some none) (F : Fun K "__init__" "InvalidPart.__init__" sX0 f fd) : FnOk P w K mg base CX0 1 f fd ["self", "value"] (spXV C "value") := by
  refine F.ok scX0 (fun vs H Q E h => ?_) (fun cdv A outer s H vs Q E hr h => ?_)
  · obtain ⟨a, t1, v, rfl, _⟩ := h; rfl
  · obtain ⟨a, t1, v, rfl, ha, q⟩ := h
    exact rb_osv T no (xv_name 1 rfl) (xv_name 0 rfl) ha fun H2 s2 dx h1 h2 => rb_nil (q H2 s2 dx h1 h2)
abbrev sX1 : Stmt := inClass (top 5) 0
theorem scX1 : FnScope ["self", "value"] ["self", "value"] (defScope sX1) := ⟨rfl, rfl, rfl, by decide +kernel, rfl, by decide +kernel, by decide +kernel⟩
theorem ok_xv1 {f C : Addr} {fd : FuncData} {tl : List Value} {nw : String} (T : OexG K C tl nw) (no : PySem.W.findIn K (.ref C) "value" = some none) (F : Fun K "__init__" "InvalidInteger.__init__" sX1 f fd) : FnOk P w K mg base CX0 1 f fd ["self", "value"] (spXV C "value") := by
  refine F.ok scX1 (fun vs H Q E h => ?_) (fun cdv A outer s H vs Q E hr h => ?_)
  · obtain ⟨a, t1, v, rfl, _⟩ := h; rfl
  · obtain ⟨a, t1, v, rfl, ha, q⟩ := h
    exact rb_osv T no (xv_name 1 rfl) (xv_name 0 rfl) ha fun H2 s2 dx h1 h2 => rb_nil (q H2 s2 dx h1 h2)
abbrev sX2 : Stmt := inClass (top 6) 0
theorem scX2 : FnScope ["self", "value"] ["self", "value"] (defScope sX2) := ⟨rfl, rfl, rfl, by decide +kernel, rfl, by decide +kernel, by decide +kernel⟩
theorem ok_xv2 {f C : Addr} {fd : FuncData} {tl : List Value} {nw : String} (T : OexG K C tl nw) (no : PySem.W.findIn K (.ref C) "value" = some none) (F : Fun K "__init__" "InvalidName.__init__" sX2 f fd) : FnOk P w K mg base CX0 1 f fd ["self", "value"] (spXV C "value") := by
  refine F.ok scX2 (fun vs H Q E h => ?_) (fun cdv A outer s H vs Q E hr h => ?_)
  · obtain ⟨a, t1, v, rfl, _⟩ := h; rfl
  · obtain ⟨a, t1, v, rfl, ha, q⟩ := h
    exact rb_osv T no (xv_name 1 rfl) (xv_name 0 rfl) ha fun H2 s2 dx h1 h2 => rb_nil (q H2 s2 dx h1 h2)
abbrev sX3 : Stmt := inClass (top 7) 0
theorem scX3 : FnScope ["self", "value"] ["self", "value"] (defScope sX3) := ⟨rfl, rfl, rfl, by decide +kernel, rfl, by decide +kernel, by decide +kernel⟩
theorem ok_xv3 {f C : Addr} {fd : FuncData} {tl : List Value} {nw : String} (T : OexG K C tl nw) (no : PySem.W.findIn K (.ref C) "value" = some none) (F : Fun K "__init__" "InvalidTime.__init__" sX3 f fd) : FnOk P w K mg base CX0 1 f fd ["self", "value"] (spXV C "value") := by
  refine F.ok scX3 (fun vs H Q E h => ?_) (fun cdv A outer s H vs Q E hr h => ?_)
  · obtain ⟨a, t1, v, rfl, _⟩ := h; rfl
  · obtain ⟨a, t1, v, rfl, ha, q⟩ := h
    exact rb_osv T no (xv_name 1 rfl) (xv_name 0 rfl) ha fun H2 s2 dx h1 h2 => rb_nil (q H2 s2 dx h1 h2)
abbrev sX4 : Stmt := inClass (top 8) 0
theorem scX4 : FnScope ["self", "value"] ["self", "value"] (defScope sX4) := ⟨rfl, rfl, rfl, by decide +kernel, rfl, by decide +kernel, by decide +kernel⟩
theorem ok_xv4 {f C : Addr} {fd : FuncData} {tl : List Value} {nw : String} (T : OexG K C tl nw) (no : PySem.W.findIn K (.ref C) "value" = some none) (F : Fun K "__init__" "InvalidText.__init__" sX4 f fd) : FnOk P w K mg base CX0 1 f fd ["self", "value"] (spXV C "value") := by
  refine F.ok scX4 (fun vs H Q E h => ?_) (fun cdv A outer s H vs Q E hr h => ?_)
  · obtain ⟨a, t1, v, rfl, _⟩ := h; rfl
  · obtain ⟨a, t1, v, rfl, ha, q⟩ := h
    exact rb_osv T no (xv_name 1 rfl) (xv_name 0 rfl) ha fun H2 s2 dx h1 h2 => rb_nil (q H2 s2 dx h1 h2)
abbrev sX5 : Stmt := inClass (top 9) 0
theorem scX5 : FnScope ["self", "index"] ["self", "index"] (defScope sX5) := ⟨rfl, rfl, rfl, by decide +kernel, rfl, by decide +kernel, by decide +kernel⟩
theorem ok_xv5 {f C : Addr} {fd : FuncData} {tl : List Value} {nw : String} (T : OexG K C tl nw) (no : PySem.W.findIn K (.ref C) "index" = some none) (F : Fun K "__init__" "InvalidLine.__init__" sX5 f fd) : FnOk P w K mg base CX0 1 f fd ["self", "index"] (spXV C "index") := by
  refine F.ok scX5 (fun vs H Q E h => ?_) (fun cdv A outer s H vs Q E hr h => ?_)
  · obtain ⟨a, t1, v, rfl, _⟩ := h; rfl
  · obtain ⟨a, t1, v, rfl, ha, q⟩ := h
    exact rb_osv T no (xv_name 1 rfl) (xv_name 0 rfl) ha fun H2 s2 dx h1 h2 => rb_nil (q H2 s2 dx h1 h2)
abbrev sX6 : Stmt := inClass (top 10) 0
theorem scX6 : FnScope ["self", "value"] ["self", "value"] (defScope sX6) := ⟨rfl, rfl, rfl, by decide +kernel, rfl, by decide +kernel, by decide +kernel⟩
theorem ok_xv6 {f C : Addr} {fd : FuncData} {tl : List Value} {nw : String} (T : OexG K C tl nw) (no : PySem.W.findIn K (.ref C) "value" = some none) (F : Fun K "__init__" "InvalidBound.__init__" sX6 f fd) : FnOk P w K mg base CX0 1 f fd ["self", "value"] (spXV C "value") := by
  refine F.ok scX6 (fun vs H Q E h => ?_) (fun cdv A outer s H vs Q E hr h => ?_)
  · obtain ⟨a, t1, v, rfl, _⟩ := h; rfl
  · obtain ⟨a, t1, v, rfl, ha, q⟩ := h
    exact rb_osv T no (xv_name 1 rfl) (xv_name 0 rfl) ha fun H2 s2 dx h1 h2 => rb_nil (q H2 s2 dx h1 h2)
abbrev sX7 : Stmt := inClass (top 11) 0
theorem scX7 : FnScope ["self", "value"] ["self", "value"] (defScope sX7) := ⟨rfl, rfl, rfl, by decide +kernel, rfl, by decide +kernel, by decide +kernel⟩
theorem ok_xv7 {f C : Addr} {fd : FuncData} {tl : List Value} {nw : String} (T : OexG K C tl nw) (no : PySem.W.findIn K (.ref C) "value" = some none) (F : Fun K "__init__" "InvalidValues.__init__" sX7 f fd) : FnOk P w K mg base CX0 1 f fd ["self", "value"] (spXV C "value") := by
  refine F.ok scX7 (fun vs H Q E h => ?_) (fun cdv A outer s H vs Q E hr h => ?_)
  · obtain ⟨a, t1, v, rfl, _⟩ := h; rfl
  · obtain ⟨a, t1, v, rfl, ha, q⟩ := h
    exact rb_osv T no (xv_name 1 rfl) (xv_name 0 rfl) ha fun H2 s2 dx h1 h2 => rb_nil (q H2 s2 dx h1 h2)
abbrev sX8 : Stmt := inClass (top 12) 0
theorem scX8 : FnScope ["self", "value"] ["self", "value"] (defScope sX8) := ⟨rfl, rfl, rfl, by decide +kernel, rfl, by decide +kernel, by decide +kernel⟩
theorem ok_xv8 {f C : Addr} {fd : FuncData} {tl : List Value} {nw : String} (T : OexG K C tl nw) (no : PySem.W.findIn K (.ref C) "value" = some none) (F : Fun K "__init__" "InvalidCase.__init__" sX8 f fd) : FnOk P w K mg base CX0 1 f fd ["self", "value"] (spXV C "value") := by
  refine F.ok scX8 (fun vs H Q E h => ?_) (fun cdv A outer s H vs Q E hr h => ?_)
  · obtain ⟨a, t1, v, rfl, _⟩ := h; rfl
  · obtain ⟨a, t1, v, rfl, ha, q⟩ := h
    exact rb_osv T no (xv_name 1 rfl) (xv_name 0 rfl) ha fun H2 s2 dx h1 h2 => rb_nil (q H2 s2 dx h1 h2)
abbrev sX9 : Stmt := inClass (top 13) 0
theorem scX9 : FnScope ["self", "value"] ["self", "value"] (defScope sX9) := ⟨rfl, rfl, rfl, by decide +kernel, rfl, by decide +kernel, by decide +kernel⟩
theorem ok_xv9 {f C : Addr} {fd : FuncData} {tl : List Value} {nw : String} (T : OexG K C tl nw) (no : PySem.W.findIn K (.ref C) "value" = some none) (F : Fun K "__init__" "InvalidCommand.__init__" sX9 f fd) : FnOk P w K mg base CX0 1 f fd ["self", "value"] (spXV C "value") := by
  refine F.ok scX9 (fun vs H Q E h => ?_) (fun cdv A outer s H vs Q E hr h => ?_)
  · obtain ⟨a, t1, v, rfl, _⟩ := h; rfl
  · obtain ⟨a, t1, v, rfl, ha, q⟩ := h
    exact rb_osv T no (xv_name 1 rfl) (xv_name 0 rfl) ha fun H2 s2 dx h1 h2 => rb_nil (q H2 s2 dx h1 h2)
abbrev sX10 : Stmt := inClass (top 14) 0
theorem scX10 : FnScope ["self", "value"] ["self", "value"] (defScope sX10) := ⟨rfl, rfl, rfl, by decide +kernel, rfl, by decide +kernel, by decide +kernel⟩
theorem ok_xv10 {f C : Addr} {fd : FuncData} {tl : List Value} {nw : String} (T : OexG K C tl nw) (no : PySem.W.findIn K (.ref C) "value" = some none) (F : Fun K "__init__" "InvalidChange.__init__" sX10 f fd) : FnOk P w K mg base CX0 1 f fd ["self", "value"] (spXV C "value") := by
  refine F.ok scX10 (fun vs H Q E h => ?_) (fun cdv A outer s H vs Q E hr h => ?_)
  · obtain ⟨a, t1, v, rfl, _⟩ := h; rfl
  · obtain ⟨a, t1, v, rfl, ha, q⟩ := h
    exact rb_osv T no (xv_name 1 rfl) (xv_name 0 rfl) ha fun H2 s2 dx h1 h2 => rb_nil (q H2 s2 dx h1 h2)
abbrev sX11 : Stmt := inClass (top 15) 0
theorem scX11 : FnScope ["self", "value"] ["self", "value"] (defScope sX11) := ⟨rfl, rfl, rfl, by decide +kernel, rfl, by decide +kernel, by decide +kernel⟩
theorem ok_xv11 {f C : Addr} {fd : FuncData} {tl : List Value} {nw : String} (T : OexG K C tl nw) (no : PySem.W.findIn K (.ref C) "value" = some none) (F : Fun K "__init__" "InvalidJump.__init__" sX11 f fd) : FnOk P w K mg base CX0 1 f fd ["self", "value"] (spXV C "value") := by
  refine F.ok scX11 (fun vs H Q E h => ?_) (fun cdv A outer s H vs Q E hr h => ?_)
  · obtain ⟨a, t1, v, rfl, _⟩ := h; rfl
  · obtain ⟨a, t1, v, rfl, ha, q⟩ := h
    exact rb_osv T no (xv_name 1 rfl) (xv_name 0 rfl) ha fun H2 s2 dx h1 h2 => rb_nil (q H2 s2 dx h1 h2)
abbrev sX12 : Stmt := inClass (top 16) 0
theorem scX12 : FnScope ["self", "value"] ["self", "value"] (defScope sX12) := ⟨rfl, rfl, rfl, by decide +kernel, rfl, by decide +kernel, by decide +kernel⟩
theorem ok_xv12 {f C : Addr} {fd : FuncData} {tl : List Value} {nw : String} (T : OexG K C tl nw) (no : PySem.W.findIn K (.ref C) "value" = some none) (F : Fun K "__init__" "InvalidRule.__init__" sX12 f fd) : FnOk P w K mg base CX0 1 f fd ["self", "value"] (spXV C "value") := by
  refine F.ok scX12 (fun vs H Q E h => ?_) (fun cdv A outer s H vs Q E hr h => ?_)
  · obtain ⟨a, t1, v, rfl, _⟩ := h; rfl
  · obtain ⟨a, t1, v, rfl, ha, q⟩ := h
    exact rb_osv T no (xv_name 1 rfl) (xv_name 0 rfl) ha fun H2 s2 dx h1 h2 => rb_nil (q H2 s2 dx h1 h2)
abbrev sX13 : Stmt := inClass (top 17) 0
theorem scX13 : FnScope ["self", "value"] ["self", "value"] (defScope sX13) := ⟨rfl, rfl, rfl, by decide +kernel, rfl, by decide +kernel, by decide +kernel⟩
theorem ok_xv13 {f C : Addr} {fd : FuncData} {tl : List Value} {nw : String} (T : OexG K C tl nw) (no : PySem.W.findIn K (.ref C) "value" = some none) (F : Fun K "__init__" "InvalidLog.__init__" sX13 f fd) : FnOk P w K mg base CX0 1 f fd ["self", "value"] (spXV C "value") := by
  refine F.ok scX13 (fun vs H Q E h => ?_) (fun cdv A outer s H vs Q E hr h => ?_)
  · obtain ⟨a, t1, v, rfl, _⟩ := h; rfl
  · obtain ⟨a, t1, v, rfl, ha, q⟩ := h
    exact rb_osv T no (xv_name 1 rfl) (xv_name 0 rfl) ha fun H2 s2 dx h1 h2 => rb_nil (q H2 s2 dx h1 h2)
abbrev sX14 : Stmt := inClass (top 18) 0
theorem scX14 : FnScope ["self", "value"] ["self", "value"] (defScope sX14) := ⟨rfl, rfl, rfl, by decide +kernel, rfl, by decide +kernel, by decide +kernel⟩
theorem ok_xv14 {f C : Addr} {fd : FuncData} {tl : List Value} {nw : String} (T : OexG K C tl nw) (no : PySem.W.findIn K (.ref C) "value" = some none) (F : Fun K "__init__" "InvalidEntry.__init__" sX14 f fd) : FnOk P w K mg base CX0 1 f fd ["self", "value"] (spXV C "value") := by
  refine F.ok scX14 (fun vs H Q E h => ?_) (fun cdv A outer s H vs Q E hr h => ?_)
  · obtain ⟨a, t1, v, rfl, _⟩ := h; rfl
  · obtain ⟨a, t1, v, rfl, ha, q⟩ := h
    exact rb_osv T no (xv_name 1 rfl) (xv_name 0 rfl) ha fun H2 s2 dx h1 h2 => rb_nil (q H2 s2 dx h1 h2)
abbrev sX15 : Stmt := inClass (top 19) 0
theorem scX15 : FnScope ["self", "value"] ["self", "value"] (defScope sX15) := ⟨rfl, rfl, rfl, by decide +kernel, rfl, by decide +kernel, by decide +kernel⟩
theorem ok_xv15 {f C : Addr} {fd : FuncData} {tl : List Value} {nw : String} (T : OexG K C tl nw) (no : PySem.W.findIn K (.ref C) "value" = some none) (F : Fun K "__init__" "InvalidWord.__init__" sX15 f fd) : FnOk P w K mg base CX0 1 f fd ["self", "value"] (spXV C "value") := by
  refine F.ok scX15 (fun vs H Q E h => ?_) (fun cdv A outer s H vs Q E hr h => ?_)
  · obtain ⟨a, t1, v, rfl, _⟩ := h; rfl
  · obtain ⟨a, t1, v, rfl, ha, q⟩ := h
    exact rb_osv T no (xv_name 1 rfl) (xv_name 0 rfl) ha fun H2 s2 dx h1 h2 => rb_nil (q H2 s2 dx h1 h2)
abbrev sX16 : Stmt := inClass (top 20) 0
theorem scX16 : FnScope ["self", "label"] ["self", "label"] (defScope sX16) := ⟨rfl, rfl, rfl, by decide +kernel, rfl, by decide +kernel, by decide +kernel⟩
theorem ok_xv16 {f C : Addr} {fd : FuncData} {tl : List Value} {nw : String} (T : OexG K C tl nw) (no : PySem.W.findIn K (.ref C) "label" = some none) (F : Fun K "__init__" "Duplicate.__init__" sX16 f fd) : FnOk P w K mg base CX0 1 f fd ["self", "label"] (spXV C "label") := by
  refine F.ok scX16 (fun vs H Q E h => ?_) (fun cdv A outer s H vs Q E hr h => ?_)
  · obtain ⟨a, t1, v, rfl, _⟩ := h; rfl
  · obtain ⟨a, t1, v, rfl, ha, q⟩ := h
    exact rb_osv T no (xv_name 1 rfl) (xv_name 0 rfl) ha fun H2 s2 dx h1 h2 => rb_nil (q H2 s2 dx h1 h2)
abbrev sX17 : Stmt := inClass (top 21) 0
theorem scX17 : FnScope ["self", "value"] ["self", "value"] (defScope sX17) := ⟨rfl, rfl, rfl, by decide +kernel, rfl, by decide +kernel, by decide +kernel⟩
theorem ok_xv17 {f C : Addr} {fd : FuncData} {tl : List Value} {nw : String} (T : OexG K C tl nw) (no : PySem.W.findIn K (.ref C) "value" = some none) (F : Fun K "__init__" "NotZone.__init__" sX17 f fd) : FnOk P w K mg base CX0 1 f fd ["self", "value"] (spXV C "value") := by
  refine F.ok scX17 (fun vs H Q E h => ?_) (fun cdv A outer s H vs Q E hr h => ?_)
  · obtain ⟨a, t1, v, rfl, _⟩ := h; rfl
  · obtain ⟨a, t1, v, rfl, ha, q⟩ := h
    exact rb_osv T no (xv_name 1 rfl) (xv_name 0 rfl) ha fun H2 s2 dx h1 h2 => rb_nil (q H2 s2 dx h1 h2)
abbrev sX18 : Stmt := inClass (top 22) 0
theorem scX18 : FnScope ["self", "value"] ["self", "value"] (defScope sX18) := ⟨rfl, rfl, rfl, by decide +kernel, rfl, by decide +kernel, by decide +kernel⟩
theorem ok_xv18 {f C : Addr} {fd : FuncData} {tl : List Value} {nw : String} (T : OexG K C tl nw) (no : PySem.W.findIn K (.ref C) "value" = some none) (F : Fun K "__init__" "NotKind.__init__" sX18 f fd) : FnOk P w K mg base CX0 1 f fd ["self", "value"] (spXV C "value") := by
  refine F.ok scX18 (fun vs H Q E h => ?_) (fun cdv A outer s H vs Q E hr h => ?_)
  · obtain ⟨a, t1, v, rfl, _⟩ := h; rfl
  · obtain ⟨a, t1, v, rfl, ha, q⟩ := h
    exact rb_osv T no (xv_name 1 rfl) (xv_name 0 rfl) ha fun H2 s2 dx h1 h2 => rb_nil (q H2 s2 dx h1 h2)
abbrev sX19 : Stmt := inClass (top 23) 0
theorem scX19 : FnScope ["self", "value"] ["self", "value"] (defScope sX19) := ⟨rfl, rfl, rfl, by decide +kernel, rfl, by decide +kernel, by decide +kernel⟩
theorem ok_xv19 {f C : Addr} {fd : FuncData} {tl : List Value} {nw : String} (T : OexG K C tl nw) (no : PySem.W.findIn K (.ref C) "value" = some none) (F : Fun K "__init__" "NotProgram.__init__" sX19 f fd) : FnOk P w K mg base CX0 1 f fd ["self", "value"] (spXV C "value") := by
  refine F.ok scX19 (fun vs H Q E h => ?_) (fun cdv A outer s H vs Q E hr h => ?_)
  · obtain ⟨a, t1, v, rfl, _⟩ := h; rfl
  · obtain ⟨a, t1, v, rfl, ha, q⟩ := h
    exact rb_osv T no (xv_name 1 rfl) (xv_name 0 rfl) ha fun H2 s2 dx h1 h2 => rb_nil (q H2 s2 dx h1 h2)
abbrev sX20 : Stmt := inClass (top 24) 0
theorem scX20 : FnScope ["self", "value"] ["self", "value"] (defScope sX20) := ⟨rfl, rfl, rfl, by decide +kernel, rfl, by decide +kernel, by decide +kernel⟩
theorem ok_xv20 {f C : Addr} {fd : FuncData} {tl : List Value} {nw : String} (T : OexG K C tl nw) (no : PySem.W.findIn K (.ref C) "value" = some none) (F : Fun K "__init__" "UnlikeStarts.__init__" sX20 f fd) : FnOk P w K mg base CX0 1 f fd ["self", "value"] (spXV C "value") := by
  refine F.ok scX20 (fun vs H Q E h => ?_) (fun cdv A outer s H vs Q E hr h => ?_)
  · obtain ⟨a, t1, v, rfl, _⟩ := h; rfl
  · obtain ⟨a, t1, v, rfl, ha, q⟩ := h
    exact rb_osv T no (xv_name 1 rfl) (xv_name 0 rfl) ha fun H2 s2 dx h1 h2 => rb_nil (q H2 s2 dx h1 h2)
abbrev sX21 : Stmt := inClass (top 25) 0
theorem scX21 : FnScope ["self", "index"] ["self", "index"] (defScope sX21) := ⟨rfl, rfl, rfl, by decide +kernel, rfl, by decide +kernel, by decide +kernel⟩
theorem ok_xv21 {f C : Addr} {fd : FuncData} {tl : List Value} {nw : String} (T : OexG K C tl nw) (no : PySem.W.findIn K (.ref C) "index" = some none) (F : Fun K "__init__" "NoAnswer.__init__" sX21 f fd) : FnOk P w K mg base CX0 1 f fd ["self", "index"] (spXV C "index") := by
  refine F.ok scX21 (fun vs H Q E h => ?_) (fun cdv A outer s H vs Q E hr h => ?_)
  · obtain ⟨a, t1, v, rfl, _⟩ := h; rfl
  · obtain ⟨a, t1, v, rfl, ha, q⟩ := h
    exact rb_osv T no (xv_name 1 rfl) (xv_name 0 rfl) ha fun H2 s2 dx h1 h2 => rb_nil (q H2 s2 dx h1 h2)
abbrev sX22 : Stmt := inClass (top 26) 0
theorem scX22 : FnScope ["self", "label"] ["self", "label"] (defScope sX22) := ⟨rfl, rfl, rfl, by decide +kernel, rfl, by decide +kernel, by decide +kernel⟩
theorem ok_xv22 {f C : Addr} {fd : FuncData} {tl : List Value} {nw : String} (T : OexG K C tl nw) (no : PySem.W.findIn K (.ref C) "label" = some none) (F : Fun K "__init__" "UnknownName.__init__" sX22 f fd) : FnOk P w K mg base CX0 1 f fd ["self", "label"] (spXV C "label") := by
  refine F.ok scX22 (fun vs H Q E h => ?_) (fun cdv A outer s H vs Q E hr h => ?_)
  · obtain ⟨a, t1, v, rfl, _⟩ := h; rfl
  · obtain ⟨a, t1, v, rfl, ha, q⟩ := h
    exact rb_osv T no (xv_name 1 rfl) (xv_name 0 rfl) ha fun H2 s2 dx h1 h2 => rb_nil (q H2 s2 dx h1 h2)
abbrev sX23 : Stmt := inClass (top 27) 0
theorem scX23 : FnScope ["self", "index"] ["self", "index"] (defScope sX23) := ⟨rfl, rfl, rfl, by decide +kernel, rfl, by decide +kernel, by decide +kernel⟩
theorem ok_xv23 {f C : Addr} {fd : FuncData} {tl : List Value} {nw : String} (T : OexG K C tl nw) (no : PySem.W.findIn K (.ref C) "index" = some none) (F : Fun K "__init__" "NoPlace.__init__" sX23 f fd) : FnOk P w K mg base CX0 1 f fd ["self", "index"] (spXV C "index") := by
  refine F.ok scX23 (fun vs H Q E h => ?_) (fun cdv A outer s H vs Q E hr h => ?_)
  · obtain ⟨a, t1, v, rfl, _⟩ := h; rfl
  · obtain ⟨a, t1, v, rfl, ha, q⟩ := h
    exact rb_osv T no (xv_name 1 rfl) (xv_name 0 rfl) ha fun H2 s2 dx h1 h2 => rb_nil (q H2 s2 dx h1 h2)
abbrev sX24 : Stmt := inClass (top 28) 0
theorem scX24 : FnScope ["self", "index"] ["self", "index"] (defScope sX24) := ⟨rfl, rfl, rfl, by decide +kernel, rfl, by decide +kernel, by decide +kernel⟩
theorem ok_xv24 {f C : Addr} {fd : FuncData} {tl : List Value} {nw : String} (T : OexG K C tl nw) (no : PySem.W.findIn K (.ref C) "index" = some none) (F : Fun K "__init__" "NoLine.__init__" sX24 f fd) : FnOk P w K mg base CX0 1 f fd ["self", "index"] (spXV C "index") := by
  refine F.ok scX24 (fun vs H Q E h => ?_) (fun cdv A outer s H vs Q E hr h => ?_)
  · obtain ⟨a, t1, v, rfl, _⟩ := h; rfl
  · obtain ⟨a, t1, v, rfl, ha, q⟩ := h
    exact rb_osv T no (xv_name 1 rfl) (xv_name 0 rfl) ha fun H2 s2 dx h1 h2 => rb_nil (q H2 s2 dx h1 h2)
abbrev sX25 : Stmt := inClass (top 29) 0
theorem scX25 : FnScope ["self", "value"] ["self", "value"] (defScope sX25) := ⟨rfl, rfl, rfl, by decide +kernel, rfl, by decide +kernel, by decide +kernel⟩
theorem ok_xv25 {f C : Addr} {fd : FuncData} {tl : List Value} {nw : String} (T : OexG K C tl nw) (no : PySem.W.findIn K (.ref C) "value" = some none) (F : Fun K "__init__" "NotStart.__init__" sX25 f fd) : FnOk P w K mg base CX0 1 f fd ["self", "value"] (spXV C "value") := by
  refine F.ok scX25 (fun vs H Q E h => ?_) (fun cdv A outer s H vs Q E hr h => ?_)
  · obtain ⟨a, t1, v, rfl, _⟩ := h; rfl
  · obtain ⟨a, t1, v, rfl, ha, q⟩ := h
    exact rb_osv T no (xv_name 1 rfl) (xv_name 0 rfl) ha fun H2 s2 dx h1 h2 => rb_nil (q H2 s2 dx h1 h2)
abbrev sX26 : Stmt := inClass (top 30) 0
theorem scX26 : FnScope ["self", "value"] ["self", "value"] (defScope sX26) := ⟨rfl, rfl, rfl, by decide +kernel, rfl, by decide +kernel, by decide +kernel⟩
theorem ok_xv26 {f C : Addr} {fd : FuncData} {tl : List Value} {nw : String} (T : OexG K C tl nw) (no : PySem.W.findIn K (.ref C) "value" = some none) (F : Fun K "__init__" "NotPossible.__init__" sX26 f fd) : FnOk P w K mg base CX0 1 f fd ["self", "value"] (spXV C "value") := by
  refine F.ok scX26 (fun vs H Q E h => ?_) (fun cdv A outer s H vs Q E hr h => ?_)
  · obtain ⟨a, t1, v, rfl, _⟩ := h; rfl
  · obtain ⟨a, t1, v, rfl, ha, q⟩ := h
    exact rb_osv T no (xv_name 1 rfl) (xv_name 0 rfl) ha fun H2 s2 dx h1 h2 => rb_nil (q H2 s2 dx h1 h2)
theorem ok_xr1 {f C : Addr} {fd : FuncData} (T : OexC K C) (no : PySem.W.findIn K (.ref C) "value" = some none) (F : Fun K "__init__" "InvalidInteger.__init__" sX1 f fd) : FnOk P w K mg base CX0 1 f fd ["self", "value"] (spXI C "value") := by
  refine F.ok scX1 (fun vs H Q E h => ?_) (fun cdv A outer s H vs Q E hr h => ?_)
  · obtain ⟨a, v, rfl, _⟩ := h; rfl
  · obtain ⟨a, v, rfl, ha, q⟩ := h
    exact rb_ost T no (xv_name 1 rfl) (xv_name 0 rfl) ha fun H2 s2 dx h1 h2 => rb_nil (q H2 s2 dx h1 h2)
theorem ok_xr3 {f C : Addr} {fd : FuncData} (T : OexC K C) (no : PySem.W.findIn K (.ref C) "value" = some none) (F : Fun K "__init__" "InvalidTime.__init__" sX3 f fd) : FnOk P w K mg base CX0 1 f fd ["self", "value"] (spXI C "value") := by
  refine F.ok scX3 (fun vs H Q E h => ?_) (fun cdv A outer s H vs Q E hr h => ?_)
  · obtain ⟨a, v, rfl, _⟩ := h; rfl
  · obtain ⟨a, v, rfl, ha, q⟩ := h
    exact rb_ost T no (xv_name 1 rfl) (xv_name 0 rfl) ha fun H2 s2 dx h1 h2 => rb_nil (q H2 s2 dx h1 h2)
end
structure NoB (K : PySem.W.Frag) : Prop where
  isi : PySem.W.nsIn K mainGlobals "isinstance" = some none
  int : PySem.W.nsIn K mainGlobals "int" = some none
  bool : PySem.W.nsIn K mainGlobals "bool" = some none
  str : PySem.W.nsIn K mainGlobals "str" = some none
  len : PySem.W.nsIn K mainGlobals "len" = some none
  min : PySem.W.nsIn K mainGlobals "min" = some none
  max : PySem.W.nsIn K mainGlobals "max" = some none
  rep : PySem.W.nsIn K mainGlobals "repr" = some none
  rng : PySem.W.nsIn K mainGlobals "range" = some none
  all : PySem.W.nsIn K mainGlobals "all" = some none
  lst : PySem.W.nsIn K mainGlobals "list" = some none
  tup : PySem.W.nsIn K mainGlobals "tuple" = some none
  dct : PySem.W.nsIn K mainGlobals "dict" = some none
  enu : PySem.W.nsIn K mainGlobals "enumerate" = some none
  zip : PySem.W.nsIn K mainGlobals "zip" = some none
  exc : PySem.W.nsIn K mainGlobals "Exception" = some none
  val : PySem.W.nsIn K mainGlobals "ValueError" = some none
  key : PySem.W.nsIn K mainGlobals "KeyError" = some none
  lkp : PySem.W.nsIn K mainGlobals "LookupError" = some none
structure DfA (K : PySem.W.Frag) (mg : Str → Option Value) : Prop where
  d0 : DfE K mg "is_whole" sWhole ["value"]
  d1 : DfE K mg "is_integer" sIsInt ["value", "low", "high"]
  d2 : DfE K mg "is_time" sIsTime ["value"]
  d3 : DfE K mg "need_integer" sNeed ["value"]
  d4 : DfE K mg "need_time" sNeedT ["value"]
  d5 : DfE K mg "day_of" sDayOf ["reading"]
  d6 : DfE K mg "time_text" sTimeText ["time"]
  d7 : DfE K mg "_law_cell" sCell ["_law_script", "_law_k"]
  d8 : DfE K mg "_law_box" sBag ["_law_cell_here"]
  d9 : DfE K mg "_law_take" sTake ["_law_box_here", "_law_many"]
  d10 : DfE K mg "_law_thing" sLThing ["_law_box_here"]
  d11 : DfE K mg "_law_made" sLMade ["_law_thing_here"]
  d12 : DfE K mg "_law_named" sLNamed ["_law_thing_here"]
  d13 : DfE K mg "_law_field" sLField ["_law_e"]
  d14 : DfE K mg "_law_kinds" sLKinds ["_law_e"]
  d15 : DfE K mg "_law_base_due" sLDue ["_law_at"]
  d16 : DfE K mg "_law_inner" sLInner ["_law_thing_here"]
  d17 : DfE K mg "_law_alike" sLAlike ["_law_one", "_law_thing_here"]
  d18 : DfE K mg "_law_right" sLRight ["_law_thing_here"]
  d19 : DfE K mg "_law_bases_right" sLBases ["_law_word"]
  d20 : DfE K mg "_law_raised" sLRaised ["_law_kind"]
  d21 : DfE K mg "law" sLaw ["_law_script"]
structure CFA (K : PySem.W.Frag) (cs : Nat → Addr) : Prop where
  f0 : CF K "InvalidPart.__init__" "value" sX0 (cs 0)
  f1 : CF K "InvalidInteger.__init__" "value" sX1 (cs 1)
  f2 : CF K "InvalidName.__init__" "value" sX2 (cs 2)
  f3 : CF K "InvalidTime.__init__" "value" sX3 (cs 3)
  f4 : CF K "InvalidText.__init__" "value" sX4 (cs 4)
  f5 : CF K "InvalidLine.__init__" "index" sX5 (cs 5)
  f6 : CF K "InvalidBound.__init__" "value" sX6 (cs 6)
  f7 : CF K "InvalidValues.__init__" "value" sX7 (cs 7)
  f8 : CF K "InvalidCase.__init__" "value" sX8 (cs 8)
  f9 : CF K "InvalidCommand.__init__" "value" sX9 (cs 9)
  f10 : CF K "InvalidChange.__init__" "value" sX10 (cs 10)
  f11 : CF K "InvalidJump.__init__" "value" sX11 (cs 11)
  f12 : CF K "InvalidRule.__init__" "value" sX12 (cs 12)
  f13 : CF K "InvalidLog.__init__" "value" sX13 (cs 13)
  f14 : CF K "InvalidEntry.__init__" "value" sX14 (cs 14)
  f15 : CF K "InvalidWord.__init__" "value" sX15 (cs 15)
  f16 : CF K "Duplicate.__init__" "label" sX16 (cs 16)
  f17 : CF K "NotZone.__init__" "value" sX17 (cs 17)
  f18 : CF K "NotKind.__init__" "value" sX18 (cs 18)
  f19 : CF K "NotProgram.__init__" "value" sX19 (cs 19)
  f20 : CF K "UnlikeStarts.__init__" "value" sX20 (cs 20)
  f21 : CF K "NoAnswer.__init__" "index" sX21 (cs 21)
  f22 : CF K "UnknownName.__init__" "label" sX22 (cs 22)
  f23 : CF K "NoPlace.__init__" "index" sX23 (cs 23)
  f24 : CF K "NoLine.__init__" "index" sX24 (cs 24)
  f25 : CF K "NotStart.__init__" "value" sX25 (cs 25)
  f26 : CF K "NotPossible.__init__" "value" sX26 (cs 26)
structure EiA (K : PySem.W.Frag) (cs cb : Nat → Addr) : Prop where
  n27 : PySem.W.excIn K (cs 27) leTl "LookupError.__new__" = true
  n28 : PySem.W.excIn K (cs 28) leTl "LookupError.__new__" = true
  m0 : PySem.W.excIn K (cb 0) veTl "ValueError.__new__" = true
  m1 : PySem.W.excIn K (cb 1) SKx.keTl "LookupError.__new__" = true
  m2 : PySem.W.excIn K (cb 2) leTl "LookupError.__new__" = true
theorem al_of {P : Program} {w : World} {K : PySem.W.Frag} {h : Heap} {mg : Str → Option Value} {base : Heap} {cs cb : Nat → Addr} {f : Addr} {fd : FuncData} (X : K.In h) (G : h.Ns mainGlobals mg) (g1 : GlI K "DAY_LENGTH" 1440) (g2 : GlI K "HOUR_LENGTH" 60) (B : NoB K) (D : DfA K mg) (O : ObF K) (A : CA K cs cb) (FA : CFA K cs) (EA : EiA K cs cb) (R : RzF K (cs 3))
    (FL : Fun K "law" "law" sLaw f fd) : FnG P w K mg base 8 f fd ["_law_script"] (spLaw K) := by
  have T : Nm mg := ⟨PySem.W.mg_none_of X G B.isi, PySem.W.mg_none_of X G B.int, PySem.W.mg_none_of X G B.bool, PySem.W.mg_none_of X G B.str, PySem.W.mg_none_of X G B.len, PySem.W.mg_none_of X G B.min, PySem.W.mg_none_of X G B.max, PySem.W.mg_none_of X G B.rep, PySem.W.mg_none_of X G B.rng, PySem.W.mg_none_of X G B.all, PySem.W.mg_none_of X G B.lst, PySem.W.mg_none_of X G B.tup, PySem.W.mg_none_of X G B.dct, PySem.W.mg_none_of X G B.enu, PySem.W.mg_none_of X G B.zip, PySem.W.mg_none_of X G B.exc, PySem.W.mg_none_of X G B.val, PySem.W.mg_none_of X G B.key, PySem.W.mg_none_of X G B.lkp⟩
  have h1 : ∃ t, mg "DAY_LENGTH" = some (.int 1440 t) := by
    obtain ⟨t, g⟩ := g1
    exact ⟨t, PySem.W.mg_of X G g⟩
  have h2 : ∃ t, mg "HOUR_LENGTH" = some (.int 60 t) := by
    obtain ⟨t, g⟩ := g2
    exact ⟨t, PySem.W.mg_of X G g⟩
  obtain ⟨f0, fd0, F0⟩ := D.d0
  obtain ⟨f1, fd1, F1⟩ := D.d1
  obtain ⟨f2, fd2, F2⟩ := D.d2
  obtain ⟨f3, fd3, F3⟩ := D.d3
  obtain ⟨f4, fd4, F4⟩ := D.d4
  obtain ⟨f5, fd5, F5⟩ := D.d5
  obtain ⟨f6, fd6, F6⟩ := D.d6
  obtain ⟨f7, fd7, F7⟩ := D.d7
  obtain ⟨f8, fd8, F8⟩ := D.d8
  obtain ⟨f9, fd9, F9⟩ := D.d9
  obtain ⟨f10, fd10, F10⟩ := D.d10
  obtain ⟨f11, fd11, F11⟩ := D.d11
  obtain ⟨f12, fd12, F12⟩ := D.d12
  obtain ⟨f13, fd13, F13⟩ := D.d13
  obtain ⟨f14, fd14, F14⟩ := D.d14
  obtain ⟨f15, fd15, F15⟩ := D.d15
  obtain ⟨f16, fd16, F16⟩ := D.d16
  obtain ⟨f17, fd17, F17⟩ := D.d17
  obtain ⟨f18, fd18, F18⟩ := D.d18
  obtain ⟨f19, fd19, F19⟩ := D.d19
  obtain ⟨f20, fd20, F20⟩ := D.d20
  have mgc : ∀ i, i < 29 → mg (clN i) = some (.ref (cs i)) := fun i hi => PySem.W.mg_of X G (A.e i hi).aC
  have Y : Ys P w K mg base cs := {
    y0 := xv_of (D := cb (kN 0)) ⟨_, PySem.F.excBase_ValueError⟩ sv_ve veTl_ok (by decide +kernel) (mgc 0 (by decide)) (A.e 0 (by decide)) FA.f0 fun _ _ T no F => ok_xv0 T no F
    y1 := xv_of (D := cb (kN 1)) ⟨_, PySem.F.excBase_ValueError⟩ sv_ve veTl_ok (by decide +kernel) (mgc 1 (by decide)) (A.e 1 (by decide)) FA.f1 fun _ _ T no F => ok_xv1 T no F
    y2 := xv_of (D := cb (kN 2)) ⟨_, PySem.F.excBase_ValueError⟩ sv_ve veTl_ok (by decide +kernel) (mgc 2 (by decide)) (A.e 2 (by decide)) FA.f2 fun _ _ T no F => ok_xv2 T no F
    y3 := xv_of (D := cb (kN 3)) ⟨_, PySem.F.excBase_ValueError⟩ sv_ve veTl_ok (by decide +kernel) (mgc 3 (by decide)) (A.e 3 (by decide)) FA.f3 fun _ _ T no F => ok_xv3 T no F
    y4 := xv_of (D := cb (kN 4)) ⟨_, PySem.F.excBase_ValueError⟩ sv_ve veTl_ok (by decide +kernel) (mgc 4 (by decide)) (A.e 4 (by decide)) FA.f4 fun _ _ T no F => ok_xv4 T no F
    y5 := xv_of (D := cb (kN 5)) ⟨_, PySem.F.excBase_ValueError⟩ sv_ve veTl_ok (by decide +kernel) (mgc 5 (by decide)) (A.e 5 (by decide)) FA.f5 fun _ _ T no F => ok_xv5 T no F
    y6 := xv_of (D := cb (kN 6)) ⟨_, PySem.F.excBase_ValueError⟩ sv_ve veTl_ok (by decide +kernel) (mgc 6 (by decide)) (A.e 6 (by decide)) FA.f6 fun _ _ T no F => ok_xv6 T no F
    y7 := xv_of (D := cb (kN 7)) ⟨_, PySem.F.excBase_ValueError⟩ sv_ve veTl_ok (by decide +kernel) (mgc 7 (by decide)) (A.e 7 (by decide)) FA.f7 fun _ _ T no F => ok_xv7 T no F
    y8 := xv_of (D := cb (kN 8)) ⟨_, PySem.F.excBase_ValueError⟩ sv_ve veTl_ok (by decide +kernel) (mgc 8 (by decide)) (A.e 8 (by decide)) FA.f8 fun _ _ T no F => ok_xv8 T no F
    y9 := xv_of (D := cb (kN 9)) ⟨_, PySem.F.excBase_ValueError⟩ sv_ve veTl_ok (by decide +kernel) (mgc 9 (by decide)) (A.e 9 (by decide)) FA.f9 fun _ _ T no F => ok_xv9 T no F
    y10 := xv_of (D := cb (kN 10)) ⟨_, PySem.F.excBase_ValueError⟩ sv_ve veTl_ok (by decide +kernel) (mgc 10 (by decide)) (A.e 10 (by decide)) FA.f10 fun _ _ T no F => ok_xv10 T no F
    y11 := xv_of (D := cb (kN 11)) ⟨_, PySem.F.excBase_ValueError⟩ sv_ve veTl_ok (by decide +kernel) (mgc 11 (by decide)) (A.e 11 (by decide)) FA.f11 fun _ _ T no F => ok_xv11 T no F
    y12 := xv_of (D := cb (kN 12)) ⟨_, PySem.F.excBase_ValueError⟩ sv_ve veTl_ok (by decide +kernel) (mgc 12 (by decide)) (A.e 12 (by decide)) FA.f12 fun _ _ T no F => ok_xv12 T no F
    y13 := xv_of (D := cb (kN 13)) ⟨_, PySem.F.excBase_ValueError⟩ sv_ve veTl_ok (by decide +kernel) (mgc 13 (by decide)) (A.e 13 (by decide)) FA.f13 fun _ _ T no F => ok_xv13 T no F
    y14 := xv_of (D := cb (kN 14)) ⟨_, PySem.F.excBase_ValueError⟩ sv_ve veTl_ok (by decide +kernel) (mgc 14 (by decide)) (A.e 14 (by decide)) FA.f14 fun _ _ T no F => ok_xv14 T no F
    y15 := xv_of (D := cb (kN 15)) ⟨_, PySem.F.excBase_ValueError⟩ sv_ve veTl_ok (by decide +kernel) (mgc 15 (by decide)) (A.e 15 (by decide)) FA.f15 fun _ _ T no F => ok_xv15 T no F
    y16 := xv_of (D := cb (kN 16)) ⟨_, PySem.F.excBase_ValueError⟩ sv_ve veTl_ok (by decide +kernel) (mgc 16 (by decide)) (A.e 16 (by decide)) FA.f16 fun _ _ T no F => ok_xv16 T no F
    y17 := xv_of (D := cb (kN 17)) ⟨_, PySem.F.excBase_ValueError⟩ sv_ve veTl_ok (by decide +kernel) (mgc 17 (by decide)) (A.e 17 (by decide)) FA.f17 fun _ _ T no F => ok_xv17 T no F
    y18 := xv_of (D := cb (kN 18)) ⟨_, PySem.F.excBase_ValueError⟩ sv_ve veTl_ok (by decide +kernel) (mgc 18 (by decide)) (A.e 18 (by decide)) FA.f18 fun _ _ T no F => ok_xv18 T no F
    y19 := xv_of (D := cb (kN 19)) ⟨_, PySem.F.excBase_ValueError⟩ sv_ve veTl_ok (by decide +kernel) (mgc 19 (by decide)) (A.e 19 (by decide)) FA.f19 fun _ _ T no F => ok_xv19 T no F
    y20 := xv_of (D := cb (kN 20)) ⟨_, PySem.F.excBase_ValueError⟩ sv_ve veTl_ok (by decide +kernel) (mgc 20 (by decide)) (A.e 20 (by decide)) FA.f20 fun _ _ T no F => ok_xv20 T no F
    y21 := xv_of (D := cb (kN 21)) ⟨_, PySem.F.excBase_LookupError⟩ sv_ke SKx.keTl_ok (by decide +kernel) (mgc 21 (by decide)) (A.e 21 (by decide)) FA.f21 fun _ _ T no F => ok_xv21 T no F
    y22 := xv_of (D := cb (kN 22)) ⟨_, PySem.F.excBase_LookupError⟩ sv_ke SKx.keTl_ok (by decide +kernel) (mgc 22 (by decide)) (A.e 22 (by decide)) FA.f22 fun _ _ T no F => ok_xv22 T no F
    y23 := xv_of (D := cb (kN 23)) ⟨_, PySem.F.excBase_LookupError⟩ sv_ke SKx.keTl_ok (by decide +kernel) (mgc 23 (by decide)) (A.e 23 (by decide)) FA.f23 fun _ _ T no F => ok_xv23 T no F
    y24 := xv_of (D := cb (kN 24)) ⟨_, PySem.F.excBase_LookupError⟩ sv_ke SKx.keTl_ok (by decide +kernel) (mgc 24 (by decide)) (A.e 24 (by decide)) FA.f24 fun _ _ T no F => ok_xv24 T no F
    y25 := xv_of (D := cb (kN 25)) ⟨_, PySem.F.excBase_LookupError⟩ sv_le leTl_ok (by decide +kernel) (mgc 25 (by decide)) (A.e 25 (by decide)) FA.f25 fun _ _ T no F => ok_xv25 T no F
    y26 := xv_of (D := cb (kN 26)) ⟨_, PySem.F.excBase_LookupError⟩ sv_le leTl_ok (by decide +kernel) (mgc 26 (by decide)) (A.e 26 (by decide)) FA.f26 fun _ _ T no F => ok_xv26 T no F
    y27 := ⟨⟨_, _, _, PySem.F.excBase_LookupError, sv_le _ tl_refl⟩, .of PySem.F.excBase_LookupError, mgc 27 (by decide), EA.n27, (A.e 27 (by decide)).kC⟩
    y28 := ⟨⟨_, _, _, PySem.F.excBase_LookupError, sv_le _ tl_refl⟩, .of PySem.F.excBase_LookupError, mgc 28 (by decide), EA.n28, (A.e 28 (by decide)).kC⟩
    ask := fun i hi => (A.e i hi).ask O (A.exB i hi) (by rw [con_ty, tl_obj ⟨i, hi⟩])
    no := fun i hi => by
      match i, hi with
      | 0, _ => exact FA.f0.no
      | 1, _ => exact FA.f1.no
      | 2, _ => exact FA.f2.no
      | 3, _ => exact FA.f3.no
      | 4, _ => exact FA.f4.no
      | 5, _ => exact FA.f5.no
      | 6, _ => exact FA.f6.no
      | 7, _ => exact FA.f7.no
      | 8, _ => exact FA.f8.no
      | 9, _ => exact FA.f9.no
      | 10, _ => exact FA.f10.no
      | 11, _ => exact FA.f11.no
      | 12, _ => exact FA.f12.no
      | 13, _ => exact FA.f13.no
      | 14, _ => exact FA.f14.no
      | 15, _ => exact FA.f15.no
      | 16, _ => exact FA.f16.no
      | 17, _ => exact FA.f17.no
      | 18, _ => exact FA.f18.no
      | 19, _ => exact FA.f19.no
      | 20, _ => exact FA.f20.no
      | 21, _ => exact FA.f21.no
      | 22, _ => exact FA.f22.no
      | 23, _ => exact FA.f23.no
      | 24, _ => exact FA.f24.no
      | 25, _ => exact FA.f25.no
      | 26, _ => exact FA.f26.no
      | n + 27, z => exact absurd z (by omega)
    kit := A.kit
    g := mgc }
  have gb0 : mg "TimeError" = some (.ref (cb 0)) := PySem.W.mg_of X G A.b0.aC
  have gb1 : mg "MissingError" = some (.ref (cb 1)) := PySem.W.mg_of X G A.b1.aC
  have gb2 : mg "StateError" = some (.ref (cb 2)) := PySem.W.mg_of X G A.b2.aC
  have Z := A.bz gb0 gb1 gb2
  have BS := A.bs
  have EZ := A.ez
  have RZ : Rz K cs := ⟨R⟩
  have kb : ∀ {x y : Str} {C E : Addr} {m1 m2 : List Value} {n1 n2 : String}, CE K x C m1 n1 → CE K y E m2 n2 → (∀ v ∈ m1, ∃ T, v = Value.type T) → PySem.W.kitOne K (.ref C) (.ref E) = some (decide (C = E)) := fun {x y C E m1 m2 n1 n2} c1 c2 ht => by
    rw [c1.kitR c2]
    refine congrArg some ?_
    rw [Bool.eq_iff_iff]
    simp only [List.contains_eq_mem, decide_eq_true_eq, List.mem_cons, Value.ref.injEq]
    constructor
    · rintro (z | z)
      · exact z.symm
      · obtain ⟨T, e⟩ := ht _ z
        cases e
    · exact fun z => .inl z.symm
  have ht0 : ∀ v ∈ veTl, ∃ T, v = Value.type T := tl_tyM (i := 0) (by decide)
  have ht1 : ∀ v ∈ SKx.keTl, ∃ T, v = Value.type T := tl_tyM (i := 21) (by decide)
  have ht2 : ∀ v ∈ leTl, ∃ T, v = Value.type T := tl_tyM (i := 25) (by decide)
  have dq : ∀ k l, k < 3 → l < 3 → decide (cb k = cb l) = decide (k = l) := fun k l hk hl => decide_eq_decide.mpr ⟨A.dd k l hk hl, fun z => by rw [z]⟩
  have WW : Wz K mg cb := {
    xT := ⟨⟨_, _, _, PySem.F.excBase_ValueError, sv_ve _ tl_refl⟩, .of PySem.F.excBase_ValueError, gb0, EA.m0, A.b0.kC⟩
    xM := ⟨⟨_, _, _, PySem.F.excBase_LookupError, sv_ke _ tl_refl⟩, PySem.SKx.ini_ke, gb1, EA.m1, A.b1.kC⟩
    xS := ⟨⟨_, _, _, PySem.F.excBase_LookupError, sv_le _ tl_refl⟩, .of PySem.F.excBase_LookupError, gb2, EA.m2, A.b2.kC⟩
    ask := fun i hi => by
      match i, hi with
      | 0, _ => exact A.b0.ask O (by rw [con_ty0]; decide +kernel) (by rw [con_ty0]; decide +kernel)
      | 1, _ => exact A.b1.ask O (by rw [con_ty0]; decide +kernel) (by rw [con_ty0]; decide +kernel)
      | 2, _ => exact A.b2.ask O (by rw [con_ty0]; decide +kernel) (by rw [con_ty0]; decide +kernel)
    kit := fun i j hi hj => by
      rw [← dq i j hi hj]
      match i, hi, j, hj with
      | 0, _, 0, _ => exact kb A.b0 A.b0 ht0
      | 0, _, 1, _ => exact kb A.b0 A.b1 ht0
      | 0, _, 2, _ => exact kb A.b0 A.b2 ht0
      | 1, _, 0, _ => exact kb A.b1 A.b0 ht1
      | 1, _, 1, _ => exact kb A.b1 A.b1 ht1
      | 1, _, 2, _ => exact kb A.b1 A.b2 ht1
      | 2, _, 0, _ => exact kb A.b2 A.b0 ht2
      | 2, _, 1, _ => exact kb A.b2 A.b1 ht2
      | 2, _, 2, _ => exact kb A.b2 A.b2 ht2
    ve := by rw [A.b0.kitT (by decide +kernel), con_ty0]; decide +kernel
    ke := by rw [A.b1.kitT (by decide +kernel), con_ty0]; decide +kernel
    le := by rw [A.b2.kitT (by decide +kernel), con_ty0]; decide +kernel }
  obtain ⟨x1, d1, a11, a12, a13, a14, _⟩ := FA.f1.fn
  obtain ⟨x3, d3, a31, a32, a33, a34, _⟩ := FA.f3.fn
  have T1 : OexC K (cs 1) := oexC_of (A.e 1 (by decide))
  have T3 : OexC K (cs 3) := oexC_of (A.e 3 (by decide))
  have YI : XCls P w K mg base "InvalidInteger" "value" (cs 1) x1 d1 := ⟨mgc 1 (by decide), T1, a11, a12, ok_xr1 T1 FA.f1.no a13, a14, (A.e 1 (by decide)).xf (A.exB 1 (by decide)), FA.f1.no, A.te 1 (by decide)⟩
  have YT : XCls P w K mg base "InvalidTime" "value" (cs 3) x3 d3 := ⟨mgc 3 (by decide), T3, a31, a32, ok_xr3 T3 FA.f3.no a33, a34, (A.e 3 (by decide)).xf (A.exB 3 (by decide)), FA.f3.no, A.te 3 (by decide)⟩
  have GW := ok_whole (P := P) (w := w) (base := base) T F0
  have GI := ok_isInt GW F0 F1
  have GIT := ok_isTime h1 GI F1 F2
  have GNI := ok_needI YI GW F0 F3
  have GNT := ok_needT YT GIT F2 F4
  have GDO := ok_dayOf h1 GNI F3 F5
  have GTT := ok_ttext h2 GNT F4 F6
  have GTk := ok_take (P := P) (w := w) (base := base) F9
  have LTh := ok_lthing T Y RZ GTk F9 F10
  have LMa := ok_lmade Y F11
  have LNa := ok_lnamed Y F12
  have LFi := ok_lfield T Y F13
  have LFE := ok_lfieldE T Y F13
  have LKi := ok_lkinds T Y F14
  have LDu := ok_ldue (P := P) (w := w) (base := base) F15
  have LIn := ok_linner T Y BS F16
  have LAl := ok_lalike T Y BS LIn F16 F17
  have LRi := ok_lright T Y Z LMa F11 LNa F12 LKi F14 LDu F15 LFi F13 LAl F17 F18
  have LBa := ok_lbases (P := P) (w := w) (base := base) T WW F19
  have LRa := ok_lraised Y EZ gb0 LFE F13 GDO F5 GTT F6.g F6.F.kp F6.b F20
  exact ok_law T (ok_cell T F7) F7 (ok_bag T F8) F8 LTh F10 LRi F18 LBa F19 LRa F20 FL
theorem ca_mk {K : PySem.W.Frag} {C0 C1 C2 C3 C4 C5 C6 C7 C8 C9 C10 C11 C12 C13 C14 C15 C16 C17 C18 C19 C20 C21 C22 C23 C24 C25 C26 C27 C28 D0 D1 D2 : Addr} (b0 : CE K "TimeError" D0 veTl "ValueError.__new__") (b1 : CE K "MissingError" D1 SKx.keTl "LookupError.__new__") (b2 : CE K "StateError" D2 leTl "LookupError.__new__") (e0 : CE K "InvalidPart" C0 (.ref D0 :: veTl) "ValueError.__new__") (e1 : CE K "InvalidInteger" C1 (.ref D0 :: veTl) "ValueError.__new__") (e2 : CE K "InvalidName" C2 (.ref D0 :: veTl) "ValueError.__new__") (e3 : CE K "InvalidTime" C3 (.ref D0 :: veTl) "ValueError.__new__") (e4 : CE K "InvalidText" C4 (.ref D0 :: veTl) "ValueError.__new__") (e5 : CE K "InvalidLine" C5 (.ref D0 :: veTl) "ValueError.__new__") (e6 : CE K "InvalidBound" C6 (.ref D0 :: veTl) "ValueError.__new__") (e7 : CE K "InvalidValues" C7 (.ref D0 :: veTl) "ValueError.__new__") (e8 : CE K "InvalidCase" C8 (.ref D0 :: veTl) "ValueError.__new__") (e9 : CE K "InvalidCommand" C9 (.ref D0 :: veTl) "ValueError.__new__") (e10 : CE K "InvalidChange" C10 (.ref D0 :: veTl) "ValueError.__new__") (e11 : CE K "InvalidJump" C11 (.ref D0 :: veTl) "ValueError.__new__") (e12 : CE K "InvalidRule" C12 (.ref D0 :: veTl) "ValueError.__new__") (e13 : CE K "InvalidLog" C13 (.ref D0 :: veTl) "ValueError.__new__") (e14 : CE K "InvalidEntry" C14 (.ref D0 :: veTl) "ValueError.__new__") (e15 : CE K "InvalidWord" C15 (.ref D0 :: veTl) "ValueError.__new__") (e16 : CE K "Duplicate" C16 (.ref D0 :: veTl) "ValueError.__new__") (e17 : CE K "NotZone" C17 (.ref D0 :: veTl) "ValueError.__new__") (e18 : CE K "NotKind" C18 (.ref D0 :: veTl) "ValueError.__new__") (e19 : CE K "NotProgram" C19 (.ref D0 :: veTl) "ValueError.__new__") (e20 : CE K "UnlikeStarts" C20 (.ref D0 :: veTl) "ValueError.__new__") (e21 : CE K "NoAnswer" C21 (.ref D1 :: SKx.keTl) "LookupError.__new__") (e22 : CE K "UnknownName" C22 (.ref D1 :: SKx.keTl) "LookupError.__new__") (e23 : CE K "NoPlace" C23 (.ref D1 :: SKx.keTl) "LookupError.__new__") (e24 : CE K "NoLine" C24 (.ref D1 :: SKx.keTl) "LookupError.__new__") (e25 : CE K "NotStart" C25 (.ref D2 :: leTl) "LookupError.__new__") (e26 : CE K "NotPossible" C26 (.ref D2 :: leTl) "LookupError.__new__") (e27 : CE K "NoProgram" C27 (.ref D2 :: leTl) "LookupError.__new__") (e28 : CE K "NothingToUndo" C28 (.ref D2 :: leTl) "LookupError.__new__")
    (nd : (∀ i : Fin 29, ∀ j : Fin 29, (fun i => ([C0, C1, C2, C3, C4, C5, C6, C7, C8, C9, C10, C11, C12, C13, C14, C15, C16, C17, C18, C19, C20, C21, C22, C23, C24, C25, C26, C27, C28] : List Addr).getD i 0) i.val = (fun i => ([C0, C1, C2, C3, C4, C5, C6, C7, C8, C9, C10, C11, C12, C13, C14, C15, C16, C17, C18, C19, C20, C21, C22, C23, C24, C25, C26, C27, C28] : List Addr).getD i 0) j.val → i = j) ∧ (∀ i : Fin 29, ∀ k : Fin 3, (fun i => ([C0, C1, C2, C3, C4, C5, C6, C7, C8, C9, C10, C11, C12, C13, C14, C15, C16, C17, C18, C19, C20, C21, C22, C23, C24, C25, C26, C27, C28] : List Addr).getD i 0) i.val ≠ (fun i => ([D0, D1, D2] : List Addr).getD i 0) k.val) ∧ (∀ k : Fin 3, ∀ l : Fin 3, (fun i => ([D0, D1, D2] : List Addr).getD i 0) k.val = (fun i => ([D0, D1, D2] : List Addr).getD i 0) l.val → k = l)) : CA K (fun i => ([C0, C1, C2, C3, C4, C5, C6, C7, C8, C9, C10, C11, C12, C13, C14, C15, C16, C17, C18, C19, C20, C21, C22, C23, C24, C25, C26, C27, C28] : List Addr).getD i 0) (fun i => ([D0, D1, D2] : List Addr).getD i 0) where
  e i hi := by
    match i, hi with
    | 0, _ => exact e0
    | 1, _ => exact e1
    | 2, _ => exact e2
    | 3, _ => exact e3
    | 4, _ => exact e4
    | 5, _ => exact e5
    | 6, _ => exact e6
    | 7, _ => exact e7
    | 8, _ => exact e8
    | 9, _ => exact e9
    | 10, _ => exact e10
    | 11, _ => exact e11
    | 12, _ => exact e12
    | 13, _ => exact e13
    | 14, _ => exact e14
    | 15, _ => exact e15
    | 16, _ => exact e16
    | 17, _ => exact e17
    | 18, _ => exact e18
    | 19, _ => exact e19
    | 20, _ => exact e20
    | 21, _ => exact e21
    | 22, _ => exact e22
    | 23, _ => exact e23
    | 24, _ => exact e24
    | 25, _ => exact e25
    | 26, _ => exact e26
    | 27, _ => exact e27
    | 28, _ => exact e28
    | n + 29, z => exact absurd z (by omega)
  b0 := b0
  b1 := b1
  b2 := b2
  cc i j hi hj z := congrArg Fin.val (nd.1 ⟨i, hi⟩ ⟨j, hj⟩ z)
  cd i k hi hk := nd.2.1 ⟨i, hi⟩ ⟨k, hk⟩
  dd k l hk hl z := congrArg Fin.val (nd.2.2 ⟨k, hk⟩ ⟨l, hl⟩ z)
theorem all_g {l : PySem.W.OpenLaw} {w : World} {K : PySem.W.Frag} {h : Heap} {mg : Str → Option Value} {fa : Addr} {cs cb : Nat → Addr} (X : K.In h) (G : h.Ns mainGlobals mg) (hfa : mg "law" = some (.ref fa)) (g1 : GlI K "DAY_LENGTH" 1440) (g2 : GlI K "HOUR_LENGTH" 60) (B : NoB K) (D : DfA K mg) (O : ObF K) (A : CA K cs cb) (FA : CFA K cs) (EA : EiA K cs cb) (R : RzF K (cs 3)) :
    ∃ fd : FuncData, (∀ (s : Shared) (v : Value), BindsTo s fd ⟨[v], []⟩ [("_law_script", v)]) ∧ ∀ base : Heap, K.In base → base.Ns mainGlobals mg → FnG l.prog w K mg base 8 fa fd ["_law_script"] (spLaw K) := by
  obtain ⟨f, fd, F⟩ := D.d21
  have e := hfa.symm.trans F.g
  injection e with e
  injection e with e
  subst e
  obtain ⟨oc, od, kV, dc, pm, an, cdv, ct, osl, rfl, _⟩ := F.F.ex
  exact ⟨_, fun s v => .of_eq rfl, fun base _ _ => al_of X G g1 g2 B D O A FA EA R F.F⟩
end Zn

set_option Elab.async false

open PySem PySem.W PyProof.Rows in
set_option maxRecDepth 100000 in
set_option maxHeartbeats 0 in
theorem PySem.Challenge.cw_everyzone_k01_exceptions_holds : PySem.Challenge.rw_everyzone_k01_exceptions.Holds := by
  w_on; o_law
  refine holds_open (r := Zh.R) (q := Zh.qv) (loose := Zh.names) (Xt := fun s => xlAt Zh.qv [] s && recOk (RowW.records (OpenRow.toRowW Zh.R)) s) (XP := XL Zh.qv []) (Yf := Hook.obs (kHook Zh.Kd.heap_1 Zh.as Zh.asOk)) (Ya := Hook.val (kHook Zh.Kd.heap_1 Zh.as Zh.asOk)) (YP := Hook.says (kHook Zh.Kd.heap_1 Zh.as Zh.asOk)) Zh.left (Hook.of (kHook Zh.Kd.heap_1 Zh.as Zh.asOk)) (Hook.keeps (kHook Zh.Kd.heap_1 Zh.as Zh.asOk)) (fun s e => xl_of s (Bool.and_eq_true_iff.mp e).1) XL.keeps (by rfl) (by rfl) (by rfl) (fun s e => recFacts_of (Bool.and_eq_true_iff.mp e).2) (by rfl) (by first | assumption | decide +kernel) (by decide +kernel) ⟨rfl, rfl, rfl, rfl, rfl, by decide +kernel⟩ ?hw ?hc
  case hw => w_witness2
  k_fill
  refine Zn.walk_g (l := PySem.Challenge.rw_everyzone_k01_exceptions) rfl rfl (fun w h Y => PySem.W.kIn_of Y) ?F
  case F =>
    intro w mg fa h KX G hmg
    refine' Zn.all_g KX G hmg (Zn.gi_mk ?gi0) (Zn.gi_mk ?gi1) ?B ?D ⟨?ohn, ?ohtk⟩ (Zn.ca_mk ?b0 ?b1 ?b2 ?e0 ?e1 ?e2 ?e3 ?e4 ?e5 ?e6 ?e7 ?e8 ?e9 ?e10 ?e11 ?e12 ?e13 ?e14 ?e15 ?e16 ?e17 ?e18 ?e19 ?e20 ?e21 ?e22 ?e23 ?e24 ?e25 ?e26 ?e27 ?e28 ?nd) ⟨?f0, ?f1, ?f2, ?f3, ?f4, ?f5, ?f6, ?f7, ?f8, ?f9, ?f10, ?f11, ?f12, ?f13, ?f14, ?f15, ?f16, ?f17, ?f18, ?f19, ?f20, ?f21, ?f22, ?f23, ?f24, ?f25, ?f26⟩ ⟨?n27, ?n28, ?m0, ?m1, ?m2⟩ (Zn.rz_mk ?zl ?zz ?zr)
    (case gi0 => k_is)
    (case gi1 => k_is)
    (case ohn => k_is)
    (case ohtk => k_is)
    case B =>
      refine' ⟨?n0, ?n1, ?n2, ?n3, ?n4, ?n5, ?n6, ?n7, ?n8, ?n9, ?n10, ?n11, ?n12, ?n13, ?n14, ?n15, ?n16, ?n17, ?n18⟩
      (case n0 => k_is)
      (case n1 => k_is)
      (case n2 => k_is)
      (case n3 => k_is)
      (case n4 => k_is)
      (case n5 => k_is)
      (case n6 => k_is)
      (case n7 => k_is)
      (case n8 => k_is)
      (case n9 => k_is)
      (case n10 => k_is)
      (case n11 => k_is)
      (case n12 => k_is)
      (case n13 => k_is)
      (case n14 => k_is)
      (case n15 => k_is)
      (case n16 => k_is)
      (case n17 => k_is)
      (case n18 => k_is)
    case D =>
      refine' ⟨?d0, ?d1, ?d2, ?d3, ?d4, ?d5, ?d6, ?d7, ?d8, ?d9, ?d10, ?d11, ?d12, ?d13, ?d14, ?d15, ?d16, ?d17, ?d18, ?d19, ?d20, ?d21⟩
      case d0 =>
        refine' Zn.df_mk KX G ?a ?l ?c ?k ?b
        (case a => k_is)
        (case l => k_is)
        (case c => k_is)
        (case k => k_is)
        (case b => exact fun us hl => match us, hl with | [_], _ => rfl)
      case d1 =>
        refine' Zn.df_mk KX G ?a ?l ?c ?k ?b
        (case a => k_is)
        (case l => k_is)
        (case c => k_is)
        (case k => k_is)
        (case b => exact fun us hl => match us, hl with | [_, _, _], _ => rfl)
      case d2 =>
        refine' Zn.df_mk KX G ?a ?l ?c ?k ?b
        (case a => k_is)
        (case l => k_is)
        (case c => k_is)
        (case k => k_is)
        (case b => exact fun us hl => match us, hl with | [_], _ => rfl)
      case d3 =>
        refine' Zn.df_mk KX G ?a ?l ?c ?k ?b
        (case a => k_is)
        (case l => k_is)
        (case c => k_is)
        (case k => k_is)
        (case b => exact fun us hl => match us, hl with | [_], _ => rfl)
      case d4 =>
        refine' Zn.df_mk KX G ?a ?l ?c ?k ?b
        (case a => k_is)
        (case l => k_is)
        (case c => k_is)
        (case k => k_is)
        (case b => exact fun us hl => match us, hl with | [_], _ => rfl)
      case d5 =>
        refine' Zn.df_mk KX G ?a ?l ?c ?k ?b
        (case a => k_is)
        (case l => k_is)
        (case c => k_is)
        (case k => k_is)
        (case b => exact fun us hl => match us, hl with | [_], _ => rfl)
      case d6 =>
        refine' Zn.df_mk KX G ?a ?l ?c ?k ?b
        (case a => k_is)
        (case l => k_is)
        (case c => k_is)
        (case k => k_is)
        (case b => exact fun us hl => match us, hl with | [_], _ => rfl)
      case d7 =>
        refine' Zn.df_mk KX G ?a ?l ?c ?k ?b
        (case a => k_is)
        (case l => k_is)
        (case c => k_is)
        (case k => k_is)
        (case b => exact fun us hl => match us, hl with | [_, _], _ => rfl)
      case d8 =>
        refine' Zn.df_mk KX G ?a ?l ?c ?k ?b
        (case a => k_is)
        (case l => k_is)
        (case c => k_is)
        (case k => k_is)
        (case b => exact fun us hl => match us, hl with | [_], _ => rfl)
      case d9 =>
        refine' Zn.df_mk KX G ?a ?l ?c ?k ?b
        (case a => k_is)
        (case l => k_is)
        (case c => k_is)
        (case k => k_is)
        (case b => exact fun us hl => match us, hl with | [_, _], _ => rfl)
      case d10 =>
        refine' Zn.df_mk KX G ?a ?l ?c ?k ?b
        (case a => k_is)
        (case l => k_is)
        (case c => k_is)
        (case k => k_is)
        (case b => exact fun us hl => match us, hl with | [_], _ => rfl)
      case d11 =>
        refine' Zn.df_mk KX G ?a ?l ?c ?k ?b
        (case a => k_is)
        (case l => k_is)
        (case c => k_is)
        (case k => k_is)
        (case b => exact fun us hl => match us, hl with | [_], _ => rfl)
      case d12 =>
        refine' Zn.df_mk KX G ?a ?l ?c ?k ?b
        (case a => k_is)
        (case l => k_is)
        (case c => k_is)
        (case k => k_is)
        (case b => exact fun us hl => match us, hl with | [_], _ => rfl)
      case d13 =>
        refine' Zn.df_mk KX G ?a ?l ?c ?k ?b
        (case a => k_is)
        (case l => k_is)
        (case c => k_is)
        (case k => k_is)
        (case b => exact fun us hl => match us, hl with | [_], _ => rfl)
      case d14 =>
        refine' Zn.df_mk KX G ?a ?l ?c ?k ?b
        (case a => k_is)
        (case l => k_is)
        (case c => k_is)
        (case k => k_is)
        (case b => exact fun us hl => match us, hl with | [_], _ => rfl)
      case d15 =>
        refine' Zn.df_mk KX G ?a ?l ?c ?k ?b
        (case a => k_is)
        (case l => k_is)
        (case c => k_is)
        (case k => k_is)
        (case b => exact fun us hl => match us, hl with | [_], _ => rfl)
      case d16 =>
        refine' Zn.df_mk KX G ?a ?l ?c ?k ?b
        (case a => k_is)
        (case l => k_is)
        (case c => k_is)
        (case k => k_is)
        (case b => exact fun us hl => match us, hl with | [_], _ => rfl)
      case d17 =>
        refine' Zn.df_mk KX G ?a ?l ?c ?k ?b
        (case a => k_is)
        (case l => k_is)
        (case c => k_is)
        (case k => k_is)
        (case b => exact fun us hl => match us, hl with | [_, _], _ => rfl)
      case d18 =>
        refine' Zn.df_mk KX G ?a ?l ?c ?k ?b
        (case a => k_is)
        (case l => k_is)
        (case c => k_is)
        (case k => k_is)
        (case b => exact fun us hl => match us, hl with | [_], _ => rfl)
      case d19 =>
        refine' Zn.df_mk KX G ?a ?l ?c ?k ?b
        (case a => k_is)
        (case l => k_is)
        (case c => k_is)
        (case k => k_is)
        (case b => exact fun us hl => match us, hl with | [_], _ => rfl)
      case d20 =>
        refine' Zn.df_mk KX G ?a ?l ?c ?k ?b
        (case a => k_is)
        (case l => k_is)
        (case c => k_is)
        (case k => k_is)
        (case b => exact fun us hl => match us, hl with | [_], _ => rfl)
      case d21 =>
        refine' Zn.df_mk KX G ?a ?l ?c ?k ?b
        (case a => k_is)
        (case l => k_is)
        (case c => k_is)
        (case k => k_is)
        (case b => exact fun us hl => match us, hl with | [_], _ => rfl)
    case b0 =>
      refine' Zn.ce_mk ?aC ?xL ?hm ?sa ?ga ?gg ?ha ?kC
      (case aC => k_is)
      (case xL => k_is)
      (case hm => rfl)
      (case sa => k_is)
      (case ga => k_is)
      (case gg => k_is)
      (case ha => k_is)
      (case kC => k_is)
    case b1 =>
      refine' Zn.ce_mk ?aC ?xL ?hm ?sa ?ga ?gg ?ha ?kC
      (case aC => k_is)
      (case xL => k_is)
      (case hm => rfl)
      (case sa => k_is)
      (case ga => k_is)
      (case gg => k_is)
      (case ha => k_is)
      (case kC => k_is)
    case b2 =>
      refine' Zn.ce_mk ?aC ?xL ?hm ?sa ?ga ?gg ?ha ?kC
      (case aC => k_is)
      (case xL => k_is)
      (case hm => rfl)
      (case sa => k_is)
      (case ga => k_is)
      (case gg => k_is)
      (case ha => k_is)
      (case kC => k_is)
    case e0 =>
      refine' Zn.ce_mk ?aC ?xL ?hm ?sa ?ga ?gg ?ha ?kC
      (case aC => k_is)
      (case xL => k_is)
      (case hm => rfl)
      (case sa => k_is)
      (case ga => k_is)
      (case gg => k_is)
      (case ha => k_is)
      (case kC => k_is)
    case e1 =>
      refine' Zn.ce_mk ?aC ?xL ?hm ?sa ?ga ?gg ?ha ?kC
      (case aC => k_is)
      (case xL => k_is)
      (case hm => rfl)
      (case sa => k_is)
      (case ga => k_is)
      (case gg => k_is)
      (case ha => k_is)
      (case kC => k_is)
    case e2 =>
      refine' Zn.ce_mk ?aC ?xL ?hm ?sa ?ga ?gg ?ha ?kC
      (case aC => k_is)
      (case xL => k_is)
      (case hm => rfl)
      (case sa => k_is)
      (case ga => k_is)
      (case gg => k_is)
      (case ha => k_is)
      (case kC => k_is)
    case e3 =>
      refine' Zn.ce_mk ?aC ?xL ?hm ?sa ?ga ?gg ?ha ?kC
      (case aC => k_is)
      (case xL => k_is)
      (case hm => rfl)
      (case sa => k_is)
      (case ga => k_is)
      (case gg => k_is)
      (case ha => k_is)
      (case kC => k_is)
    case e4 =>
      refine' Zn.ce_mk ?aC ?xL ?hm ?sa ?ga ?gg ?ha ?kC
      (case aC => k_is)
      (case xL => k_is)
      (case hm => rfl)
      (case sa => k_is)
      (case ga => k_is)
      (case gg => k_is)
      (case ha => k_is)
      (case kC => k_is)
    case e5 =>
      refine' Zn.ce_mk ?aC ?xL ?hm ?sa ?ga ?gg ?ha ?kC
      (case aC => k_is)
      (case xL => k_is)
      (case hm => rfl)
      (case sa => k_is)
      (case ga => k_is)
      (case gg => k_is)
      (case ha => k_is)
      (case kC => k_is)
    case e6 =>
      refine' Zn.ce_mk ?aC ?xL ?hm ?sa ?ga ?gg ?ha ?kC
      (case aC => k_is)
      (case xL => k_is)
      (case hm => rfl)
      (case sa => k_is)
      (case ga => k_is)
      (case gg => k_is)
      (case ha => k_is)
      (case kC => k_is)
    case e7 =>
      refine' Zn.ce_mk ?aC ?xL ?hm ?sa ?ga ?gg ?ha ?kC
      (case aC => k_is)
      (case xL => k_is)
      (case hm => rfl)
      (case sa => k_is)
      (case ga => k_is)
      (case gg => k_is)
      (case ha => k_is)
      (case kC => k_is)
    case e8 =>
      refine' Zn.ce_mk ?aC ?xL ?hm ?sa ?ga ?gg ?ha ?kC
      (case aC => k_is)
      (case xL => k_is)
      (case hm => rfl)
      (case sa => k_is)
      (case ga => k_is)
      (case gg => k_is)
      (case ha => k_is)
      (case kC => k_is)
    case e9 =>
      refine' Zn.ce_mk ?aC ?xL ?hm ?sa ?ga ?gg ?ha ?kC
      (case aC => k_is)
      (case xL => k_is)
      (case hm => rfl)
      (case sa => k_is)
      (case ga => k_is)
      (case gg => k_is)
      (case ha => k_is)
      (case kC => k_is)
    case e10 =>
      refine' Zn.ce_mk ?aC ?xL ?hm ?sa ?ga ?gg ?ha ?kC
      (case aC => k_is)
      (case xL => k_is)
      (case hm => rfl)
      (case sa => k_is)
      (case ga => k_is)
      (case gg => k_is)
      (case ha => k_is)
      (case kC => k_is)
    case e11 =>
      refine' Zn.ce_mk ?aC ?xL ?hm ?sa ?ga ?gg ?ha ?kC
      (case aC => k_is)
      (case xL => k_is)
      (case hm => rfl)
      (case sa => k_is)
      (case ga => k_is)
      (case gg => k_is)
      (case ha => k_is)
      (case kC => k_is)
    case e12 =>
      refine' Zn.ce_mk ?aC ?xL ?hm ?sa ?ga ?gg ?ha ?kC
      (case aC => k_is)
      (case xL => k_is)
      (case hm => rfl)
      (case sa => k_is)
      (case ga => k_is)
      (case gg => k_is)
      (case ha => k_is)
      (case kC => k_is)
    case e13 =>
      refine' Zn.ce_mk ?aC ?xL ?hm ?sa ?ga ?gg ?ha ?kC
      (case aC => k_is)
      (case xL => k_is)
      (case hm => rfl)
      (case sa => k_is)
      (case ga => k_is)
      (case gg => k_is)
      (case ha => k_is)
      (case kC => k_is)
    case e14 =>
      refine' Zn.ce_mk ?aC ?xL ?hm ?sa ?ga ?gg ?ha ?kC
      (case aC => k_is)
      (case xL => k_is)
      (case hm => rfl)
      (case sa => k_is)
      (case ga => k_is)
      (case gg => k_is)
      (case ha => k_is)
      (case kC => k_is)
    case e15 =>
      refine' Zn.ce_mk ?aC ?xL ?hm ?sa ?ga ?gg ?ha ?kC
      (case aC => k_is)
      (case xL => k_is)
      (case hm => rfl)
      (case sa => k_is)
      (case ga => k_is)
      (case gg => k_is)
      (case ha => k_is)
      (case kC => k_is)
    case e16 =>
      refine' Zn.ce_mk ?aC ?xL ?hm ?sa ?ga ?gg ?ha ?kC
      (case aC => k_is)
      (case xL => k_is)
      (case hm => rfl)
      (case sa => k_is)
      (case ga => k_is)
      (case gg => k_is)
      (case ha => k_is)
      (case kC => k_is)
    case e17 =>
      refine' Zn.ce_mk ?aC ?xL ?hm ?sa ?ga ?gg ?ha ?kC
      (case aC => k_is)
      (case xL => k_is)
      (case hm => rfl)
      (case sa => k_is)
      (case ga => k_is)
      (case gg => k_is)
      (case ha => k_is)
      (case kC => k_is)
    case e18 =>
      refine' Zn.ce_mk ?aC ?xL ?hm ?sa ?ga ?gg ?ha ?kC
      (case aC => k_is)
      (case xL => k_is)
      (case hm => rfl)
      (case sa => k_is)
      (case ga => k_is)
      (case gg => k_is)
      (case ha => k_is)
      (case kC => k_is)
    case e19 =>
      refine' Zn.ce_mk ?aC ?xL ?hm ?sa ?ga ?gg ?ha ?kC
      (case aC => k_is)
      (case xL => k_is)
      (case hm => rfl)
      (case sa => k_is)
      (case ga => k_is)
      (case gg => k_is)
      (case ha => k_is)
      (case kC => k_is)
    case e20 =>
      refine' Zn.ce_mk ?aC ?xL ?hm ?sa ?ga ?gg ?ha ?kC
      (case aC => k_is)
      (case xL => k_is)
      (case hm => rfl)
      (case sa => k_is)
      (case ga => k_is)
      (case gg => k_is)
      (case ha => k_is)
      (case kC => k_is)
    case e21 =>
      refine' Zn.ce_mk ?aC ?xL ?hm ?sa ?ga ?gg ?ha ?kC
      (case aC => k_is)
      (case xL => k_is)
      (case hm => rfl)
      (case sa => k_is)
      (case ga => k_is)
      (case gg => k_is)
      (case ha => k_is)
      (case kC => k_is)
    case e22 =>
      refine' Zn.ce_mk ?aC ?xL ?hm ?sa ?ga ?gg ?ha ?kC
      (case aC => k_is)
      (case xL => k_is)
      (case hm => rfl)
      (case sa => k_is)
      (case ga => k_is)
      (case gg => k_is)
      (case ha => k_is)
      (case kC => k_is)
    case e23 =>
      refine' Zn.ce_mk ?aC ?xL ?hm ?sa ?ga ?gg ?ha ?kC
      (case aC => k_is)
      (case xL => k_is)
      (case hm => rfl)
      (case sa => k_is)
      (case ga => k_is)
      (case gg => k_is)
      (case ha => k_is)
      (case kC => k_is)
    case e24 =>
      refine' Zn.ce_mk ?aC ?xL ?hm ?sa ?ga ?gg ?ha ?kC
      (case aC => k_is)
      (case xL => k_is)
      (case hm => rfl)
      (case sa => k_is)
      (case ga => k_is)
      (case gg => k_is)
      (case ha => k_is)
      (case kC => k_is)
    case e25 =>
      refine' Zn.ce_mk ?aC ?xL ?hm ?sa ?ga ?gg ?ha ?kC
      (case aC => k_is)
      (case xL => k_is)
      (case hm => rfl)
      (case sa => k_is)
      (case ga => k_is)
      (case gg => k_is)
      (case ha => k_is)
      (case kC => k_is)
    case e26 =>
      refine' Zn.ce_mk ?aC ?xL ?hm ?sa ?ga ?gg ?ha ?kC
      (case aC => k_is)
      (case xL => k_is)
      (case hm => rfl)
      (case sa => k_is)
      (case ga => k_is)
      (case gg => k_is)
      (case ha => k_is)
      (case kC => k_is)
    case e27 =>
      refine' Zn.ce_mk ?aC ?xL ?hm ?sa ?ga ?gg ?ha ?kC
      (case aC => k_is)
      (case xL => k_is)
      (case hm => rfl)
      (case sa => k_is)
      (case ga => k_is)
      (case gg => k_is)
      (case ha => k_is)
      (case kC => k_is)
    case e28 =>
      refine' Zn.ce_mk ?aC ?xL ?hm ?sa ?ga ?gg ?ha ?kC
      (case aC => k_is)
      (case xL => k_is)
      (case hm => rfl)
      (case sa => k_is)
      (case ga => k_is)
      (case gg => k_is)
      (case ha => k_is)
      (case kC => k_is)
    (case nd => decide +kernel)
    case f0 =>
      refine' Zn.cf_mk ?no ?a1 ?t1 ?l ?c ?k ?hb ?hk
      (case no => k_is)
      (case a1 => k_is)
      (case t1 => k_is)
      (case l => k_is)
      (case c => k_is)
      (case k => k_is)
      (case hb => exact fun us hl => match us, hl with | [_, _], _ => rfl)
      (case hk => exact fun u v => rfl)
    case f1 =>
      refine' Zn.cf_mk ?no ?a1 ?t1 ?l ?c ?k ?hb ?hk
      (case no => k_is)
      (case a1 => k_is)
      (case t1 => k_is)
      (case l => k_is)
      (case c => k_is)
      (case k => k_is)
      (case hb => exact fun us hl => match us, hl with | [_, _], _ => rfl)
      (case hk => exact fun u v => rfl)
    case f2 =>
      refine' Zn.cf_mk ?no ?a1 ?t1 ?l ?c ?k ?hb ?hk
      (case no => k_is)
      (case a1 => k_is)
      (case t1 => k_is)
      (case l => k_is)
      (case c => k_is)
      (case k => k_is)
      (case hb => exact fun us hl => match us, hl with | [_, _], _ => rfl)
      (case hk => exact fun u v => rfl)
    case f3 =>
      refine' Zn.cf_mk ?no ?a1 ?t1 ?l ?c ?k ?hb ?hk
      (case no => k_is)
      (case a1 => k_is)
      (case t1 => k_is)
      (case l => k_is)
      (case c => k_is)
      (case k => k_is)
      (case hb => exact fun us hl => match us, hl with | [_, _], _ => rfl)
      (case hk => exact fun u v => rfl)
    case f4 =>
      refine' Zn.cf_mk ?no ?a1 ?t1 ?l ?c ?k ?hb ?hk
      (case no => k_is)
      (case a1 => k_is)
      (case t1 => k_is)
      (case l => k_is)
      (case c => k_is)
      (case k => k_is)
      (case hb => exact fun us hl => match us, hl with | [_, _], _ => rfl)
      (case hk => exact fun u v => rfl)
    case f5 =>
      refine' Zn.cf_mk ?no ?a1 ?t1 ?l ?c ?k ?hb ?hk
      (case no => k_is)
      (case a1 => k_is)
      (case t1 => k_is)
      (case l => k_is)
      (case c => k_is)
      (case k => k_is)
      (case hb => exact fun us hl => match us, hl with | [_, _], _ => rfl)
      (case hk => exact fun u v => rfl)
    case f6 =>
      refine' Zn.cf_mk ?no ?a1 ?t1 ?l ?c ?k ?hb ?hk
      (case no => k_is)
      (case a1 => k_is)
      (case t1 => k_is)
      (case l => k_is)
      (case c => k_is)
      (case k => k_is)
      (case hb => exact fun us hl => match us, hl with | [_, _], _ => rfl)
      (case hk => exact fun u v => rfl)
    case f7 =>
      refine' Zn.cf_mk ?no ?a1 ?t1 ?l ?c ?k ?hb ?hk
      (case no => k_is)
      (case a1 => k_is)
      (case t1 => k_is)
      (case l => k_is)
      (case c => k_is)
      (case k => k_is)
      (case hb => exact fun us hl => match us, hl with | [_, _], _ => rfl)
      (case hk => exact fun u v => rfl)
    case f8 =>
      refine' Zn.cf_mk ?no ?a1 ?t1 ?l ?c ?k ?hb ?hk
      (case no => k_is)
      (case a1 => k_is)
      (case t1 => k_is)
      (case l => k_is)
      (case c => k_is)
      (case k => k_is)
      (case hb => exact fun us hl => match us, hl with | [_, _], _ => rfl)
      (case hk => exact fun u v => rfl)
    case f9 =>
      refine' Zn.cf_mk ?no ?a1 ?t1 ?l ?c ?k ?hb ?hk
      (case no => k_is)
      (case a1 => k_is)
      (case t1 => k_is)
      (case l => k_is)
      (case c => k_is)
      (case k => k_is)
      (case hb => exact fun us hl => match us, hl with | [_, _], _ => rfl)
      (case hk => exact fun u v => rfl)
    case f10 =>
      refine' Zn.cf_mk ?no ?a1 ?t1 ?l ?c ?k ?hb ?hk
      (case no => k_is)
      (case a1 => k_is)
      (case t1 => k_is)
      (case l => k_is)
      (case c => k_is)
      (case k => k_is)
      (case hb => exact fun us hl => match us, hl with | [_, _], _ => rfl)
      (case hk => exact fun u v => rfl)
    case f11 =>
      refine' Zn.cf_mk ?no ?a1 ?t1 ?l ?c ?k ?hb ?hk
      (case no => k_is)
      (case a1 => k_is)
      (case t1 => k_is)
      (case l => k_is)
      (case c => k_is)
      (case k => k_is)
      (case hb => exact fun us hl => match us, hl with | [_, _], _ => rfl)
      (case hk => exact fun u v => rfl)
    case f12 =>
      refine' Zn.cf_mk ?no ?a1 ?t1 ?l ?c ?k ?hb ?hk
      (case no => k_is)
      (case a1 => k_is)
      (case t1 => k_is)
      (case l => k_is)
      (case c => k_is)
      (case k => k_is)
      (case hb => exact fun us hl => match us, hl with | [_, _], _ => rfl)
      (case hk => exact fun u v => rfl)
    case f13 =>
      refine' Zn.cf_mk ?no ?a1 ?t1 ?l ?c ?k ?hb ?hk
      (case no => k_is)
      (case a1 => k_is)
      (case t1 => k_is)
      (case l => k_is)
      (case c => k_is)
      (case k => k_is)
      (case hb => exact fun us hl => match us, hl with | [_, _], _ => rfl)
      (case hk => exact fun u v => rfl)
    case f14 =>
      refine' Zn.cf_mk ?no ?a1 ?t1 ?l ?c ?k ?hb ?hk
      (case no => k_is)
      (case a1 => k_is)
      (case t1 => k_is)
      (case l => k_is)
      (case c => k_is)
      (case k => k_is)
      (case hb => exact fun us hl => match us, hl with | [_, _], _ => rfl)
      (case hk => exact fun u v => rfl)
    case f15 =>
      refine' Zn.cf_mk ?no ?a1 ?t1 ?l ?c ?k ?hb ?hk
      (case no => k_is)
      (case a1 => k_is)
      (case t1 => k_is)
      (case l => k_is)
      (case c => k_is)
      (case k => k_is)
      (case hb => exact fun us hl => match us, hl with | [_, _], _ => rfl)
      (case hk => exact fun u v => rfl)
    case f16 =>
      refine' Zn.cf_mk ?no ?a1 ?t1 ?l ?c ?k ?hb ?hk
      (case no => k_is)
      (case a1 => k_is)
      (case t1 => k_is)
      (case l => k_is)
      (case c => k_is)
      (case k => k_is)
      (case hb => exact fun us hl => match us, hl with | [_, _], _ => rfl)
      (case hk => exact fun u v => rfl)
    case f17 =>
      refine' Zn.cf_mk ?no ?a1 ?t1 ?l ?c ?k ?hb ?hk
      (case no => k_is)
      (case a1 => k_is)
      (case t1 => k_is)
      (case l => k_is)
      (case c => k_is)
      (case k => k_is)
      (case hb => exact fun us hl => match us, hl with | [_, _], _ => rfl)
      (case hk => exact fun u v => rfl)
    case f18 =>
      refine' Zn.cf_mk ?no ?a1 ?t1 ?l ?c ?k ?hb ?hk
      (case no => k_is)
      (case a1 => k_is)
      (case t1 => k_is)
      (case l => k_is)
      (case c => k_is)
      (case k => k_is)
      (case hb => exact fun us hl => match us, hl with | [_, _], _ => rfl)
      (case hk => exact fun u v => rfl)
    case f19 =>
      refine' Zn.cf_mk ?no ?a1 ?t1 ?l ?c ?k ?hb ?hk
      (case no => k_is)
      (case a1 => k_is)
      (case t1 => k_is)
      (case l => k_is)
      (case c => k_is)
      (case k => k_is)
      (case hb => exact fun us hl => match us, hl with | [_, _], _ => rfl)
      (case hk => exact fun u v => rfl)
    case f20 =>
      refine' Zn.cf_mk ?no ?a1 ?t1 ?l ?c ?k ?hb ?hk
      (case no => k_is)
      (case a1 => k_is)
      (case t1 => k_is)
      (case l => k_is)
      (case c => k_is)
      (case k => k_is)
      (case hb => exact fun us hl => match us, hl with | [_, _], _ => rfl)
      (case hk => exact fun u v => rfl)
    case f21 =>
      refine' Zn.cf_mk ?no ?a1 ?t1 ?l ?c ?k ?hb ?hk
      (case no => k_is)
      (case a1 => k_is)
      (case t1 => k_is)
      (case l => k_is)
      (case c => k_is)
      (case k => k_is)
      (case hb => exact fun us hl => match us, hl with | [_, _], _ => rfl)
      (case hk => exact fun u v => rfl)
    case f22 =>
      refine' Zn.cf_mk ?no ?a1 ?t1 ?l ?c ?k ?hb ?hk
      (case no => k_is)
      (case a1 => k_is)
      (case t1 => k_is)
      (case l => k_is)
      (case c => k_is)
      (case k => k_is)
      (case hb => exact fun us hl => match us, hl with | [_, _], _ => rfl)
      (case hk => exact fun u v => rfl)
    case f23 =>
      refine' Zn.cf_mk ?no ?a1 ?t1 ?l ?c ?k ?hb ?hk
      (case no => k_is)
      (case a1 => k_is)
      (case t1 => k_is)
      (case l => k_is)
      (case c => k_is)
      (case k => k_is)
      (case hb => exact fun us hl => match us, hl with | [_, _], _ => rfl)
      (case hk => exact fun u v => rfl)
    case f24 =>
      refine' Zn.cf_mk ?no ?a1 ?t1 ?l ?c ?k ?hb ?hk
      (case no => k_is)
      (case a1 => k_is)
      (case t1 => k_is)
      (case l => k_is)
      (case c => k_is)
      (case k => k_is)
      (case hb => exact fun us hl => match us, hl with | [_, _], _ => rfl)
      (case hk => exact fun u v => rfl)
    case f25 =>
      refine' Zn.cf_mk ?no ?a1 ?t1 ?l ?c ?k ?hb ?hk
      (case no => k_is)
      (case a1 => k_is)
      (case t1 => k_is)
      (case l => k_is)
      (case c => k_is)
      (case k => k_is)
      (case hb => exact fun us hl => match us, hl with | [_, _], _ => rfl)
      (case hk => exact fun u v => rfl)
    case f26 =>
      refine' Zn.cf_mk ?no ?a1 ?t1 ?l ?c ?k ?hb ?hk
      (case no => k_is)
      (case a1 => k_is)
      (case t1 => k_is)
      (case l => k_is)
      (case c => k_is)
      (case k => k_is)
      (case hb => exact fun us hl => match us, hl with | [_, _], _ => rfl)
      (case hk => exact fun u v => rfl)
    case n27 =>
      refine' Zn.ei1_mk (A := _) ?l ?e ?ne ?n ?i ?l2 ?n2 ?i2
      (case l => k_is)
      (case e => rfl)
      (case ne => simp)
      case n =>
        refine' Zn.nsOk_mk ?nl ?nh
        (case nl => k_is)
        (case nh => first | rfl | decide +kernel | simp [PySem.W.nsOkIn, List.lookup])
      (case i => k_is)
      (case l2 => k_is)
      case n2 =>
        refine' Zn.nsOk_mk ?nl ?nh
        (case nl => k_is)
        (case nh => first | rfl | decide +kernel | simp [PySem.W.nsOkIn, List.lookup])
      (case i2 => k_is)
    case n28 =>
      refine' Zn.ei1_mk (A := _) ?l ?e ?ne ?n ?i ?l2 ?n2 ?i2
      (case l => k_is)
      (case e => rfl)
      (case ne => simp)
      case n =>
        refine' Zn.nsOk_mk ?nl ?nh
        (case nl => k_is)
        (case nh => first | rfl | decide +kernel | simp [PySem.W.nsOkIn, List.lookup])
      (case i => k_is)
      (case l2 => k_is)
      case n2 =>
        refine' Zn.nsOk_mk ?nl ?nh
        (case nl => k_is)
        (case nh => first | rfl | decide +kernel | simp [PySem.W.nsOkIn, List.lookup])
      (case i2 => k_is)
    case m0 =>
      refine' Zn.ei0_mk ?l ?e ?ne ?n ?i
      (case l => k_is)
      (case e => rfl)
      (case ne => simp)
      case n =>
        refine' Zn.nsOk_mk ?nl ?nh
        (case nl => k_is)
        (case nh => first | rfl | decide +kernel | simp [PySem.W.nsOkIn, List.lookup])
      (case i => k_is)
    case m1 =>
      refine' Zn.ei0_mk ?l ?e ?ne ?n ?i
      (case l => k_is)
      (case e => rfl)
      (case ne => simp)
      case n =>
        refine' Zn.nsOk_mk ?nl ?nh
        (case nl => k_is)
        (case nh => first | rfl | decide +kernel | simp [PySem.W.nsOkIn, List.lookup])
      (case i => k_is)
    case m2 =>
      refine' Zn.ei0_mk ?l ?e ?ne ?n ?i
      (case l => k_is)
      (case e => rfl)
      (case ne => simp)
      case n =>
        refine' Zn.nsOk_mk ?nl ?nh
        (case nl => k_is)
        (case nh => first | rfl | decide +kernel | simp [PySem.W.nsOkIn, List.lookup])
      (case i => k_is)
    (case zl => k_is)
    (case zz => decide +kernel)
    (case zr => k_is)
