/-
  A job hears any message (by the plain type Ms): what it makes of the job.
-/
import Derived.Test.YtidcoddefebdpaaGreatJobLaws
import Derived.Test.YtidcoddefebdpaaGreatMsMayB
set_option linter.unusedVariables false
set_option linter.unusedSimpArgs false
set_option maxRecDepth 100000
set_option maxRecDepth 100000
namespace Go.Proofs.YtidcoddefebdpaaGreat
open Go.RowKit Go Go.Lib

def JS.all (j : JS) : List Int := whichL (fun _ => true) j 4
/-- of which trace and job it is -/
def Ms.tj : Ms → Int × Int
  | .trigger _ t _ => (t, 0)
  | .pin t j => (t, j)
  | .pinned p => (p.t, p.j)
  | .gone _ t j => (t, j)
  | .collect t j => (t, j)
  | .chunk _ t j _ _ _ => (t, j)
  | .manifest t j _ _ => (t, j)
  | .stored t j => (t, j)
  | .unpin t j => (t, j)
  | .unpinned _ t j => (t, j)
theorem of_ms (v : Value) (m : Ms) (w : World) (h : MsW w v m) : Calls Tryz.prog 54 #[v] w fun e w' => e = .returned (.tuple #[.int .i64 m.tj.1, .int .i64 m.tj.2, .bool true]) ∧ Fr noB w w' := by
  cases m with
  | trigger a t c => obtain rfl := h; exact of_of (v := .nilIface) (of_Trigger a t c w)
  | pin t j => obtain rfl := h; exact of_of (v := .nilIface) (of_Pin t j w)
  | pinned p => obtain ⟨u, rfl, h1⟩ := h; obtain ⟨ua, uc, rfl, _⟩ := h1; exact of_of (v := .nilIface) (of_Pinned p.a p.t p.j p.n ua _ uc p.lo w)
  | gone a t j => obtain rfl := h; exact of_of (v := .nilIface) (of_Gone a t j w)
  | collect t j => obtain rfl := h; exact of_of (v := .nilIface) (of_Collect t j w)
  | chunk a t j i n sp => obtain ⟨u, rfl, h1⟩ := h; obtain ⟨ua, uc, rfl, _⟩ := h1; exact of_of (v := .nilIface) (of_Chunk a t j i n ua _ uc w)
  | manifest t j c ps => obtain ⟨u, rfl, h1⟩ := h; obtain ⟨ua, uc, rfl, _⟩ := h1; exact of_of (v := .nilIface) (of_Manifest t j c ua _ uc w)
  | stored t j => obtain rfl := h; exact of_of (v := .nilIface) (of_Stored t j w)
  | unpin t j => obtain rfl := h; exact of_of (v := .nilIface) (of_Unpin t j w)
  | unpinned a t j => obtain rfl := h; exact of_of (v := .nilIface) (of_Unpinned a t j w)

def Pn.told (p : Pn) : Told := ⟨p.a, p.t, p.j, p.n, none, p.cr.length, 0, p.lo⟩
/-- does a Pinned pin an agent? -/
def JS.pinsM (j : JS) (p : Pn) : Bool := decide (p.t = j.tr) && (decide (p.j = j.id) && (pnB p && (decide (j.ph = 1) && ((j.at p.a.toNat).v && !(j.at p.a.toNat).p))))
/-- what a message makes of a job -/
def JS.hearM (j : JS) : Ms → JS
  | .pinned p => if j.pinsM p = true then j.pin p.a.toNat p.told p.cr else j
  | .gone a t n => if (t = j.tr ∧ n = j.id) ∧ bGone a t n = true then j.gon a.toNat else j
  | .stored t n => if (t = j.tr ∧ n = j.id) ∧ bStored t n = true then j.sto else j
  | .unpinned a t n => if (t = j.tr ∧ n = j.id) ∧ bUnpinned a t n = true then j.unp a.toNat else j
  | _ => j
def JS.hearXM (j : JS) (m : Ms) (X : Nat → List Int) : Nat → List Int :=
  match m with
  | .pinned p => if j.pinsM p = true then fun b => if b = p.a.toNat then p.cr else X b else X
  | _ => X
theorem pinsM_facts {j : JS} {p : Pn} (h : j.pinsM p = true) : p.t = j.tr ∧ p.j = j.id ∧ pinB p.a p.t p.j p.n p.cr = true ∧ j.ph = 1 ∧ (j.at p.a.toNat).v = true ∧ (j.at p.a.toNat).p = false := by
  unfold JS.pinsM pnB at h
  simp only [Bool.and_eq_true, decide_eq_true_eq, Bool.not_eq_true'] at h
  exact ⟨h.1, h.2.1, h.2.2.1, h.2.2.2.1, h.2.2.2.2.1, h.2.2.2.2.2⟩
theorem pinsM_yes {j : JS} {p : Pn} (h2 : p.t = j.tr) (h3 : p.j = j.id) (h4 : pinB p.a p.t p.j p.n p.cr = true) (h5 : j.ph = 1) (h6 : (j.at p.a.toNat).v = true) (h7 : (j.at p.a.toNat).p = false) : j.pinsM p = true := by
  unfold JS.pinsM pnB
  simp only [h4, h6, h7, decide_eq_true h2, decide_eq_true h3, decide_eq_true h5]
  rfl
theorem pinsM_no {j : JS} {p : Pn} (h : ¬ (pinB p.a p.t p.j p.n p.cr = true ∧ p.t = j.tr ∧ p.j = j.id) ∨ j.ph ≠ 1 ∨ (j.at p.a.toNat).v = false ∨ (j.at p.a.toNat).p = true) : j.pinsM p = false := by
  rw [Bool.eq_false_iff]
  intro q
  obtain ⟨q1, q2, q3, q4, q5, q6⟩ := pinsM_facts q
  rcases h with h | h | h | h
  · exact h ⟨q3, q1, q2⟩
  · exact h q4
  · rw [h] at q5; cases q5
  · rw [h] at q6; cases q6
theorem hear_ms (p : Nat) (L : Nat → Prop) (j : JS) (X : Nat → List Int) (m : Ms) (v : Value) (w : World) (h : JG w p L j X) (hL : ∀ g, w.heap.size ≤ g → L g) (hpL : ¬ L p) (hm : MsW w v m)
    (hxp : ∀ pn ua un uc, m = .pinned pn → v = mPinned pn.a pn.t pn.j pn.n (.slice ua un uc) pn.lo → pn.cr ≠ [] → ∀ g o, ua = some ⟨g, o, none⟩ → g ≠ p) :
    Calls Tryz.prog 55 #[.pointer (some ⟨p, 0, none⟩), v] w fun e w' => e = .returned (.tuple #[]) ∧ JG w' p L (j.hearM m) (j.hearXM m X) ∧ Fr (onlyB p) w w' := by
  obtain ⟨j', hJ, rfl, hag, hT⟩ := h
  have hr := fun w' (f : Fr noB w w') => right_ms v m w' (hm.frN f)
  have ho := fun w' (f : Fr noB w w') => of_ms v m w' (hm.frN f)
  have same : ∀ w', Fr noB w w' → JG w' p L j'.nm X ∧ Fr (onlyB p) w w' := fun w' f =>
    ⟨JG.turn hT hpL (hJ.frN f) (f.mono (T := onlyB p) (fun _ _ q => False.elim q)) hag (fun _ => rfl), f.mono (fun _ _ q => False.elim q)⟩
  have idle : (∀ w', Calls Tryz.prog 73 #[.pointer (some ⟨p, 0, none⟩), v] w' fun e w'' => e = .returned (.tuple #[]) ∧ Fr noB w' w'') →
      Calls Tryz.prog 55 #[.pointer (some ⟨p, 0, none⟩), v] w fun e w' => e = .returned (.tuple #[]) ∧ JG w' p L j'.nm X ∧ Fr (onlyB p) w w' := by
    intro hk
    refine (hear_idle p j' v m.tj.1 m.tj.2 w hJ ((hr w (Fr.refl _ _)).mono fun e w'' ⟨h1, h2⟩ => ⟨_, h1, h2⟩) ho hk).mono ?_
    rintro e w' ⟨rfl, f⟩
    exact ⟨rfl, same w' f⟩
  cases m with
  | trigger a t c => obtain rfl := hm; exact idle (fun w' => take_Trigger p a t c w')
  | pin t n => obtain rfl := hm; exact idle (fun w' => take_Pin p t n w')
  | collect t n => obtain rfl := hm; exact idle (fun w' => take_Collect p t n w')
  | chunk a t n i k sp => obtain ⟨u, rfl, h1⟩ := hm; obtain ⟨ua, uc, rfl, _⟩ := h1; exact idle (fun w' => take_Chunk p a t n i k ua _ uc w')
  | manifest t n c ps => obtain ⟨u, rfl, h1⟩ := hm; obtain ⟨ua, uc, rfl, _⟩ := h1; exact idle (fun w' => take_Manifest p t n c ua _ uc w')
  | unpin t n => obtain rfl := hm; exact idle (fun w' => take_Unpin p t n w')
  | pinned pn =>
    obtain ⟨u, rfl, hx⟩ := hm
    have hx0 := hx
    obtain ⟨ua, uc, rfl, _⟩ := hx
    refine (hear_gen p j' _ (pnB pn) pn.t pn.j (fun w1 w' => PinPost p j' pn.a pn.t pn.j pn.n pn.lo pn.cr w1 w') w hJ hr ho
      (fun hb _ _ w' f => take_Pinned p j' pn.a pn.t pn.j pn.n ua uc pn.lo pn.cr w' (hJ.frN f) (hx0.fr f (fun _ _ _ _ _ q => q)) (pinB_facts hb).2.1 (pinB_facts hb).2.2 hag (hxp pn ua _ uc rfl rfl) (pinB_facts hb).1.1 (pinB_facts hb).1.2)).mono ?_
    rintro e w' ⟨rfl, ⟨hno, f⟩ | ⟨⟨hb, ht, hj⟩, f, w1, f1, hq⟩⟩
    · have hp : j'.nm.pinsM pn = false := pinsM_no (Or.inl hno)
      show _ ∧ JG w' p L (if _ then _ else _) (if _ then _ else _) ∧ _
      rw [if_neg (by rw [hp]; decide), if_neg (by rw [hp]; decide)]
      exact ⟨rfl, same w' f⟩
    · rcases hq with ⟨hno, hJ'⟩ | ⟨⟨h1, h2, h3⟩, ta, tc, hrd, hta, hJ'⟩
      · have hp : j'.nm.pinsM pn = false := pinsM_no (Or.inr (by rw [at_nm]; exact hno))
        show _ ∧ JG w' p L (if _ then _ else _) (if _ then _ else _) ∧ _
        rw [if_neg (by rw [hp]; decide), if_neg (by rw [hp]; decide)]
        exact ⟨rfl, JG.turn hT hpL hJ' f hag (fun _ => rfl), f⟩
      · have hp : j'.nm.pinsM pn = true := pinsM_yes ht hj hb h1 (by rw [at_nm]; exact h2) (by rw [at_nm]; exact h3)
        show _ ∧ JG w' p L (if _ then _ else _) (if _ then _ else _) ∧ _
        rw [if_pos hp, if_pos hp]
        obtain ⟨⟨ha0, ha3⟩, _, hl4⟩ := pinB_facts hb
        refine ⟨rfl, ⟨_, hJ', pin_nm j' _ _ _, by rw [pin_ag]; exact hag, fun b hb4 => ?_⟩, f⟩
        rw [pin_told j' _ b _ _ (by omega) hb4]
        by_cases hba : b = pn.a.toNat
        · rw [if_pos hba]
          simp only [if_pos hba]
          exact ⟨hrd, hl4, fun _ g o e => hL g (by have := hta g o e; have := f1.size; omega)⟩
        · rw [if_neg hba]
          simp only [if_neg hba]
          obtain ⟨k1, k2, k3⟩ := hT b hb4
          exact ⟨k1.fr1 f (fun hne g o n c e q => hpL (by have := k3 hne g o (by injection e); unfold onlyB at q; rw [q] at this; exact this)), k2, k3⟩
  | gone a t n =>
    obtain rfl := hm
    refine (hear_gen p j' _ (bGone a t n) t n (fun w1 w' => Jb w' p (j'.gon a.toNat)) w hJ hr ho
      (fun hb _ _ w' f => take_Gone p j' a t n w' (hJ.frN f) (bGone_facts hb).1 (bGone_facts hb).2)).mono ?_
    rintro e w' ⟨rfl, ⟨hno, f⟩ | ⟨⟨hb, ht, hj⟩, f, w1, f1, hq⟩⟩
    · show _ ∧ JG w' p L (if _ then _ else _) X ∧ _
      rw [if_neg (fun e => hno ⟨e.2, e.1⟩)]
      exact ⟨rfl, same w' f⟩
    · show _ ∧ JG w' p L (if _ then _ else _) X ∧ _
      rw [if_pos ⟨⟨ht, hj⟩, hb⟩, ← gon_nm]
      exact ⟨rfl, JG.turn hT hpL hq f (by rw [gon_ag]; exact hag) (fun a => gon_told j' _ a), f⟩
  | stored t n =>
    obtain rfl := hm
    refine (hear_gen p j' _ (bStored t n) t n (fun w1 w' => Jb w' p j'.sto) w hJ hr ho
      (fun hb _ _ w' f => take_Stored p j' t n w' (hJ.frN f))).mono ?_
    rintro e w' ⟨rfl, ⟨hno, f⟩ | ⟨⟨hb, ht, hj⟩, f, w1, f1, hq⟩⟩
    · show _ ∧ JG w' p L (if _ then _ else _) X ∧ _
      rw [if_neg (fun e => hno ⟨e.2, e.1⟩)]
      exact ⟨rfl, same w' f⟩
    · show _ ∧ JG w' p L (if _ then _ else _) X ∧ _
      rw [if_pos ⟨⟨ht, hj⟩, hb⟩, ← sto_nm]
      exact ⟨rfl, JG.turn hT hpL hq f (by rw [sto_ag]; exact hag) (fun a => sto_told j' a), f⟩
  | unpinned a t n =>
    obtain rfl := hm
    refine (hear_gen p j' _ (bUnpinned a t n) t n (fun w1 w' => Jb w' p (j'.unp a.toNat)) w hJ hr ho
      (fun hb _ _ w' f => take_Unpinned p j' a t n w' (hJ.frN f) (bUnp_facts hb).1 (bUnp_facts hb).2)).mono ?_
    rintro e w' ⟨rfl, ⟨hno, f⟩ | ⟨⟨hb, ht, hj⟩, f, w1, f1, hq⟩⟩
    · show _ ∧ JG w' p L (if _ then _ else _) X ∧ _
      rw [if_neg (fun e => hno ⟨e.2, e.1⟩)]
      exact ⟨rfl, same w' f⟩
    · show _ ∧ JG w' p L (if _ then _ else _) X ∧ _
      rw [if_pos ⟨⟨ht, hj⟩, hb⟩, ← unp_nm]
      exact ⟨rfl, JG.turn hT hpL hq f (by rw [unp_ag]; exact hag) (fun a => unp_told j' _ a), f⟩
end Go.Proofs.YtidcoddefebdpaaGreat
