/- Several Rings at once: what stays true, in plain words; what the walk carries. -/
import Derived.Test.YtfhbgabblegecaaBlMeA
import Derived.Test.YtfhbgabblegecaaBlOtW
import Derived.Test.YtfhbgabblegecaaRowA
import Derived.Test.YtfhbgabblegecaaRowC
namespace Go.Proofs.Ytfhbgabblegecaa.Bl
open Go.RowKit

/-- The sum of the first n cells; how many of the first k are roused. -/
def sumL (L : List Int) : Nat → Int
  | 0 => 0
  | n + 1 => sumL L n + L.getD n 0
def isR : OS → Bool
  | .over 7 _ => true
  | _ => false
def cntR (r : Nat → OS) : Nat → Int
  | 0 => 0
  | k + 1 => cntR r k + if isR (r k) = true then 1 else 0
theorem cntR_nonneg (r : Nat → OS) (k : Nat) : 0 ≤ cntR r k ∧ cntR r k ≤ k := by
  induction k with
  | zero => simp [cntR]
  | succ k ih => simp only [cntR]; split <;> omega
theorem cntR_same (r r' : Nat → OS) (k : Nat) (h : ∀ p, p < k → isR (r p) = isR (r' p)) : cntR r k = cntR r' k := by
  induction k with
  | zero => rfl
  | succ k ih => simp only [cntR]; rw [ih (fun p hp => h p (by omega)), h k (by omega)]
theorem cntR_upd (r : Nat → OS) (k p : Nat) (s : OS) (hp : p < k) (h1 : isR (r p) = false) (h2 : isR s = true) : cntR (upd r p s) k = cntR r k + 1 := by
  induction k with
  | zero => omega
  | succ k ih =>
    simp only [cntR]
    by_cases e : p = k
    · subst e
      rw [upd_same, h1, h2, cntR_same (upd r p s) r p (fun q hq => by rw [upd_other _ _ _ _ (by omega)])]
      simp
    · rw [ih (by omega), upd_other _ _ _ _ (fun h => e h.symm)]
      omega
theorem cntR_all (r : Nat → OS) (k : Nat) (h : ∀ p, p < k → isR (r p) = true) : cntR r k = k := by
  induction k with
  | zero => rfl
  | succ k ih => simp only [cntR]; rw [ih (fun p hp => h p (by omega)), h k (by omega)]; simp
theorem sumL_zero (L : List Int) (n : Nat) (h : ∀ i, i < n → L.getD i 0 = 0) : sumL L n = 0 := by
  induction n with
  | zero => rfl
  | succ n ih => simp only [sumL]; rw [ih (fun i hi => h i (by omega)), h n (by omega)]; rfl
theorem sumL_set (L : List Int) (n v : Nat) (hv : v < n) (hl : v < L.length) (h : L.getD v 0 = 1) : sumL (L.set v 0) n = sumL L n - 1 := by
  have key : ∀ m, m ≤ v → sumL (L.set v 0) m = sumL L m := by
    intro m hm
    induction m with
    | zero => rfl
    | succ m ih => simp only [sumL]; rw [ih (by omega), set_other _ _ _ _ (by omega)]
  induction n with
  | zero => omega
  | succ n ih =>
    simp only [sumL]
    by_cases e : v = n
    · subst e; rw [key v (Nat.le_refl _), set_same _ _ _ hl, h]; omega
    · rw [ih (by omega), set_other _ _ _ _ e]; omega
theorem sumL_nonneg (L : List Int) (n : Nat) (h : ∀ i, i < n → 0 ≤ L.getD i 0) : 0 ≤ sumL L n := by
  induction n with
  | zero => simp [sumL]
  | succ n ih => simp only [sumL]; have := ih (fun i hi => h i (by omega)); have := h n (by omega); omega

/-- How a Ring stands. -/
inductive Fm (n : Nat) (A : List Bool) (L : List Int) : OS → Prop
  | look (v : Nat) (hv : v < n) (h : ∀ u, u < v → L.getD u 0 = 0) : Fm n A L (.look v)
  | rouse (v : Nat) (hv : v < n) (ha : A.getD v false = true) (h : ∀ u, u < v → L.getD u 0 = 0) : Fm n A L (.rouse v)
  | done (v : Nat) (hv : v < n) (ha : A.getD v false = true) (h : L.getD v 0 = 0) : Fm n A L (.over 7 (v : Int))
  | none (h : ∀ u, u < n → L.getD u 0 = 0) : Fm n A L (.over 4 (-1))
structure BO (n k : Nat) (A : List Bool) (S0 : Int) (L : List Int) (r : Nat → OS) : Prop where
  len : L.length = n + 1
  bit : ∀ i, i < n → L.getD i 0 = 0 ∨ (L.getD i 0 = 1 ∧ A.getD i false = true)
  fm : ∀ p, p < k → Fm n A L (r p)
  dis : ∀ p q (x : Int), p < k → q < k → p ≠ q → r p = .over 7 x → r q ≠ .over 7 x
  sum : sumL L n + cntR r k = S0
theorem Fm.zero {n : Nat} {A : List Bool} {L L' : List Int} {s : OS} (h : Fm n A L s) (hz : ∀ i, i < n → L.getD i 0 = 0 → L'.getD i 0 = 0) : Fm n A L' s := by
  cases h with
  | look v hv h => exact .look v hv (fun u hu => hz u (by omega) (h u hu))
  | rouse v hv ha h => exact .rouse v hv ha (fun u hu => hz u (by omega) (h u hu))
  | done v hv ha h => exact .done v hv ha (hz v hv h)
  | none h => exact .none (fun u hu => hz u hu (h u hu))
theorem Fm.on {n v : Nat} {A : List Bool} {L : List Int} (hv : v < n) (h : ∀ u, u < v → L.getD u 0 = 0) (h0 : L.getD v 0 = 0) : Fm n A L (Bl.on n v) := by
  have hz : ∀ u, u < v + 1 → L.getD u 0 = 0 := fun u hu => by
    by_cases e : u = v
    · subst e; exact h0
    · exact h u (by omega)
  unfold Bl.on; split
  · rename_i e; exact .none (fun u hu => hz u (by omega))
  · exact .look (v + 1) (by omega) hz
theorem isR_on (n v : Nat) : isR (on n v) = false := by unfold on; split <;> rfl
theorem Fm.apart {n : Nat} {A : List Bool} {L : List Int} {s : OS} (h : Fm n A L s) (S : Nat → Prop) : s.apart S := by cases h <;> trivial
theorem Fm.rk_le {n : Nat} {A : List Bool} {L : List Int} {s : OS} (h : Fm n A L s) : rk n s ≤ 2 * n := by cases h <;> simp only [rk] <;> omega
/-- One step of one of them. -/
theorem BO.step {n k : Nat} {A : List Bool} {S0 : Int} {L : List Int} {r : Nat → OS} (h : BO n k A S0 L r) {p : Nat} (hp : p < k) :
    BO n k A S0 (stepL 0 L (r p)) (upd r p (stepS 0 n L (r p))) ∧ rk n (stepS 0 n L (r p)) ≤ rk n (r p) - 1 := by
  obtain ⟨len, bit, fm, dis, sum⟩ := h
  have same : ∀ s, Fm n A L s → isR (r p) = false → isR s = false → BO n k A S0 L (upd r p s) := fun s hs h1 h2 => by
    refine ⟨len, bit, fun q hq => ?_, fun q q' x hq hq' hne e => ?_, ?_⟩
    · by_cases e : q = p
      · subst e; rw [upd_same]; exact hs
      · rw [upd_other _ _ _ _ e]; exact fm q hq
    · by_cases e1 : q = p
      · subst e1; rw [upd_same] at e; rw [e] at h2; cases h2
      · rw [upd_other _ _ _ _ e1] at e
        by_cases e2 : q' = p
        · subst e2; rw [upd_same]; intro e3; rw [e3] at h2; cases h2
        · rw [upd_other _ _ _ _ e2]; exact dis q q' x hq hq' hne e
    · rw [cntR_same (upd r p s) r k (fun q hq => by
        by_cases e : q = p
        · subst e; rw [upd_same, h1, h2]
        · rw [upd_other _ _ _ _ e])]
      exact sum
  have stay : ∀ s, r p = s → stepS 0 n L s = s → stepL 0 L s = L → BO n k A S0 (stepL 0 L (r p)) (upd r p (stepS 0 n L (r p))) := fun s e1 e2 e3 => by
    rw [e1, e2, e3, show upd r p s = r from funext fun q => by
      by_cases e : q = p
      · subst e; rw [upd_same, e1]
      · rw [upd_other _ _ _ _ e]]
    exact ⟨len, bit, fm, dis, sum⟩
  have f := fm p hp
  generalize hs : r p = s at f
  cases f with
  | look v hv hz =>
    rcases bit v hv with h0 | ⟨h1, ha⟩
    · rw [(step_look0 n v L h0).1, (step_look0 n v L h0).2]
      exact ⟨same _ (Fm.on hv hz h0) (by rw [hs]; rfl) (isR_on _ _), Nat.le_trans (rk_on n v) (by simp only [rk]; omega)⟩
    · rw [(step_look1 n v L h1).1, (step_look1 n v L h1).2]
      exact ⟨same _ (.rouse v hv ha hz) (by rw [hs]; rfl) rfl, by simp only [rk]; omega⟩
  | rouse v hv ha hz =>
    by_cases h1 : L.getD v 0 = 1
    · rw [(step_rouse1 n v L h1).1, (step_rouse1 n v L h1).2]
      refine ⟨⟨by simpa using len, fun i hi => ?_, fun q hq => ?_, fun q q' x hq hq' hne e => ?_, ?_⟩, by simp [rk]⟩
      · by_cases e : v = i
        · subst e; left; exact set_same _ _ _ (by omega)
        · rw [set_other _ _ _ _ e]; exact bit i hi
      · have hzz : ∀ i, i < n → L.getD i 0 = 0 → (L.set v 0).getD i 0 = 0 := fun i hi h => by
          by_cases e : v = i
          · subst e; exact set_same _ _ _ (by omega)
          · rw [set_other _ _ _ _ e]; exact h
        by_cases e : q = p
        · subst e; rw [upd_same]; exact .done v hv ha (set_same _ _ _ (by omega))
        · rw [upd_other _ _ _ _ e]; exact (fm q hq).zero hzz
      · have nov : ∀ q, q < k → r q ≠ .over 7 (v : Int) := fun q hq e => by
          have f := fm q hq
          rw [e] at f
          generalize hx : OS.over 7 (v : Int) = s2 at f
          cases f with
          | done v2 hv2 ha2 h2 =>
            injection hx with _ hx2
            have : v = v2 := by omega
            subst this; omega
          | _ => cases hx
        by_cases e1 : q = p
        · subst e1
          rw [upd_same] at e
          injection e with _ e
          subst e
          rw [upd_other _ _ _ _ (fun h => hne h.symm)]; exact nov q' hq'
        · rw [upd_other _ _ _ _ e1] at e
          by_cases e2 : q' = p
          · subst e2; rw [upd_same]; intro e3; injection e3 with _ e3; subst e3; exact nov q hq e
          · rw [upd_other _ _ _ _ e2]; exact dis q q' x hq hq' hne e
      · rw [cntR_upd r k p _ hp (by rw [hs]; rfl) rfl, sumL_set L n v hv (by omega) h1]; omega
    · rw [(step_rouse0 n v L h1).1, (step_rouse0 n v L h1).2]
      have h0 : L.getD v 0 = 0 := (bit v hv).resolve_right (fun h => h1 h.1)
      exact ⟨same _ (Fm.on hv hz h0) (by rw [hs]; rfl) (isR_on _ _), Nat.le_trans (rk_on n v) (by simp only [rk]; omega)⟩
  | done v hv ha hz => rw [← hs]; exact ⟨stay _ hs rfl rfl, by rw [hs]; simp [rk, stepS, res]⟩
  | none hz => rw [← hs]; exact ⟨stay _ hs rfl rfl, by rw [hs]; simp [rk, stepS, res]⟩

/-- How often p was the next one, up to i. -/
def hit (k p i : Nat) : Nat := (i + (k - 1 - p)) / k
theorem hit_next (k p i : Nat) (hp : p < k) : hit k p (i + 1) = hit k p i + if i % k = p then 1 else 0 := by
  unfold hit
  have e : i + 1 + (k - 1 - p) = i + (k - 1 - p) + 1 := by omega
  rw [e, Nat.succ_div]
  congr 1
  have hk : 0 < k := by omega
  have key : k ∣ i + (k - 1 - p) + 1 ↔ i % k = p := by
    have e2 : i + (k - 1 - p) + 1 = i + (k - p) := by omega
    rw [e2]
    have hd := Nat.div_add_mod i k
    have hm := Nat.mod_lt i hk
    constructor
    · rintro ⟨c, hc⟩
      have h1 : i % k + (k - p) = k * (c - i / k) := by
        rw [Nat.mul_sub]; omega
      rcases Nat.lt_trichotomy (c - i / k) 1 with h | h | h
      · have : c - i / k = 0 := by omega
        rw [this] at h1; omega
      · rw [h] at h1; omega
      · have : k * 2 ≤ k * (c - i / k) := Nat.mul_le_mul_left k h
        omega
    · intro h
      refine ⟨i / k + 1, ?_⟩
      rw [Nat.mul_add]; omega
  by_cases h : i % k = p
  · rw [if_pos h, if_pos (key.2 h)]
  · rw [if_neg h, if_neg (fun x => h (key.1 x))]
theorem hit_mono (k p i j : Nat) (h : i ≤ j) : hit k p i ≤ hit k p j := Nat.div_le_div_right (by omega)
theorem hit_twenty (k p i : Nat) (hk : 0 < k) : hit k p (i + 20 * k) = hit k p i + 20 := by
  unfold hit
  rw [show i + 20 * k + (k - 1 - p) = i + (k - 1 - p) + 20 * k by omega, Nat.add_mul_div_right _ _ hk]

/-- j Rings are begun. -/
structure Bo (w1 w : World) (rg B k n : Nat) (v : Value) (L : List Int) (t : Int) (ob : Nat → Nat) (r : Nat → OS) : Prop where
  own : w.ownsRow w1.heap.size 38 1 v k ((List.range k).map fun j => .pointer (some ⟨ob j, 0, none⟩))
  lw : Lw w1 w rg (B + 1) B 0 n L t
  op : ∀ p, p < k → Op1 w1 w (ob p) rg (B + 1) B n (r p)
  inj : ∀ p q, p < k → q < k → p ≠ q → ob p ≠ ob q
section
variable {w1 w w3 w4 : World} {rg B k n : Nat} {v7 v4 : Value} {L : List Int} {t : Int} {ob : Nat → Nat} {r : Nat → OS}
theorem Bo.next (h : Bo w1 w rg B k n v7 L t ob r) (hr : ∀ p, p < k → ∀ S, (r p).apart S) (l3 : Lw w1 w3 rg (B + 1) B 0 n L t) (q3 : Op1 w1 w3 w.heap.size rg (B + 1) B n (.look 0)) (o3 : Only Nil w w3) (x : Obj)
    (own4 : w4.ownsRow w1.heap.size 38 1 v4 (k + 1) (((List.range k).map fun j => .pointer (some ⟨ob j, 0, none⟩)) ++ [.pointer (some ⟨w.heap.size, 0, none⟩)])) (g4 : (w3.alloc x).grownBy w4 v7.ownBlock) :
    Bo w1 w4 rg B (k + 1) n v4 L t (upd ob k w.heap.size) (upd r k (.look 0)) := by
  have oa : Only Nil w3 (w3.alloc x) := (Only.refl Nil w3).alloc x
  have o4 := Only.ofGrown g4
  have ow := own_keep (own_keep h.own o3 (fun _ _ h => h)) oa (fun _ _ h => h)
  have la := l3.nil oa
  have qa := q3.nil oa
  have hop : ∀ p, p < k → Op1 w1 (w3.alloc x) (ob p) rg (B + 1) B n (r p) := fun p hp => ((h.op p hp).nil o3).nil oa
  have opn : ∀ {ob : Nat} {s : OS}, Op1 w1 (w3.alloc x) ob rg (B + 1) B n s → ¬ (some ob = v7.ownBlock) := fun {ob s} q => by
    obtain ⟨_, _, _, hc⟩ := q.op.cells
    exact own_ne ow hc.head (by decide)
  refine ⟨?_, ?_, ?_, ?_⟩
  · have e : ((List.range (k + 1)).map fun j => Value.pointer (some ⟨upd ob k w.heap.size j, 0, none⟩)) = ((List.range k).map fun j => Value.pointer (some ⟨ob j, 0, none⟩)) ++ [.pointer (some ⟨w.heap.size, 0, none⟩)] := by
      rw [List.range_succ, List.map_append]
      congr 1
      · apply List.map_congr_left
        intro j hj
        have : j < k := by simpa using hj
        rw [upd_other _ _ _ _ (by omega)]
      · simp [upd]
    rw [e]; exact own4
  · exact la.keep o4 (own_ne ow la.rng.ring.head (by decide)) (own_ne ow la.rng.mem.head (by decide)) (own_ne ow la.rng.mem.row (by decide)) (fun k hk => (ow.lt k hk.symm).1)
  · intro p hp
    by_cases e : p = k
    · subst e; rw [upd_same, upd_same]; exact qa.keep o4 (opn qa) trivial
    · rw [upd_other _ _ _ _ e, upd_other _ _ _ _ e]; exact (hop p (by omega)).keep o4 (opn (hop p (by omega))) (hr p (by omega) _)
  · intro p q hp hq hne
    by_cases e : p = k
    · subst e; rw [upd_same, upd_other _ _ _ _ (fun h => hne h.symm)]
      have := (h.op q (by omega)).op.lt; omega
    · by_cases e2 : q = k
      · subst e2; rw [upd_same, upd_other _ _ _ _ e]
        have := (h.op p (by omega)).op.lt; omega
      · rw [upd_other _ _ _ _ e, upd_other _ _ _ _ e2]; exact h.inj p q (by omega) (by omega) hne
end
/-- What the rounds carry. -/
structure Br (w1 w : World) (rg B gb k n len i : Nat) (A : List Bool) (S0 T : Int) (L : List Int) (t : Int) (ob : Nat → Nat) (r : Nat → OS) : Prop where
  tT : t ≤ T
  lw : Lw w1 w rg (B + 1) B 0 n L t
  bo : BO n k A S0 L r
  op : ∀ p, p < k → Op1 w1 w (ob p) rg (B + 1) B n (r p)
  inj : ∀ p q, p < k → q < k → p ≠ q → ob p ≠ ob q
  gh : ∃ cur, w.heap[gb]? = some (.cells cur 38 (0, 0))
  gc : ∀ p, p < k → w.cell? ⟨gb, p, none⟩ = some (.pointer (some ⟨ob p, 0, none⟩))
  tu : ∀ p, p < k → rk n (r p) ≤ 16 - (hit k p i - hit k p len)
section
variable {w1 w w' : World} {rg B gb k n len i : Nat} {A : List Bool} {S0 T : Int} {L : List Int} {t : Int} {ob : Nat → Nat} {r : Nat → OS}
theorem Bo.all {v7 : Value} (h : Bo w1 w rg B k n v7 L t ob r) (hk : 0 < k) (b : BO n k A S0 L r) (len : Nat) (tT : t ≤ T) :
    ∃ gb cap, v7 = .slice (some ⟨gb, 0, none⟩) k cap ∧ Br w1 w rg B gb k n len 0 A S0 T L t ob r := by
  obtain ⟨gb, cap, cur, rfl, _, gh, gc⟩ := own_block h.own hk
  refine ⟨gb, cap, rfl, ⟨tT, h.lw, b, h.op, h.inj, ⟨cur, gh⟩, gc, fun p hp => ?_⟩⟩
  have := (b.fm p hp).rk_le
  have := h.lw.rng.uc
  have := hit_mono k p 0 len (Nat.zero_le _)
  omega
theorem Br.nil (h : Br w1 w rg B gb k n len i A S0 T L t ob r) (o : Only Nil w w') : Br w1 w' rg B gb k n len i A S0 T L t ob r := by
  obtain ⟨cur, gh⟩ := h.gh
  exact { h with lw := h.lw.nil o, op := fun p hp => (h.op p hp).nil o, gh := ⟨cur, (o.block gb (lt_of_block gh) (fun h => h)).trans gh⟩, gc := fun p hp => (World.cell?_of_block (a := ⟨gb, p, none⟩) (o.block gb (lt_of_block gh) (fun h => h))).trans (h.gc p hp) }
theorem Br.step (h : Br w1 w rg B gb k n len i A S0 T L t ob r) {p : Nat} (hp : p < k) (hpk : i < len ∨ p = i % k) (hT : T < 1000000000000000000) :
    Calls Try.prog 20 #[.pointer (some ⟨ob p, 0, none⟩)] w fun e w' => ∃ x, e = .returned (.bool x) ∧ ∃ L t r, Br w1 w' rg B gb k n len (i + 1) A S0 (T + 1) L t ob r := by
  refine (h.lw.step (h.op p hp) (by have := h.tT; omega)).mono ?_
  rintro e w' ⟨rfl, l, q, o⟩
  obtain ⟨b', hr⟩ := h.bo.step hp
  obtain ⟨cur, gh⟩ := h.gh
  have gn : ¬ OB (B + 1) B (ob p) gb := by
    have a1 := blk_ne gh h.lw.rng.mem.head (by decide)
    have a2 := blk_ne gh h.lw.rng.mem.row (by decide)
    obtain ⟨_, _, _, hc⟩ := (h.op p hp).op.cells
    have a3 := blk_ne gh hc.head (by decide)
    rintro ((e | e) | e) <;> omega
  refine ⟨_, rfl, _, _, _, ⟨?_, l, b', fun q' hq' => ?_, h.inj, ⟨cur, (o.block gb (lt_of_block gh) gn).trans gh⟩, fun q' hq' => (World.cell?_of_block (a := ⟨gb, q', none⟩) (o.block gb (lt_of_block gh) gn)).trans (h.gc q' hq'), fun q' hq' => ?_⟩⟩
  · have := h.tT; unfold stepT; split <;> omega
  · by_cases e : q' = p
    · subst e; rw [upd_same]; exact q
    · rw [upd_other _ _ _ _ e]; exact (h.op q' hq').other o (h.inj q' p hq' hp e) ((h.bo.fm q' hq').apart _)
  · have hn := hit_next k q' i hq'
    have ht := h.tu q' hq'
    by_cases e : q' = p
    · subst e; rw [upd_same]
      rcases hpk with hl | hm
      · have := hit_mono k q' (i + 1) len (by omega); have := h.tu q' hq'
        have := hit_mono k q' i len (by omega); omega
      · rw [if_pos hm.symm] at hn
        by_cases hh : rk n (r q') = 0
        · omega
        · have := hit_mono k q' len (i + 1)
          omega
    · rw [upd_other _ _ _ _ e]
      rcases hpk with hl | hm
      · have := hit_mono k q' (i + 1) len (by omega); have := hit_mono k q' i len (by omega); omega
      · rw [if_neg (fun x => e (x.symm.trans hm.symm))] at hn; omega
end
end Go.Proofs.Ytfhbgabblegecaa.Bl
