/- A ring as a machine of steps: what has gone in, what was taken, how many are in. (Of no program.) -/
import Derived.Test.YtpnpbgcndlfobaaRingA
namespace Go.Proofs.Ytpnpbgcndlfobaa

/-- What p has put among the first n tickets. -/
def insN (n : Nat) (wr : Nat → Bool) (vo : Nat → Int) (pid : Int → Nat) (p : Nat) : List Int := (((List.range n).filter wr).map vo).filter fun x => decide (pid x = p)
theorem insN_succ (n : Nat) (wr : Nat → Bool) (vo : Nat → Int) (pid : Int → Nat) (p : Nat) :
    insN (n + 1) wr vo pid p = insN n wr vo pid p ++ if wr n = true ∧ pid (vo n) = p then [vo n] else [] := by
  simp only [insN, List.range_succ, List.filter_append, List.map_append]
  congr 1
  cases h : wr n <;> by_cases g : pid (vo n) = p <;> simp [h, g]
theorem insN_congr {wr wr' : Nat → Bool} {vo vo' : Nat → Int} {pid : Int → Nat} {p : Nat} : ∀ n : Nat, (∀ t, t < n → wr t = wr' t ∧ (wr t = true → vo t = vo' t)) → insN n wr vo pid p = insN n wr' vo' pid p
  | 0, _ => rfl
  | n + 1, h => by
    rw [insN_succ, insN_succ, insN_congr n (fun t ht => h t (by omega))]
    obtain ⟨h1, h2⟩ := h n (Nat.lt_succ_self n)
    congr 1
    rw [← h1]
    cases g : wr n with
    | false => simp
    | true => rw [← h2 g]
/-- One ticket more is written: it is its owner's last. -/
theorem insN_write {wr : Nat → Bool} {vo : Nat → Int} {pid : Int → Nat} {p t : Nat} (hw : wr t = false) (hp : pid (vo t) = p) : ∀ n : Nat, t < n → (∀ u, t < u → u < n → pid (vo u) ≠ p) →
    (insN n (upd wr t true) vo pid p = insN n wr vo pid p ++ [vo t]) ∧ ∀ q, q ≠ p → insN n (upd wr t true) vo pid q = insN n wr vo pid q
  | 0, h, _ => by omega
  | n + 1, h, hl => by
    by_cases e : t = n
    · subst e
      have hc : ∀ q, insN t (upd wr t true) vo pid q = insN t wr vo pid q := fun q => insN_congr t (fun u hu => ⟨upd_other _ _ _ _ (by omega), fun _ => rfl⟩)
      refine ⟨?_, fun q hq => ?_⟩
      · rw [insN_succ, insN_succ, hc, upd_same, hw]; simp [hp]
      · rw [insN_succ, insN_succ, hc, upd_same, hw, hp]; simp [Ne.symm hq]
    · obtain ⟨h1, h2⟩ := insN_write hw hp n (by omega) (fun u h3 h4 => hl u h3 (by omega))
      have hn := hl n (by omega) (Nat.lt_succ_self n)
      have hu : upd wr t true n = wr n := upd_other _ _ _ _ (by omega)
      refine ⟨?_, fun q hq => ?_⟩
      · rw [insN_succ, insN_succ, h1, hu]; simp [hn]
      · rw [insN_succ, insN_succ, h2 q hq, hu]

def wcN (n : Nat) (wr : Nat → Bool) : Nat := ((List.range n).filter wr).length
theorem wcN_succ (n : Nat) (wr : Nat → Bool) : wcN (n + 1) wr = wcN n wr + if wr n = true then 1 else 0 := by
  simp only [wcN, List.range_succ, List.filter_append, List.length_append]
  cases h : wr n <;> simp [h]
theorem wcN_congr {wr wr' : Nat → Bool} : ∀ n : Nat, (∀ t, t < n → wr t = wr' t) → wcN n wr = wcN n wr'
  | 0, _ => rfl
  | n + 1, h => by rw [wcN_succ, wcN_succ, wcN_congr n (fun t ht => h t (by omega)), h n (Nat.lt_succ_self n)]
theorem wcN_write {wr : Nat → Bool} {t : Nat} (hw : wr t = false) : ∀ n : Nat, t < n → wcN n (upd wr t true) = wcN n wr + 1
  | 0, h => by omega
  | n + 1, h => by
    by_cases e : t = n
    · subst e
      rw [wcN_succ, wcN_succ, wcN_congr t (fun u hu => upd_other _ _ _ _ (by omega)), upd_same, hw]; simp
    · rw [wcN_succ, wcN_succ, wcN_write hw n (by omega), upd_other _ _ _ _ (by omega)]; omega
theorem wcN_le (n : Nat) (wr : Nat → Bool) : wcN n wr ≤ n := by
  have := List.length_filter_le wr (List.range n)
  simpa [wcN] using this
theorem wcN_all {wr : Nat → Bool} : ∀ n : Nat, (∀ t, t < n → wr t = true) → wcN n wr = n
  | 0, _ => rfl
  | n + 1, h => by rw [wcN_succ, wcN_all n (fun t ht => h t (by omega)), h n (Nat.lt_succ_self n)]; simp

/-- The whole, seen from without: ins: what each has put that is in; taken: what was taken; cnt: how many are in. -/
def SysO (c : Nat) (R : Rg) (P : Nat → Option (PS × Int)) (T : Option TS) (ins : Nat → List Int) (taken : List Int) (cnt : Nat) (pid : Int → Nat) (Q : Int → Prop) : Prop :=
  ∃ f wr vo, Sys c R P T f wr vo pid Q ∧ (∀ q, insN R.tail wr vo pid q = ins q) ∧ (List.range R.head).map vo = taken ∧ wcN R.tail wr = f + cnt

section
variable {c : Nat} {R : Rg} {P : Nat → Option (PS × Int)} {T : Option TS} {ins : Nat → List Int} {taken : List Int} {cnt : Nat} {pid : Int → Nat} {Q : Int → Prop} {p : Nat} {v : Int}

/-- A fresh ring. -/
theorem SysO.start (hc : 0 < c) : SysO c ⟨0, 0, fun _ => 0, fun _ => 0⟩ (fun _ => none) none (fun _ => []) [] 0 pid Q := by
  refine ⟨0, fun _ => false, fun _ => 0, ⟨⟨hc, Nat.le_refl _, by show 0 ≤ 0 + c; omega, fun t h1 h2 => ?_, fun t h => by simp at h, fun t h => by omega, fun t _ h => by simp at h⟩,
    fun q s v h => by simp at h, fun q q' s s' v v' t h => by simp at h, fun t h1 h2 => by have : t < 0 := h2; omega, fun t h => by have : t < 0 := h; omega, fun q s v t h => by simp at h, rfl⟩, fun q => rfl, rfl, rfl⟩
  rw [Nat.div_eq_of_lt (by omega : t < c)]
  rfl

theorem SysO.begin (h : SysO c R P T ins taken cnt pid Q) (hp : P p = none) (hv : pid v = p) (hq : Q v) : SysO c R (upd P p (some (.p0, v))) T ins taken cnt pid Q := by
  obtain ⟨f, wr, vo, S, h1, h2, h3⟩ := h
  exact ⟨f, wr, vo, S.begin hp hv hq, h1, h2, h3⟩

/-- A step of a Put. -/
theorem SysO.put (h : SysO c R P T ins taken cnt pid Q) {s : PS} (hp : P p = some (s, v)) :
    match putStep c R v s with
    | (R', .on s') => SysO c R' (upd P p (some (s', v))) T ins taken cnt pid Q
    | (R', .full) => SysO c R' (upd P p none) T ins taken cnt pid Q
    | (R', .done _) => SysO c R' (upd P p none) T (upd ins p (ins p ++ [v])) taken (cnt + 1) pid Q := by
  obtain ⟨f, wr, vo, S, h1, h2, h3⟩ := h
  cases s with
  | p0 => exact ⟨f, wr, vo, S.p0 hp, h1, h2, h3⟩
  | p1 t =>
    simp only [putStep]
    by_cases g1 : 2 * (t / c) < R.turn (t % c)
    · rw [if_pos g1]; exact ⟨f, wr, vo, S.back hp (fun _ h => h), h1, h2, h3⟩
    · rw [if_neg g1]
      by_cases g2 : R.turn (t % c) < 2 * (t / c)
      · rw [if_pos g2]; exact ⟨f, wr, vo, S.over hp (fun _ h => h), h1, h2, h3⟩
      · rw [if_neg g2]; exact ⟨f, wr, vo, S.p1 hp (by omega), h1, h2, h3⟩
  | p2 t =>
    simp only [putStep]
    by_cases g : R.tail = t
    · subst g
      rw [if_pos rfl]
      have hwt : wr R.tail = false := by
        cases h : wr R.tail with
        | false => rfl
        | true => have := S.ring.wrlt _ h; omega
      have hcg : ∀ u, u < R.tail → upd vo R.tail v u = vo u := fun u hu => upd_other _ _ _ _ (by omega)
      refine ⟨f, wr, upd vo R.tail v, S.p2 hp, fun q => ?_, ?_, ?_⟩
      · show insN (R.tail + 1) wr (upd vo R.tail v) pid q = ins q
        rw [insN_succ, hwt, ← h1 q]
        simp
        exact insN_congr _ (fun u hu => ⟨rfl, fun _ => hcg u hu⟩)
      · show (List.range R.head).map (upd vo R.tail v) = taken
        rw [← h2]
        apply List.map_congr_left
        intro u hu
        simp at hu
        have hf : R.head ≤ f := by
          have := S.take
          cases T with
          | none => have h : f = R.head := this; omega
          | some s => cases s <;> (have h := this; simp only [TInv] at h; omega)
        have := S.ring.le
        exact hcg u (by omega)
      · show wcN (R.tail + 1) wr = f + cnt
        rw [wcN_succ, hwt, h3]; simp
    · rw [if_neg g]; exact ⟨f, wr, vo, S.back hp (fun _ h => h), h1, h2, h3⟩
  | p3 t => exact ⟨f, wr, vo, S.p3 hp, h1, h2, h3⟩
  | p4 t =>
    obtain ⟨ht1, ht2, ht3, ht4, _⟩ : f ≤ t ∧ t < R.tail ∧ wr t = false ∧ vo t = v ∧ R.val (t % c) = v := (S.put p _ v hp).1
    have hpv : pid (vo t) = p := by rw [ht4]; exact (S.put p _ v hp).2.1
    obtain ⟨g1, g2⟩ := insN_write ht3 hpv R.tail ht2 (fun u hu1 hu2 => S.last p _ v t hp rfl u hu1 hu2)
    refine ⟨f, upd wr t true, vo, S.p4 hp, fun q => ?_, h2, ?_⟩
    · show insN R.tail (upd wr t true) vo pid q = _
      by_cases e : q = p
      · rw [e, upd_same, g1, h1, ht4]
      · rw [upd_other _ _ _ _ e, g2 q e, h1]
    · show wcN R.tail (upd wr t true) = _
      rw [wcN_write ht3 R.tail ht2, h3]; omega

/-- Never are more in than there are slots. -/
theorem SysO.bound (h : SysO c R P T ins taken cnt pid Q) : cnt ≤ c := by
  obtain ⟨f, wr, vo, S, _, _, h3⟩ := h
  have := wcN_le R.tail wr
  have := S.ring.cap
  omega

/-- A Take that is begun. -/
theorem SysO.beginT (h : SysO c R P none ins taken cnt pid Q) : SysO c R P (some .t0) ins taken cnt pid Q := by
  obtain ⟨f, wr, vo, S, h1, h2, h3⟩ := h
  exact ⟨f, wr, vo, S.takes _ S.take, h1, h2, h3⟩

/-- A step of a Take. -/
theorem SysO.takeS {s : TS} (h : SysO c R P (some s) ins taken cnt pid Q) :
    match takeStep c R s with
    | (R', .on s') => SysO c R' P (some s') ins taken (match s with | .t3 _ _ => cnt - 1 | _ => cnt) pid Q ∧ (match s with | .t3 _ _ => 1 ≤ cnt | _ => True)
    | (R', .none) => SysO c R' P none ins taken cnt pid Q ∧ ((∀ q, P q = none) → cnt = 0 ∧ R.tail = R.head ∧ ∀ q, ins q = taken.filter fun x => decide (pid x = q))
    | (R', .done x) => SysO c R' P none ins (taken ++ [x]) cnt pid Q := by
  obtain ⟨f, wr, vo, S, h1, h2, h3⟩ := h
  cases s with
  | t0 => exact ⟨⟨f, wr, vo, S.takes _ ⟨S.take, rfl⟩, h1, h2, h3⟩, trivial⟩
  | t1 h =>
    obtain ⟨hf, rfl⟩ : f = R.head ∧ h = R.head := S.take
    have ht := S.t1
    simp only [takeStep]
    by_cases g : R.turn (R.head % c) = 2 * (R.head / c) + 1
    · rw [if_pos g]; exact ⟨⟨f, wr, vo, S.takes _ ⟨hf, rfl, ht.1 g⟩, h1, h2, h3⟩, trivial⟩
    · rw [if_neg g]
      refine ⟨⟨f, wr, vo, S.takes _ hf, h1, h2, h3⟩, fun hP => ?_⟩
      have hall : ∀ t, f ≤ t → t < R.tail → wr t = true := fun t a b => by
        cases hw : wr t with
        | true => rfl
        | false => obtain ⟨q, s, v, e, _⟩ := S.pend t a b hw; rw [hP q] at e; simp at e
      have hle := S.ring.le
      have htl : R.tail = R.head := by
        rcases Nat.lt_or_ge R.head R.tail with hlt | hge
        · exact absurd (ht.2 (hall R.head (by omega) hlt)) g
        · omega
      have hw : ∀ t, t < R.tail → wr t = true := fun t a => S.ring.old t (by omega)
      have hwc := wcN_all R.tail hw
      refine ⟨by omega, htl, fun q => ?_⟩
      rw [← h1 q, ← h2]
      unfold insN
      rw [htl]
      congr 2
      rw [List.filter_eq_self]
      intro t hm
      simp at hm
      exact hw t (by omega)
  | t2 h =>
    obtain ⟨hf, rfl, hw⟩ : f = R.head ∧ h = R.head ∧ wr h = true := S.take
    exact ⟨⟨f, wr, vo, S.takes _ ⟨hf, rfl, hw, S.t2⟩, h1, h2, h3⟩, trivial⟩
  | t3 h x =>
    obtain ⟨hf, rfl, hw, hx⟩ : f = R.head ∧ h = R.head ∧ wr h = true ∧ x = vo h := S.take
    have hpos : f + 1 ≤ wcN R.tail wr := by
      have h4 : ∀ t, t < f + 1 → wr t = true := fun t a => by
        by_cases e : t = f
        · rw [e, hf]; exact hw
        · exact S.ring.old t (by omega)
      have h5 := wcN_all (f + 1) h4
      have h6 : ∀ n m, n ≤ m → wcN n wr ≤ wcN m wr := fun n m hnm => by
        induction m with
        | zero => rw [Nat.le_zero.1 hnm]; exact Nat.le_refl _
        | succ m ih =>
          by_cases e : n = m + 1
          · rw [e]; exact Nat.le_refl _
          · have := ih (by omega)
            rw [wcN_succ]; omega
      have h7 := h6 (f + 1) R.tail (by have := S.ring.wrlt _ hw; omega)
      omega
    refine ⟨⟨f + 1, wr, vo, S.t3, h1, h2, ?_⟩, ?_⟩
    · show wcN R.tail wr = f + 1 + (cnt - 1)
      omega
    · show 1 ≤ cnt
      omega
  | t4 h x =>
    obtain ⟨_, rfl, _⟩ : f = R.head + 1 ∧ h = R.head ∧ x = vo h := S.take
    obtain ⟨S', hx⟩ := S.t4
    refine ⟨f, wr, vo, S', h1, ?_, h3⟩
    show (List.range (R.head + 1)).map vo = taken ++ [x]
    rw [List.range_succ, List.map_append, h2, hx]; rfl
/-- What is taken was put by one of those who put. -/
theorem SysO.good (h : SysO c R P T ins taken cnt pid Q) : ∀ x ∈ taken, Q x := by
  obtain ⟨f, wr, vo, S, _, h2, _⟩ := h
  intro x hx
  rw [← h2] at hx
  simp only [List.mem_map, List.mem_range] at hx
  obtain ⟨t, ht, rfl⟩ := hx
  have hf : R.head ≤ f := by
    have := S.take
    cases T with
    | none => have h : f = R.head := this; omega
    | some s => cases s <;> (have h := this; simp only [TInv] at h; omega)
  have := S.ring.le
  exact S.good t (by omega)
end
end Go.Proofs.Ytpnpbgcndlfobaa
