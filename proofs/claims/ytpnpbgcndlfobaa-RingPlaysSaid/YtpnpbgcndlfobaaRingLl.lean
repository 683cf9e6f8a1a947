/- The document's Step, whatever the operation: where it stands behind it, what the cells hold. -/
import Derived.Test.YtpnpbgcndlfobaaRingLk
namespace Go.Proofs.Ytpnpbgcndlfobaa

/-- An operation of the document, as a value: its kind, its v, its log. -/
def OpR (w : World) (x : Value) (kind : Nat) (v : Int) (log : List Int) (g : Option Nat) : Prop :=
  ∃ a cap, x = .agg #[.int .i64 (kind : Int), .int .u64 v, .slice a log.length cap] ∧ LogIn w a log ∧ (log = [] → a = none ∧ cap = 0) ∧ a = g.map (fun g => ⟨g, 0, none⟩)
theorem OpR.keep {S : Nat → Prop} {w w' : World} {x : Value} {kind : Nat} {v : Int} {log : List Int} {g : Option Nat} (h : OpR w x kind v log g) (o : Only S w w') (hS : ∀ k, g = some k → ¬ S k) : OpR w' x kind v log g := by
  obtain ⟨a, cap, rfl, h2, h3, rfl⟩ := h
  refine ⟨_, cap, rfl, h2.keep o (fun k b e s => ?_), h3, rfl⟩
  cases g with
  | none => cases e
  | some q =>
    cases e
    intro h
    simp only at h
    subst h
    exact hS _ rfl s
theorem OS.isO_over (s : OS) : s.isO = true ↔ s.isOver := by cases s <;> simp [OS.isO, OS.isOver]
theorem rstep_any (w : World) (hb rb : Nat) (L : List Int) (t : Int) (b c kind : Nat) (v : Int) (x : Value) (log : List Int) (hr : RefAt w hb rb L t) (hL : b + 2 + 2 * c ≤ L.length) (t0 : 0 ≤ t) (t1 : t < 4611686018427387904) (hk : 1 ≤ kind ∧ kind ≤ 5) (hc : 0 < c) (hc2 : c ≤ 64) (hb1 : b ≤ 1000) (g : Option Nat) (hx : OpR w x kind v log g) (hf : Fits c (begin kind v) log) (hlen : log.length ≤ 1000000)
    (hn : Nums b L) (hu : U64s L) :
    Calls Try.prog 19 #[.pointer (some ⟨hb, 0, none⟩), .agg #[.int .i64 (b : Int), .int .i64 (c : Int)], x] w fun e w' => ∃ x' log' g', e = .returned x' ∧ OpR w' x' kind v log' g' ∧ (g' = g ∨ ∃ q, g' = some q ∧ w.heap.size ≤ q) ∧ Fits c (begin kind v) log' ∧ log'.length ≤ log.length + 1 ∧
      runL c (begin kind v) log' = stepS b c L (runL c (begin kind v) log) ∧ RefAt w' hb rb (stepL b c L (runL c (begin kind v) log)) (stepT (runL c (begin kind v) log) t) ∧ Only (Blk hb rb) w w' := by
  obtain ⟨a, cap, rfl, hl, hz, hg⟩ := hx
  by_cases ho : (runL c (begin kind v) log).isOver
  · refine (rstep_over w (.pointer (some ⟨hb, 0, none⟩)) b c kind v a cap log hk hc hc2 hb1 hl hf hlen ho).mono ?_
    rintro e w' ⟨rfl, o⟩
    refine ⟨_, log, g, rfl, ⟨a, cap, rfl, hl.keep o (fun _ _ _ h => h.elim), hz, hg⟩, .inl rfl, hf, by omega, ?_, ?_, o.nilTo _⟩
    · generalize runL c (begin kind v) log = s at ho ⊢
      cases s <;> first | exact ho.elim | rfl
    · have r := hr.keep o (fun h => h) (fun h => h)
      generalize runL c (begin kind v) log = s at ho ⊢
      cases s <;> first | exact ho.elim | exact r
  · have hi := acc_inn b c _ hc L.length hL ho
    have hfit := fit_acc (b := b) (c := c) (runL c (begin kind v) log) hn hu
    have ht : stepT (runL c (begin kind v) log) t = t + 1 := if_neg (fun h => ho ((OS.isO_over _).1 h))
    rw [ht]
    by_cases h0 : log = []
    · obtain ⟨rfl, rfl⟩ := hz h0
      refine (rstep_first w hb rb L t b c kind v none 0 log hr hi t0 t1 hk hc hc2 hb1 hl hf hlen ho ⟨rfl, rfl, h0⟩).mono ?_
      rintro e w' ⟨a', cap', rfl, h1, h2, h3, q, rfl, h4⟩
      exact ⟨_, log ++ [(doAcc L (acc b c (runL c (begin kind v) log))).2], some q, rfl, ⟨_, cap', by simp, h1, fun h => by simp at h, rfl⟩, .inr ⟨q, rfl, h4⟩, fits_snoc hf hfit, by simp, runL_snoc _ _ _ _, h2, h3⟩
    · refine (rstep_more w hb rb L t b c kind v a cap log hr hi t0 t1 hk hc hc2 hb1 hl hf hlen ho (List.length_pos_iff.2 h0)).mono ?_
      rintro e w' ⟨a', cap', rfl, h1, h2, h3, q, rfl, h4⟩
      exact ⟨_, log ++ [(doAcc L (acc b c (runL c (begin kind v) log))).2], some q, rfl, ⟨_, cap', by simp, h1, fun h => by simp at h, rfl⟩, .inr ⟨q, rfl, h4⟩, fits_snoc hf hfit, by simp, runL_snoc _ _ _ _, h2, h3⟩
end Go.Proofs.Ytpnpbgcndlfobaa
