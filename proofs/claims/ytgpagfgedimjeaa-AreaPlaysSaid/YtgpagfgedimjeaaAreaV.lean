/- An area and the document's own, side by side: what is asked of both is answered alike. -/
import Derived.Test.YtgpagfgedimjeaaAreaU
import Derived.Test.YtgpagfgedimjeaaAreaFirstW
namespace Go.Proofs.Ytgpagfgedimjeaa
open Go.RowKit

/-- World w holds an area whose regions are L, and the document's own whose cells are those of M; nothing is shared; all lies from B on. -/
structure Both (B : Nat) (w : World) (hb : Nat) (a : Option Addr) (cap n : Nat) (L : List Reg) (qb : Nat) (qa : Option Addr) (qcap : Nat) (M : List Reg) : Prop where
  mine : Mine B w hb a cap n L
  ref : RefAt w qb qa qcap (cellsOf M n)
  sep : ∀ q, Own hb a q → ¬ Own qb qa q
  qB : ∀ q, Own qb qa q → B ≤ q

section
variable {B : Nat} {w w' : World} {hb : Nat} {a : Option Addr} {cap n : Nat} {L : List Reg} {qb : Nat} {qa : Option Addr} {qcap : Nat} {M : List Reg}
theorem Both.keep {S : Nat → Prop} (h : Both B w hb a cap n L qb qa qcap M) (o : Only S w w') (h1 : ∀ k, S k → ¬ Own hb a k) (h2 : ∀ k, S k → ¬ Own qb qa k) : Both B w' hb a cap n L qb qa qcap M :=
  ⟨h.mine.keep o h1, h.ref.keep o h2, h.sep, h.qB⟩
theorem Both.drewN (h : Both B w hb a cap n L qb qa qcap M) (q : Nat) : Both B (w.drewN q) hb a cap n L qb qa qcap M := ⟨h.mine.drewN q, h.ref.drewN q, h.sep, h.qB⟩
theorem Both.none (h : Both B w hb a cap n L qb qa qcap M) (o : Only Nil w w') : Both B w' hb a cap n L qb qa qcap M := h.keep o (fun _ h => h.elim) (fun _ h => h.elim)
theorem Both.alloc (h : Both B w hb a cap n L qb qa qcap M) (o : Obj) : Both B (w.alloc o) hb a cap n L qb qa qcap M := h.none ((Only.refl Nil w).alloc o)
theorem Both.area {a' : Option Addr} {cap' : Nat} {L' : List Reg} (h : Both B w hb a cap n L qb qa qcap M) (h' : AreaAt w' hb a' cap' n L') (s : SameOrNew w a a') (o : Only (Own hb a) w w') : Both B w' hb a' cap' n L' qb qa qcap M := by
  refine ⟨h.mine.next h' s, h.ref.keep o h.sep, fun q hq hq2 => ?_, h.qB⟩
  rcases hq with rfl | ⟨x, e, rfl⟩
  · exact h.sep _ (Own.l _ _) hq2
  · rcases s x e with ⟨y, e1, e2⟩ | hge
    · exact h.sep x.block (.inr ⟨y, e1, e2⟩) hq2
    · have := h.ref.own_lt _ hq2
      omega
theorem Both.refer {M' : List Reg} (h : Both B w hb a cap n L qb qa qcap M) (h' : RefAt w' qb qa qcap (cellsOf M' n)) (o : Only (Own qb qa) w w') : Both B w' hb a cap n L qb qa qcap M' :=
  ⟨h.mine.keep o (fun q h1 h2 => h.sep q h2 h1), h', h.sep, h.qB⟩
theorem Both.underA (h : Both B w hb a cap n L qb qa qcap M) (o : Only (Own hb a) w w') : Below B w w' := h.mine.under o
theorem Both.underR (h : Both B w hb a cap n L qb qa qcap M) (o : Only (Own qb qa) w w') : Below B w w' := o.below h.mine.size h.qB
end

/-- What Give answers, by the area and by the document. -/
theorem joint_give {n : Nat} {L : List Reg} (ok : Ok n L) (nle : n ≤ 65536) (hb qb : Nat) (qa : Option Addr) (qcap B : Nat) (K : Int) :
    ∃ (E : Int) (L' : List Reg), Ok n L' ∧
      (∀ w a cap M, Both B w hb a cap n L qb qa qcap M → Calls Try.prog 11 #[.pointer (some ⟨hb, 0, none⟩), .int .i64 K] w fun e w' =>
        e = .returned (.int .i64 E) ∧ Hid (∃ a' cap', Both B w' hb a' cap' n L' qb qa qcap M) ∧ Hid (Only (Own hb a) w w')) ∧
      (∀ w a cap N, Both B w hb a cap n N qb qa qcap L → Calls Try.prog 12 #[.pointer (some ⟨qb, 0, none⟩), .int .i64 K] w fun e w' =>
        e = .returned (.int .i64 E) ∧ Hid (Both B w' hb a cap n N qb qa qcap L') ∧ Hid (Only (Own qb qa) w w')) := by
  rcases has_base L K with ⟨i, hi, rfl⟩ | hno
  · refine ⟨0, del L i, ok.del i hi, fun w a cap M h => ?_, fun w a cap N h => ?_⟩
    · refine (give_yes h.mine.at_ i hi).mono ?_
      rintro e w' ⟨rfl, h', o⟩
      exact ⟨rfl, Lib.hid ⟨a, cap, h.area h' (fun x e => .inl ⟨x, e, rfl⟩) o⟩, Lib.hid o⟩
    · have hr := ok.reg_le i hi
      have hp := ok.pos i hi
      refine (rgive_yes h.ref (by rw [length_cellsOf]; exact nle) (regAt L i).1 (regAt L i).2 hp (by rw [length_cellsOf]; exact hr) (fun j hj => ?_) (fun hlt => ?_)).mono ?_
      · rw [getD_cellsOf _ _ _ (by omega)]
        exact ok.own_in i _ hi ⟨by omega, by omega⟩
      · rw [length_cellsOf] at hlt
        rw [getD_cellsOf _ _ _ hlt]
        exact ok.own_past i hi
      · rintro e w' ⟨rfl, h', o⟩
        rw [cells_del ok i hi] at h'
        exact ⟨rfl, Lib.hid (h.refer h' o), Lib.hid o⟩
  · refine ⟨2, L, ok, fun w a cap M h => ?_, fun w a cap N h => ?_⟩
    · refine (give_no h.mine.at_ K hno).mono ?_
      rintro e w' ⟨rfl, o⟩
      exact ⟨rfl, Lib.hid ⟨a, cap, h.none o⟩, Lib.hid (o.nilTo _)⟩
    · refine (rgive_no h.ref K (fun c hc e => ?_)).mono ?_
      · rw [length_cellsOf] at hc
        rw [getD_cellsOf _ _ _ hc, ← e]
        intro h1
        obtain ⟨t, h2, h3⟩ := (ok.own_self c).1 h1
        exact hno t h2 (by omega)
      · rintro e w' ⟨rfl, rfl⟩
        exact ⟨rfl, Lib.hid h, Lib.hid (Only.refl _ _)⟩

/-- What Take answers, by the area and by the document. -/
theorem joint_take {n : Nat} {L : List Reg} (ok : Ok n L) (nle : n ≤ 65536) (hb qb : Nat) (qa : Option Addr) (qcap B : Nat) (K : Int) :
    ∃ (x E : Int) (L' : List Reg), Ok n L' ∧
      (∀ w a cap M, Both B w hb a cap n L qb qa qcap M → Calls Try.prog 13 #[.pointer (some ⟨hb, 0, none⟩), .int .i64 K] w fun e w' =>
        e = .returned (.tuple #[.int .i64 x, .int .i64 E]) ∧ Hid (∃ a' cap', Both B w' hb a' cap' n L' qb qa qcap M) ∧ Hid (Only (Own hb a) w w')) ∧
      (∀ w a cap N, Both B w hb a cap n N qb qa qcap L → Calls Try.prog 14 #[.pointer (some ⟨qb, 0, none⟩), .int .i64 K] w fun e w' =>
        e = .returned (.tuple #[.int .i64 x, .int .i64 E]) ∧ Hid (Both B w' hb a cap n N qb qa qcap L') ∧ Hid (Only (Own qb qa) w w')) := by
  by_cases hk : K < 1
  · refine ⟨0, 1, L, ok, fun w a cap M h => ?_, fun w a cap N h => ?_⟩
    · refine (take_arg h.mine.at_ K hk).mono ?_
      rintro e w' ⟨rfl, rfl⟩
      exact ⟨rfl, Lib.hid ⟨a, cap, h⟩, Lib.hid (Only.refl _ _)⟩
    · refine (rtake_arg h.ref K hk).mono ?_
      rintro e w' ⟨rfl, rfl⟩
      exact ⟨rfl, Lib.hid h, Lib.hid (Only.refl _ _)⟩
  rcases first_fit L n K with ⟨i, hi, hf, hno⟩ | hno
  · obtain ⟨k, rfl⟩ : ∃ k : Nat, K = (k : Int) := ⟨K.toNat, by omega⟩
    have hk1 : 1 ≤ k := by omega
    refine ⟨(endAt L i : Int), 0, ins L i (endAt L i, k), ok.ins i k hi hk1 hf, fun w a cap M h => ?_, fun w a cap N h => ?_⟩
    · refine (take_yes h.mine.at_ k hk1 i hi hf hno).mono ?_
      rintro e w' ⟨a', cap', rfl, h', o, s⟩
      exact ⟨rfl, Lib.hid ⟨a', cap', h.area h' s o⟩, Lib.hid o⟩
    · refine (rtake_yes h.ref (by rw [length_cellsOf]; exact nle) k hk1 (endAt L i) (room_at ok k i hi hf) (fun c hc => no_room ok k c (by omega) (cover k i hi hno c hc))).mono ?_
      rintro e w' ⟨rfl, h', o⟩
      rw [cells_ins ok i k hi hk1 hf] at h'
      exact ⟨rfl, Lib.hid (h.refer h' o), Lib.hid o⟩
  · refine ⟨0, 4, L, ok, fun w a cap M h => ?_, fun w a cap N h => ?_⟩
    · refine (take_full h.mine.at_ K (by omega) hno).mono ?_
      rintro e w' ⟨rfl, o⟩
      exact ⟨rfl, Lib.hid ⟨a, cap, h.none o⟩, Lib.hid (o.nilTo _)⟩
    · refine (rtake_no h.ref (by rw [length_cellsOf]; exact nle) K (by omega) (fun c hc hr => ?_)).mono ?_
      · rw [length_cellsOf] at hc
        have hr1 := hr.1
        rw [length_cellsOf] at hr1
        have hf := hno L.length (Nat.le_refl _)
        unfold Fits at hf
        rw [bnd_end] at hf
        exact no_room ok K c (by omega) (cover K L.length (Nat.le_refl _) (fun j hj => hno j (by omega)) c (by omega)) hr
      · rintro e w' ⟨rfl, rfl⟩
        exact ⟨rfl, Lib.hid h, Lib.hid (Only.refl _ _)⟩

theorem joint_free {B : Nat} {w : World} {hb : Nat} {a : Option Addr} {cap n : Nat} {L : List Reg} {qb : Nat} {qa : Option Addr} {qcap : Nat} (h : Both B w hb a cap n L qb qa qcap L) :
    Calls Try.prog 16 #[.pointer (some ⟨qb, 0, none⟩)] w fun e w' => e = .returned (.int .i64 ((n : Int) - (total L : Int))) ∧ w = w' := by
  have := rfree_any h.ref (by rw [length_cellsOf]; exact h.mine.at_.nle)
  rw [h.mine.at_.ok.negs_all] at this
  exact this
end Go.Proofs.Ytgpagfgedimjeaa
