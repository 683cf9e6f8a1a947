/- slices.Insert at regions: at the end; in the midst, with room and without. -/
import Derived.Test.YtgpagfgedimjeaaAreaE
import Derived.Lib.Overlaps
import Derived.Lib.AppendZerosOnto
import Derived.Laws.Externs
import Derived.Laws.NewBlocks
namespace Go.Proofs.Ytgpagfgedimjeaa
open Go.RowKit

/-- Only the row of a has turned. -/
def RowOf (a : Option Addr) (q : Nat) : Prop := ∃ x, a = some x ∧ q = x.block
/-- The row at a' is a's own, or a new one. -/
def SameOrNew (w : World) (a a' : Option Addr) : Prop := ∀ x, a' = some x → (∃ y, a = some y ∧ x.block = y.block) ∨ w.heap.size ≤ x.block

theorem regs_one' (b k : Nat) : regs [(b, k)] = [Value.int .i64 (b : Int), Value.int .i64 (k : Int)] := rfl
theorem src_pair {w : World} {vb : Nat} {b k : Int} (hv : w.heap[vb]? = some (.cells #[.int .i64 b, .int .i64 k] 47 (0, 0))) :
    ∀ j u, [Value.int .i64 b, Value.int .i64 k][j]? = some u → w.cell? ((⟨vb, 0, none⟩ : Addr).add j) = some u := by
  intro j u hj
  rw [add_lit0]
  match j, hj with
  | 0, hj => simp at hj; subst hj; simp [World.cell?, hv]
  | 1, hj => simp at hj; subst hj; simp [World.cell?, hv]
  | j + 2, hj => simp at hj

/-- append, where there is no room: a new row. -/
theorem run_append_new {P : Program} (w : World) (t ty e : TypeId) (i : TypeInfo) (z : Value) (size bytes : Nat) (ht : P.underlying t = some (.slice e)) (hi : P.info? e = some i) (hz : i.zero = some z)
    (hsize : i.size = size) (hby : i.bytes = bytes) (hzs : z.cells.size = size) (a : Option Addr) (n : Nat) (xs : List Value) (hown : w.ownsRow 0 e size (.slice a n n) n xs)
    (ad : Addr) (m c : Nat) (hm : 0 < m) (news : List Value) (hl : news.length = m * size) (hnews : ∀ j u, news[j]? = some u → w.cell? (ad.add j) = some u)
    (h63 : n + m ≤ maxLen) (hbytes : (n + m) * bytes ≤ 140737488355328) :
    ∃ c' w', (Builtin.append_ #[t, t] ty #[.slice a n n, .slice (some ad) m c]).run P w = .ok (.slice (some ⟨w.heap.size, 0, none⟩) (n + m) c') w' ∧
      w'.ownsRow 0 e size (.slice (some ⟨w.heap.size, 0, none⟩) (n + m) c') (n + m) (xs ++ news) ∧ Only Nil w w' := by
  subst hsize
  subst hby
  have hlen : (xs ++ news).length = (n + m) * i.size := by rw [List.length_append, hown.1, hl, Nat.add_mul]
  have h63' : n + m ≤ 9223372036854775807 := by simp only [maxLen] at h63; omega
  have grown : (w.drew.alloc (.cells (xs.toArray ++ news.toArray ++ Builtin.zeroCells z.cells (grownCap w (n + m) n e - (n + m))) e)).ownsRow 0 e i.size
        (.slice (some ⟨w.heap.size, 0, none⟩) (n + m) (grownCap w (n + m) n e)) (n + m) (xs ++ news) ∧
      Only Nil w (w.drew.alloc (.cells (xs.toArray ++ news.toArray ++ Builtin.zeroCells z.cells (grownCap w (n + m) n e - (n + m))) e)) := by
    have hge := grownCap_ge w (n + m) n e
    have hcm : grownCap w (n + m) n e ≤ maxLen := grownCap_le_maxLen w (n + m) n e h63
    refine ⟨⟨hlen, .inr ⟨w.heap.size, _, _, rfl, Nat.zero_le _, heap_alloc_new w.drew _, hge, hcm, ?_, ?_⟩⟩, (Only.refl Nil w).drew.alloc _⟩
    · simp only [Array.size_append, List.size_toArray, size_zeroCells, hzs, hown.1, hl, ← Nat.add_mul]
      congr 1
      omega
    · simp only [Array.toList_append, List.append_assoc]
      rw [← List.append_assoc, ← hlen]
      exact List.take_left
  rcases hown.2 with ⟨e1, e2⟩ | ⟨g, cap, cur, e1, hbg, hg, hnc, hcm, hcs, htake⟩
  · simp only [Value.slice.injEq] at e1
    obtain ⟨rfl, rfl, _⟩ := e1
    have hx : xs = [] := List.eq_nil_of_length_eq_zero (by simpa using hown.1)
    subst hx
    have hr := run_append_nil (P := P) w t ty e i z ht hi hz ad m c news hl hnews (by omega) (by omega) (by have hb := hbytes; simp only [Nat.zero_add] at hb; omega)
    simp only [Nat.zero_add, List.nil_append, Array.empty_append] at grown ⊢
    exact ⟨_, _, hr, grown.1, grown.2⟩
  · simp only [Value.slice.injEq] at e1
    obtain ⟨rfl, _, rfl⟩ := e1
    have holds : ∀ j u, xs[j]? = some u → w.cell? ((⟨g, 0, none⟩ : Addr).add j) = some u := hown.cells (g := g) rfl
    have hr := run_append_grow (P := P) w t ty e i z ht hi hz ⟨g, 0, none⟩ n n xs hown.1 holds ad m c news hl hnews (by omega) (by omega) (growslice_fits (by omega) hbytes)
    exact ⟨_, _, hr, grown.1, grown.2⟩

/-- A region more at the end, with room or without. -/
theorem append_end {w : World} {a : Option Addr} {cap : Nat} {L : List Reg} (hown : w.ownsRow 0 47 2 (.slice a L.length cap) L.length (regs L)) (vb b k : Nat)
    (hv : w.heap[vb]? = some (.cells #[.int .i64 (b : Int), .int .i64 (k : Int)] 47 (0, 0))) (lle : L.length ≤ 65536) :
    ∃ a' cap' w', (Builtin.append_ #[44, 44] 44 #[.slice a L.length cap, .slice (some ⟨vb, 0, none⟩) 1 1]).run Try.prog w = .ok (.slice a' (L.length + 1) cap') w' ∧
      w'.ownsRow 0 47 2 (.slice a' (L.length + 1) cap') (L.length + 1) (regs (ins L L.length (b, k))) ∧ Only (RowOf a) w w' ∧ SameOrNew w a a' := by
  have hins : regs (ins L L.length (b, k)) = regs L ++ [.int .i64 (b : Int), .int .i64 (k : Int)] := by simp [ins, regs_append, regs_one']
  rw [hins]
  obtain ⟨i0, hi0, hz0, hz1, hz2⟩ := info_parts Try.infoReg
  have hone : ∀ u ∈ [Value.int .i64 (b : Int), Value.int .i64 (k : Int)], u.oneCell' = true := by intro u hu; simp at hu; rcases hu with rfl | rfl <;> rfl
  by_cases hroom : L.length + 1 ≤ cap
  · rcases hown.2 with ⟨e, e2⟩ | ⟨g, c, cur, e, _, _, hc, _⟩
    · simp only [Value.slice.injEq] at e; omega
    · simp only [Value.slice.injEq] at e
      obtain ⟨rfl, _, rfl⟩ := e
      obtain ⟨w', hr, ho, hg⟩ := run_append_fits (P := Try.prog) w 0 44 44 47 i0 2 Try.underlying44 hi0 hz1 g L.length cap (regs L) hown ⟨vb, 0, none⟩ 1 1 [.int .i64 (b : Int), .int .i64 (k : Int)] rfl (src_pair hv) hone hroom
      exact ⟨_, _, w', hr, ho, (Only.ofGrown hg).mono (fun q hq => by simp at hq; exact ⟨_, rfl, hq⟩), fun x hx => .inl ⟨x, hx, rfl⟩⟩
  · obtain rfl : cap = L.length := by
      rcases hown.2 with ⟨e, e2⟩ | ⟨g, c, cur, e, _, _, hc, _⟩
      · simp only [Value.slice.injEq] at e; omega
      · simp only [Value.slice.injEq] at e; omega
    obtain ⟨c', w', hr, ho, hg⟩ := run_append_new (P := Try.prog) w 44 44 47 i0 _ 2 16 Try.underlying44 hi0 hz0 hz1 hz2 rfl a L.length (regs L) hown ⟨vb, 0, none⟩ 1 1 (by decide) [.int .i64 (b : Int), .int .i64 (k : Int)] rfl (src_pair hv) (by unfold maxLen; omega) (by omega)
    exact ⟨_, _, w', hr, ho, hg.nilTo _, fun x hx => .inr (by simp only [Option.some.injEq] at hx; rw [← hx]; exact Nat.le_refl _)⟩

set_option maxHeartbeats 1000000 in
theorem insert_end {w : World} {a : Option Addr} {cap : Nat} {L : List Reg} (hown : w.ownsRow 0 47 2 (.slice a L.length cap) L.length (regs L)) (vb b k : Nat)
    (hv : w.heap[vb]? = some (.cells #[.int .i64 (b : Int), .int .i64 (k : Int)] 47 (0, 0))) (lle : L.length ≤ 65536) :
    Calls Try.prog 29 #[.slice a L.length cap, .int .i64 (L.length : Int), .slice (some ⟨vb, 0, none⟩) 1 1] w fun e w' =>
      ∃ a' cap', e = .returned (.slice a' (L.length + 1) cap') ∧ w'.ownsRow 0 47 2 (.slice a' (L.length + 1) cap') (L.length + 1) (regs (ins L L.length (b, k))) ∧ Only (RowOf a) w w' ∧ SameOrNew w a a' := by
  obtain ⟨a', cap', w', hr, h1, h2, h3⟩ := append_end hown vb b k hv lle
  have fin := Lib.hid (And.intro h1 (And.intro h2 h3))
  have hr' := Lib.hid hr
  have hcap : L.length ≤ cap := by
    rcases hown.2 with ⟨e, e2⟩ | ⟨g, c, cur, e, _, _, hc, _⟩
    · omega
    · simp only [Value.slice.injEq] at e; omega
  clear h1 h2 h3 hr hown hv
  generalize hlen : L.length = len at hr' lle fin hcap ⊢
  clear hlen
  have lle' : (len : Int) ≤ 65536 := by omega
  go_enter Try.func29, Try.ntmps29
  go_wp2_with (at_builtin; refine Lib.wpList_append_run _ rfl (.tmp 23) (.tmp 24) 44 44 rfl _ _ rfl rfl _ _ hr'.out ?_)
  all_goals
    go_ret
    exact ⟨_, _, rfl, fin.out.1, fin.out.2.1, fin.out.2.2⟩
end Go.Proofs.Ytgpagfgedimjeaa
