/- The document's Step (trouperef03). -/
import Derived.Test.YtpnpbgcndlfobaaRingM
import Derived.Test.YtpnpbgcndlfobaaRingL
import Derived.Deep.DeepCutAuto
namespace Go.Proofs.Ytpnpbgcndlfobaa
open Go.RowKit

/-- Nothing is wanted any more. -/
def OS.isOver : OS → Prop
  | .over _ _ _ => True
  | _ => False
theorem wantOf_over (b c : Nat) (s : OS) (h : s.isOver) : ∃ (x5 x6 x7 : Int), wantOf b c s = .agg #[.bool true, .int .i64 0, .int .i64 0, .int .u64 0, .int .u64 0, .int .i64 x5, .int .u64 x6, .int .u64 x7] := by
  cases s <;> first | exact h.elim | exact ⟨_, _, _, rfl⟩
theorem wantOf_acc (b c : Nat) (s : OS) (h : ¬ s.isOver) : wantOf b c s = accWant (acc b c s) := by
  cases s <;> first | rfl | exact (h trivial).elim

set_option maxRecDepth 100000 in
set_option maxHeartbeats 4000000 in
theorem rstep_over (w : World) (p : Value) (b c kind : Nat) (v : Int) (a : Option Addr) (cap : Nat) (log : List Int) (hk : 1 ≤ kind ∧ kind ≤ 5) (hc : 0 < c) (hc2 : c ≤ 64) (hb : b ≤ 1000) (hl : LogIn w a log) (hf : Fits c (begin kind v) log) (hlen : log.length ≤ 1000000)
    (ho : (runL c (begin kind v) log).isOver) :
    Calls Try.prog 19 #[p, .agg #[.int .i64 (b : Int), .int .i64 (c : Int)], .agg #[.int .i64 (kind : Int), .int .u64 v, .slice a log.length cap]] w fun e w' => e = .returned (.agg #[.int .i64 (kind : Int), .int .u64 v, .slice a log.length cap]) ∧ Only Nil w w' := by
  have con := Lib.hid (fun (w' : World) (h : LogIn w' a log) => rnext_any w' b c kind v a cap log hk hc hc2 hb h hf hlen)
  have hl' := Lib.hid hl
  obtain ⟨x5, x6, x7, hx⟩ := wantOf_over b c _ ho
  rw [hx] at con
  clear hx hl hf hk hc hc2 hb ho
  generalize log.length = n at hlen con ⊢
  have hlen' : (n : Int) ≤ 1000000 := by omega
  go_enter Try.func19, Try.ntmps19
  go_wp2_with fail
  obtain ⟨n1, n2, n3, n4⟩ := three_new w (.cells #[.int .i64 (b : Int), .int .i64 (c : Int)] 31) (.cells #[.int .i64 (kind : Int), .int .u64 v, .slice a n cap] 44) (.cells #[.int .i64 0, .int .u64 0, .slice none 0 0] 44)
  have lW := Lib.hid (hl'.out.keep n4 (fun _ _ _ h => h.elim))
  have bl := Lib.hid (fun (w' : World) (o : Only Nil (((w.alloc (.cells #[.int .i64 (b : Int), .int .i64 (c : Int)] 31)).alloc (.cells #[.int .i64 (kind : Int), .int .u64 v, .slice a n cap] 44)).alloc (.cells #[.int .i64 0, .int .u64 0, .slice none 0 0] 44)) w') =>
    And.intro ((o.block _ (lt_of_block n2) (fun h => h)).trans n2) ((o.block _ (lt_of_block n3) (fun h => h)).trans n3))
  have n4' := Lib.hid n4
  clear n1 n2 n3 n4 hl'
  generalize (((w.alloc (.cells #[.int .i64 (b : Int), .int .i64 (c : Int)] 31)).alloc (.cells #[.int .i64 (kind : Int), .int .u64 v, .slice a n cap] 44)).alloc (.cells #[.int .i64 0, .int .u64 0, .slice none 0 0] 44)) = W0 at bl n4' lW ⊢
  go_at_call 21
  (with_reducible refine (con.out _ lW.out).mono ?_)
  rintro e_ w1 ⟨rfl, q1⟩
  have oo := Lib.hid q1
  go_upto_if 13 with (fail)
  have o2' := Lib.hid (oo.out.alloc (.cells #[.bool true, .int .i64 0, .int .i64 0, .int .u64 0, .int .u64 0, .int .i64 x5, .int .u64 x6, .int .u64 x7] 49))
  obtain ⟨bO, bW⟩ := bl.out _ o2'.out
  have bO' := Lib.hid bO
  have bW' := Lib.hid bW
  clear bO bW q1
  generalize (w1.alloc (.cells #[.bool true, .int .i64 0, .int .i64 0, .int .u64 0, .int .u64 0, .int .i64 x5, .int .u64 x6, .int .u64 x7] 49)) = w2 at o2' bO' bW' ⊢
  have o0 : w2.cell? ⟨w.heap.size + 1, 0, none⟩ = some (.int .i64 (kind : Int)) := (by simp [World.cell?, bO'.out])
  have o1 : w2.cell? ⟨w.heap.size + 1, 1, none⟩ = some (.int .u64 v) := (by simp [World.cell?, bO'.out])
  have o2 : w2.cell? ⟨w.heap.size + 1, 2, none⟩ = some (.slice a n cap) := (by simp [World.cell?, bO'.out])
  have c0 : w2.cell? ⟨w.heap.size + 1 + 1, 0, none⟩ = some (.int .i64 0) := (by simp [World.cell?, bW'.out])
  have c1 : w2.cell? ⟨w.heap.size + 1 + 1, 1, none⟩ = some (.int .u64 0) := (by simp [World.cell?, bW'.out])
  have c2 : w2.cell? ⟨w.heap.size + 1 + 1, 2, none⟩ = some (.slice none 0 0) := (by simp [World.cell?, bW'.out])
  have f0 : w2.frozen? ⟨w.heap.size + 1 + 1, 0, none⟩ = false := (by simp [World.frozen?, bW'.out])
  have f1 : w2.frozen? ⟨w.heap.size + 1 + 1, 1, none⟩ = false := (by simp [World.frozen?, bW'.out])
  have f2 : w2.frozen? ⟨w.heap.size + 1 + 1, 2, none⟩ = false := (by simp [World.frozen?, bW'.out])
  go_wp2
  refine bodyPost_ret (results_agg rfl _ _ (w.heap.size + 1 + 1) [.int .i64 (kind : Int), .int .u64 v, .slice a n cap] Try.isAgg44 Try.sizeOf44 rfl (set3_heap bW'.out (.int .i64 (kind : Int)) (.int .u64 v) (.slice a n cap))) rfl ?_
  exact ⟨rfl, (n4'.out.trans o2'.out).then (set3_only _ _ (.int .i64 (kind : Int)) (.int .u64 v) (.slice a n cap)) (fun q hq hl => by omega)⟩
end Go.Proofs.Ytpnpbgcndlfobaa
