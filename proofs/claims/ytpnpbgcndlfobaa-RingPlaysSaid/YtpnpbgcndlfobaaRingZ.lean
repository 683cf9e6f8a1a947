/- The document's Step (trouperef03), where an access is wanted. -/
import Derived.Test.YtpnpbgcndlfobaaRingN
import Derived.Laws.AppendOwnNone
import Derived.OwnWalk
namespace Go.Proofs.Ytpnpbgcndlfobaa
open Go.RowKit

set_option maxRecDepth 100000 in
set_option maxHeartbeats 8000000 in
theorem rstep_more (w : World) (hb rb : Nat) (L : List Int) (t : Int) (b c kind : Nat) (v : Int) (a : Option Addr) (cap : Nat) (log : List Int) (hr : RefAt w hb rb L t) (hx : (acc b c (runL c (begin kind v) log)).inn L.length) (t0 : 0 ≤ t) (t1 : t < 4611686018427387904) (hk : 1 ≤ kind ∧ kind ≤ 5) (hc : 0 < c) (hc2 : c ≤ 64) (hb1 : b ≤ 1000) (hl : LogIn w a log) (hf : Fits c (begin kind v) log) (hlen : log.length ≤ 1000000)
    (ho : ¬ (runL c (begin kind v) log).isOver) (hlog : 0 < log.length) :
    Calls Try.prog 19 #[.pointer (some ⟨hb, 0, none⟩), .agg #[.int .i64 (b : Int), .int .i64 (c : Int)], .agg #[.int .i64 (kind : Int), .int .u64 v, .slice a log.length cap]] w fun e w' => ∃ a' cap', e = .returned (.agg #[.int .i64 (kind : Int), .int .u64 v, .slice a' (log.length + 1) cap']) ∧
      LogIn w' a' (log ++ [(doAcc L (acc b c (runL c (begin kind v) log))).2]) ∧ RefAt w' hb rb (doAcc L (acc b c (runL c (begin kind v) log))).1 (t + 1) ∧ Only (Blk hb rb) w w' ∧ (∃ g, a' = some ⟨g, 0, none⟩ ∧ w.heap.size ≤ g) := by
  have con := Lib.hid (fun (w' : World) (h : LogIn w' a log) => rnext_any w' b c kind v a cap log hk hc hc2 hb1 h hf hlen)
  rw [wantOf_acc b c _ ho] at con
  have hl' := Lib.hid hl
  have hr' := Lib.hid hr
  have doc := Lib.hid (fun (w' : World) (h : RefAt w' hb rb L t) => rdo_any h _ hx t0 t1)
  obtain ⟨x1, x2, x3, x4, hx4⟩ := accWant_form (acc b c (runL c (begin kind v) log))
  rw [hx4] at con doc
  obtain ⟨i0, hi0, hz0, hz1, hz2⟩ := info_parts Try.infoU64'
  have hu := Try.underlying42
  have hlb := hr.lt_hb
  have hrb := hr.lt_rb
  clear hl hf hk hc hc2 hb1 ho hx hx4 hr
  generalize hans : doAcc L (acc b c (runL c (begin kind v) log)) = ans at doc ⊢
  clear hans
  obtain ⟨L2, y⟩ := ans
  simp only at doc ⊢
  obtain ⟨gl, rfl, hgl, hcl⟩ := hl'.out 0 hlog
  generalize hlen' : log.length = n at *
  have hlen2 := Lib.hid hlen'
  clear hlen' hcl
  have hnb : (n : Int) ≤ 1000000 := by omega
  go_enter Try.func19, Try.ntmps19
  go_wp2_with fail
  obtain ⟨n1, n2, n3, n4⟩ := three_new w (.cells #[.int .i64 (b : Int), .int .i64 (c : Int)] 31) (.cells #[.int .i64 (kind : Int), .int .u64 v, .slice (some ⟨gl, 0, none⟩) n cap] 44) (.cells #[.int .i64 0, .int .u64 0, .slice none 0 0] 44)
  have lW := Lib.hid (hl'.out.keep n4 (fun _ _ _ h => h.elim))
  have bl := Lib.hid (fun (w' : World) (o : Only (Blk hb rb) (((w.alloc (.cells #[.int .i64 (b : Int), .int .i64 (c : Int)] 31)).alloc (.cells #[.int .i64 (kind : Int), .int .u64 v, .slice (some ⟨gl, 0, none⟩) n cap] 44)).alloc (.cells #[.int .i64 0, .int .u64 0, .slice none 0 0] 44)) w') =>
    And.intro ((o.block _ (lt_of_block n2) (fun h => by rcases h with e | e <;> omega)).trans n2) ((o.block _ (lt_of_block n3) (fun h => by rcases h with e | e <;> omega)).trans n3))
  have n4' := Lib.hid n4
  have rW := Lib.hid (hr'.out.keep n4 (fun h => h) (fun h => h))
  clear n1 n2 n3 n4
  generalize (((w.alloc (.cells #[.int .i64 (b : Int), .int .i64 (c : Int)] 31)).alloc (.cells #[.int .i64 (kind : Int), .int .u64 v, .slice (some ⟨gl, 0, none⟩) n cap] 44)).alloc (.cells #[.int .i64 0, .int .u64 0, .slice none 0 0] 44)) = W0 at bl n4' lW rW ⊢
  go_at_call 21
  (with_reducible refine (con.out _ lW.out).mono ?_)
  rintro e_ w1 ⟨rfl, q1⟩
  have oo := Lib.hid q1
  go_upto_if 13 with (fail)
  have o2' := Lib.hid (oo.out.alloc (.cells #[.bool false, .int .i64 x1, .int .i64 x2, .int .u64 x3, .int .u64 x4, .int .i64 0, .int .u64 0, .int .u64 0] 49))
  obtain ⟨bO, bW⟩ := bl.out _ (o2'.out.nilTo _)
  have bO' := Lib.hid bO
  have bW' := Lib.hid bW
  have bT := Lib.hid (heap_new w1 (.cells #[.bool false, .int .i64 x1, .int .i64 x2, .int .u64 x3, .int .u64 x4, .int .i64 0, .int .u64 0, .int .u64 0] 49))
  have l2 := Lib.hid (lW.out.keep o2'.out (fun _ _ _ h => h.elim))
  have r2 := Lib.hid (rW.out.keep o2'.out (fun h => h) (fun h => h))
  clear bO bW q1
  generalize hzw : w1.heap.size = zw at bT ⊢
  generalize (w1.alloc (.cells #[.bool false, .int .i64 x1, .int .i64 x2, .int .u64 x3, .int .u64 x4, .int .i64 0, .int .u64 0, .int .u64 0] 49)) = w2 at o2' bO' bW' bT l2 r2 ⊢

  have o0 : w2.cell? ⟨w.heap.size + 1, 0, none⟩ = some (.int .i64 (kind : Int)) := (by simp [World.cell?, bO'.out])
  have o1 : w2.cell? ⟨w.heap.size + 1, 1, none⟩ = some (.int .u64 v) := (by simp [World.cell?, bO'.out])
  have o2 : w2.cell? ⟨w.heap.size + 1, 2, none⟩ = some (.slice (some ⟨gl, 0, none⟩) n cap) := (by simp [World.cell?, bO'.out])
  have hbs := Lib.hid (n4'.out.trans (o2'.out)).size
  have hlu : (uvz log).length = n * 1 := (by simp [uvz, hlen2.out])
  have hlu' := Lib.hid hlu
  clear hlu
  go_wp2_with (at_builtin; refine wpList_append_own _ rfl (.tmp 15) (.tmp 17) 42 rfl w2.heap.size 37 i0 (.int .u64 0) 1 8 hu hi0 hz0 hz1 hz2 rfl (by decide) (.slice none 0 0) 0 [] rfl (World.ownsRow_nil _ _ _ _) ⟨gl, 0, none⟩ n cap (uvz log) rfl hlu'.out (log_cells l2.out) (uvz_one log) (by unfold maxLen; omega) (by omega) (Nat.le_refl _) ?_)
  intro v3 w3 own3 gr3 hn3
  clear hn3
  have hzb := Lib.hid (show w.heap.size ≤ zw from hzw ▸ (n4'.out.trans oo.out).size)
  have o3 := Lib.hid ((Only.ofGrownZ gr3).mono (T := Nil) (fun k (hk : some k = none) => by cases hk))
  have own3' := Lib.hid own3
  have bO3 := Lib.hid ((o3.out.block _ (lt_of_block bO'.out) id).trans bO'.out)
  have bT3 := Lib.hid ((o3.out.block _ (lt_of_block bT.out) id).trans bT.out)
  have r3 := Lib.hid (r2.out.keep o3.out id id)
  have n3 := Lib.hid (n4'.out.trans (o2'.out.trans o3.out))
  clear gr3 own3 o0 o1 o2 hbs hzw
  have z0 : w3.cell? ⟨zw, 0, none⟩ = some (.bool false) := (by simp [World.cell?, bT3.out])
  have z1 : w3.cell? ⟨zw, 1, none⟩ = some (.int .i64 x1) := (by simp [World.cell?, bT3.out])
  have z2 : w3.cell? ⟨zw, 2, none⟩ = some (.int .i64 x2) := (by simp [World.cell?, bT3.out])
  have z3 : w3.cell? ⟨zw, 3, none⟩ = some (.int .u64 x3) := (by simp [World.cell?, bT3.out])
  have z4 : w3.cell? ⟨zw, 4, none⟩ = some (.int .u64 x4) := (by simp [World.cell?, bT3.out])
  have z5 : w3.cell? ⟨zw, 5, none⟩ = some (.int .i64 0) := (by simp [World.cell?, bT3.out])
  have z6 : w3.cell? ⟨zw, 6, none⟩ = some (.int .u64 0) := (by simp [World.cell?, bT3.out])
  have z7 : w3.cell? ⟨zw, 7, none⟩ = some (.int .u64 0) := (by simp [World.cell?, bT3.out])
  go_wp2_with fail
  go_at_call 42
  (with_reducible refine (doc.out _ r3.out).mono ?_)
  rintro e_ w4 ⟨rfl, q1, q2⟩
  have r4 := Lib.hid q1
  have o4 := Lib.hid q2
  clear q1 q2 z0 z1 z2 z3 z4 z5 z6 z7
  have hB := Lib.hid (show w.heap.size ≤ w2.heap.size from (n4'.out.trans o2'.out).size)
  have hB1 := Lib.hid (lt_of_block bO'.out)
  have hB2 := Lib.hid (lt_of_block bW'.out)
  have hv3 := Lib.hid (fun k (e : some k = v3.ownBlock) => (own3'.out.lt k e.symm).1)
  have own4 := Lib.hid (own_keepZ own3'.out o4.out (fun k e s => by have := hv3.out k e; have := hB.out; rcases s with e | e <;> omega))
  have n5 := Lib.hid ((n3.out.nilTo _).trans o4.out)
  obtain ⟨q3, q4⟩ := bl.out _ (((o2'.out.trans o3.out).nilTo _).trans o4.out)
  have bO4 := Lib.hid q3
  have bW4 := Lib.hid q4
  have hlt4 := Lib.hid (Nat.le_trans o3.out.size o4.out.size)
  clear q3 q4
  go_wp2_with (at_builtin; refine wpList_append_own _ rfl (.tmp 19) (.tmp 23) 42 rfl w2.heap.size 37 i0 (.int .u64 0) 1 8 hu hi0 hz0 hz1 hz2 rfl (by decide) v3 n (uvz log) rfl (own4.out.alloc _) ⟨w4.heap.size, 0, none⟩ 1 1 [.int .u64 y] rfl rfl (src_oneZ (heap_new w4 (.cells #[.int .u64 y] 37))) (by intro u hu; simp at hu; subst hu; rfl) (by unfold maxLen; omega) (by omega) (Nat.le_trans hlt4.out (by simp)) ?_)
  intro v5 w5 own5 gr5 hn5
  clear hn5
  have o5 := Lib.hid (Only.then (n5.out.alloc (.cells #[.int .u64 y] 37)) (Only.ofGrownZ gr5) (fun k hk hl => by have := hv3.out k hk; have := hB.out; omega))
  have e5 := Lib.hid (Only.then (((Only.refl Nil w4).alloc (.cells #[.int .u64 y] 37)).nilTo (fun k => some k = v3.ownBlock)) (Only.ofGrownZ gr5) (fun k hk _ => hk))
  have r5 := Lib.hid (r4.out.keep e5.out (fun h => by have := hv3.out hb h; have := hB.out; omega) (fun h => by have := hv3.out rb h; have := hB.out; omega))
  have bO5 := Lib.hid ((e5.out.block _ (lt_of_block bO4.out) (fun h => by have := hv3.out _ h; have := hB1.out; omega)).trans bO4.out)
  have bW5 := Lib.hid ((e5.out.block _ (lt_of_block bW4.out) (fun h => by have := hv3.out _ h; have := hB2.out; omega)).trans bW4.out)
  obtain ⟨g, cap', rfl, hg, hlog5⟩ := own_logZ (X := log ++ [y]) (by simpa [uvz] using own5) (by simp [hlen2.out]) (by omega)
  have hl5 := Lib.hid hlog5
  have hg5 := Lib.hid hg
  clear own5 gr5 hlog5 hg
  have o0 : w5.cell? ⟨w.heap.size + 1, 0, none⟩ = some (.int .i64 (kind : Int)) := (by simp [World.cell?, bO5.out])
  have o1 : w5.cell? ⟨w.heap.size + 1, 1, none⟩ = some (.int .u64 v) := (by simp [World.cell?, bO5.out])
  have c0 : w5.cell? ⟨w.heap.size + 1 + 1, 0, none⟩ = some (.int .i64 0) := (by simp [World.cell?, bW5.out])
  have c1 : w5.cell? ⟨w.heap.size + 1 + 1, 1, none⟩ = some (.int .u64 0) := (by simp [World.cell?, bW5.out])
  have c2 : w5.cell? ⟨w.heap.size + 1 + 1, 2, none⟩ = some (.slice none 0 0) := (by simp [World.cell?, bW5.out])
  have f0 : w5.frozen? ⟨w.heap.size + 1 + 1, 0, none⟩ = false := (by simp [World.frozen?, bW5.out])
  have f1 : w5.frozen? ⟨w.heap.size + 1 + 1, 1, none⟩ = false := (by simp [World.frozen?, bW5.out])
  have f2 : w5.frozen? ⟨w.heap.size + 1 + 1, 2, none⟩ = false := (by simp [World.frozen?, bW5.out])
  go_wp2
  refine bodyPost_ret (results_agg rfl _ _ (w.heap.size + 1 + 1) [.int .i64 (kind : Int), .int .u64 v, .slice (some ⟨g, 0, none⟩) (n + 1) cap'] Try.isAgg44 Try.sizeOf44 rfl (set3_heap bW5.out (.int .i64 (kind : Int)) (.int .u64 v) (.slice (some ⟨g, 0, none⟩) (n + 1) cap'))) rfl ?_
  have s5 := set3_only w5 (w.heap.size + 1 + 1) (.int .i64 (kind : Int)) (.int .u64 v) (.slice (some ⟨g, 0, none⟩) (n + 1) cap')
  exact ⟨_, _, rfl, hl5.out.keep s5 (fun k b e s => by cases e; have := hg5.out; have := hB2.out; subst s; intro h; simp only at h; omega), r5.out.keep s5 (by omega) (by omega), o5.out.then s5 (fun q hq hl => by omega), g, rfl, Nat.le_trans hB.out hg5.out⟩

set_option maxRecDepth 100000 in
set_option maxHeartbeats 8000000 in
theorem rstep_first (w : World) (hb rb : Nat) (L : List Int) (t : Int) (b c kind : Nat) (v : Int) (a : Option Addr) (cap : Nat) (log : List Int) (hr : RefAt w hb rb L t) (hx : (acc b c (runL c (begin kind v) log)).inn L.length) (t0 : 0 ≤ t) (t1 : t < 4611686018427387904) (hk : 1 ≤ kind ∧ kind ≤ 5) (hc : 0 < c) (hc2 : c ≤ 64) (hb1 : b ≤ 1000) (hl : LogIn w a log) (hf : Fits c (begin kind v) log) (hlen : log.length ≤ 1000000)
    (ho : ¬ (runL c (begin kind v) log).isOver) (hlog : a = none ∧ cap = 0 ∧ log = []) :
    Calls Try.prog 19 #[.pointer (some ⟨hb, 0, none⟩), .agg #[.int .i64 (b : Int), .int .i64 (c : Int)], .agg #[.int .i64 (kind : Int), .int .u64 v, .slice a log.length cap]] w fun e w' => ∃ a' cap', e = .returned (.agg #[.int .i64 (kind : Int), .int .u64 v, .slice a' (log.length + 1) cap']) ∧
      LogIn w' a' (log ++ [(doAcc L (acc b c (runL c (begin kind v) log))).2]) ∧ RefAt w' hb rb (doAcc L (acc b c (runL c (begin kind v) log))).1 (t + 1) ∧ Only (Blk hb rb) w w' ∧ (∃ g, a' = some ⟨g, 0, none⟩ ∧ w.heap.size ≤ g) := by
  have con := Lib.hid (fun (w' : World) (h : LogIn w' a log) => rnext_any w' b c kind v a cap log hk hc hc2 hb1 h hf hlen)
  rw [wantOf_acc b c _ ho] at con
  have hl' := Lib.hid hl
  have hr' := Lib.hid hr
  have doc := Lib.hid (fun (w' : World) (h : RefAt w' hb rb L t) => rdo_any h _ hx t0 t1)
  obtain ⟨x1, x2, x3, x4, hx4⟩ := accWant_form (acc b c (runL c (begin kind v) log))
  rw [hx4] at con doc
  obtain ⟨i0, hi0, hz0, hz1, hz2⟩ := info_parts Try.infoU64'
  have hu := Try.underlying42
  have hlb := hr.lt_hb
  have hrb := hr.lt_rb
  clear hl hf hk hc hc2 hb1 ho hx hx4 hr
  generalize hans : doAcc L (acc b c (runL c (begin kind v) log)) = ans at doc ⊢
  clear hans
  obtain ⟨L2, y⟩ := ans
  simp only at doc ⊢
  obtain ⟨rfl, rfl, hl0⟩ := hlog
  generalize hlen' : log.length = n at *
  have hlen2 := Lib.hid hlen'
  have hn0 := Lib.hid (show n = 0 from by rw [← hlen', hl0]; rfl)
  have hl0' := Lib.hid hl0
  clear hlen' hl0
  have hnb : (n : Int) ≤ 1000000 := by omega
  go_enter Try.func19, Try.ntmps19
  go_wp2_with fail
  obtain ⟨n1, n2, n3, n4⟩ := three_new w (.cells #[.int .i64 (b : Int), .int .i64 (c : Int)] 31) (.cells #[.int .i64 (kind : Int), .int .u64 v, .slice none n 0] 44) (.cells #[.int .i64 0, .int .u64 0, .slice none 0 0] 44)
  have lW := Lib.hid (hl'.out.keep n4 (fun _ _ _ h => h.elim))
  have bl := Lib.hid (fun (w' : World) (o : Only (Blk hb rb) (((w.alloc (.cells #[.int .i64 (b : Int), .int .i64 (c : Int)] 31)).alloc (.cells #[.int .i64 (kind : Int), .int .u64 v, .slice none n 0] 44)).alloc (.cells #[.int .i64 0, .int .u64 0, .slice none 0 0] 44)) w') =>
    And.intro ((o.block _ (lt_of_block n2) (fun h => by rcases h with e | e <;> omega)).trans n2) ((o.block _ (lt_of_block n3) (fun h => by rcases h with e | e <;> omega)).trans n3))
  have n4' := Lib.hid n4
  have rW := Lib.hid (hr'.out.keep n4 (fun h => h) (fun h => h))
  clear n1 n2 n3 n4
  generalize (((w.alloc (.cells #[.int .i64 (b : Int), .int .i64 (c : Int)] 31)).alloc (.cells #[.int .i64 (kind : Int), .int .u64 v, .slice none n 0] 44)).alloc (.cells #[.int .i64 0, .int .u64 0, .slice none 0 0] 44)) = W0 at bl n4' lW rW ⊢
  go_at_call 21
  (with_reducible refine (con.out _ lW.out).mono ?_)
  rintro e_ w1 ⟨rfl, q1⟩
  have oo := Lib.hid q1
  go_upto_if 13 with (fail)
  have o2' := Lib.hid (oo.out.alloc (.cells #[.bool false, .int .i64 x1, .int .i64 x2, .int .u64 x3, .int .u64 x4, .int .i64 0, .int .u64 0, .int .u64 0] 49))
  obtain ⟨bO, bW⟩ := bl.out _ (o2'.out.nilTo _)
  have bO' := Lib.hid bO
  have bW' := Lib.hid bW
  have bT := Lib.hid (heap_new w1 (.cells #[.bool false, .int .i64 x1, .int .i64 x2, .int .u64 x3, .int .u64 x4, .int .i64 0, .int .u64 0, .int .u64 0] 49))
  have l2 := Lib.hid (lW.out.keep o2'.out (fun _ _ _ h => h.elim))
  have r2 := Lib.hid (rW.out.keep o2'.out (fun h => h) (fun h => h))
  clear bO bW q1
  generalize hzw : w1.heap.size = zw at bT ⊢
  generalize (w1.alloc (.cells #[.bool false, .int .i64 x1, .int .i64 x2, .int .u64 x3, .int .u64 x4, .int .i64 0, .int .u64 0, .int .u64 0] 49)) = w2 at o2' bO' bW' bT l2 r2 ⊢

  have o0 : w2.cell? ⟨w.heap.size + 1, 0, none⟩ = some (.int .i64 (kind : Int)) := (by simp [World.cell?, bO'.out])
  have o1 : w2.cell? ⟨w.heap.size + 1, 1, none⟩ = some (.int .u64 v) := (by simp [World.cell?, bO'.out])
  have o2 : w2.cell? ⟨w.heap.size + 1, 2, none⟩ = some (.slice none n 0) := (by simp [World.cell?, bO'.out])
  have hbs := Lib.hid (n4'.out.trans (o2'.out)).size
  have hzb := Lib.hid (show w.heap.size ≤ zw from hzw ▸ (n4'.out.trans oo.out).size)
  have o3 := Lib.hid (Only.refl Nil w2)
  have own3' := Lib.hid (show w2.ownsRow w2.heap.size 37 1 (.slice none 0 0) n (uvz log) from by rw [hn0.out, hl0'.out]; exact World.ownsRow_nil _ _ _ _)
  have bO3 := Lib.hid ((o3.out.block _ (lt_of_block bO'.out) id).trans bO'.out)
  have bT3 := Lib.hid ((o3.out.block _ (lt_of_block bT.out) id).trans bT.out)
  have r3 := Lib.hid (r2.out.keep o3.out id id)
  have n3 := Lib.hid (n4'.out.trans (o2'.out.trans o3.out))
  clear hbs hzw
  have z0 : w2.cell? ⟨zw, 0, none⟩ = some (.bool false) := (by simp [World.cell?, bT3.out])
  have z1 : w2.cell? ⟨zw, 1, none⟩ = some (.int .i64 x1) := (by simp [World.cell?, bT3.out])
  have z2 : w2.cell? ⟨zw, 2, none⟩ = some (.int .i64 x2) := (by simp [World.cell?, bT3.out])
  have z3 : w2.cell? ⟨zw, 3, none⟩ = some (.int .u64 x3) := (by simp [World.cell?, bT3.out])
  have z4 : w2.cell? ⟨zw, 4, none⟩ = some (.int .u64 x4) := (by simp [World.cell?, bT3.out])
  have z5 : w2.cell? ⟨zw, 5, none⟩ = some (.int .i64 0) := (by simp [World.cell?, bT3.out])
  have z6 : w2.cell? ⟨zw, 6, none⟩ = some (.int .u64 0) := (by simp [World.cell?, bT3.out])
  have z7 : w2.cell? ⟨zw, 7, none⟩ = some (.int .u64 0) := (by simp [World.cell?, bT3.out])
  go_wp2_with (at_builtin; refine wpList_append_own_none rfl (.tmp 15) (.tmp 17) 42 rfl w2.heap.size 37 i0 1 hu hi0 (.slice none 0 0) 0 [] rfl (World.ownsRow_nil _ _ _ _) (show Value.slice none n 0 = .slice none 0 0 from by rw [hn0.out]) ?_)
  go_at_call 42
  (with_reducible refine (doc.out _ r3.out).mono ?_)
  rintro e_ w4 ⟨rfl, q1, q2⟩
  have r4 := Lib.hid q1
  have o4 := Lib.hid q2
  clear q1 q2 z0 z1 z2 z3 z4 z5 z6 z7
  have hB := Lib.hid (show w.heap.size ≤ w2.heap.size from (n4'.out.trans o2'.out).size)
  have hB1 := Lib.hid (lt_of_block bO'.out)
  have hB2 := Lib.hid (lt_of_block bW'.out)
  have hv3 := Lib.hid (fun k (e : some k = (Value.slice none 0 0).ownBlock) => (own3'.out.lt k e.symm).1)
  have own4 := Lib.hid (own_keepZ own3'.out o4.out (fun k e s => by have := hv3.out k e; have := hB.out; rcases s with e | e <;> omega))
  have n5 := Lib.hid ((n3.out.nilTo _).trans o4.out)
  obtain ⟨q3, q4⟩ := bl.out _ (((o2'.out.trans o3.out).nilTo _).trans o4.out)
  have bO4 := Lib.hid q3
  have bW4 := Lib.hid q4
  have hlt4 := Lib.hid (Nat.le_trans o3.out.size o4.out.size)
  clear q3 q4
  go_wp2_with (at_builtin; refine wpList_append_own _ rfl (.tmp 19) (.tmp 23) 42 rfl w2.heap.size 37 i0 (.int .u64 0) 1 8 hu hi0 hz0 hz1 hz2 rfl (by decide) (Value.slice none 0 0) n (uvz log) rfl (own4.out.alloc _) ⟨w4.heap.size, 0, none⟩ 1 1 [.int .u64 y] rfl rfl (src_oneZ (heap_new w4 (.cells #[.int .u64 y] 37))) (by intro u hu; simp at hu; subst hu; rfl) (by unfold maxLen; omega) (by omega) (Nat.le_trans hlt4.out (by simp)) ?_)
  intro v5 w5 own5 gr5 hn5
  clear hn5
  have o5 := Lib.hid (Only.then (n5.out.alloc (.cells #[.int .u64 y] 37)) (Only.ofGrownZ gr5) (fun k hk hl => by have := hv3.out k hk; have := hB.out; omega))
  have e5 := Lib.hid (Only.then (((Only.refl Nil w4).alloc (.cells #[.int .u64 y] 37)).nilTo (fun k => some k = (Value.slice none 0 0).ownBlock)) (Only.ofGrownZ gr5) (fun k hk _ => hk))
  have r5 := Lib.hid (r4.out.keep e5.out (fun h => by have := hv3.out hb h; have := hB.out; omega) (fun h => by have := hv3.out rb h; have := hB.out; omega))
  have bO5 := Lib.hid ((e5.out.block _ (lt_of_block bO4.out) (fun h => by have := hv3.out _ h; have := hB1.out; omega)).trans bO4.out)
  have bW5 := Lib.hid ((e5.out.block _ (lt_of_block bW4.out) (fun h => by have := hv3.out _ h; have := hB2.out; omega)).trans bW4.out)
  obtain ⟨g, cap', rfl, hg, hlog5⟩ := own_logZ (X := log ++ [y]) (by simpa [uvz] using own5) (by simp [hlen2.out]) (by omega)
  have hl5 := Lib.hid hlog5
  have hg5 := Lib.hid hg
  clear own5 gr5 hlog5 hg
  have o0 : w5.cell? ⟨w.heap.size + 1, 0, none⟩ = some (.int .i64 (kind : Int)) := (by simp [World.cell?, bO5.out])
  have o1 : w5.cell? ⟨w.heap.size + 1, 1, none⟩ = some (.int .u64 v) := (by simp [World.cell?, bO5.out])
  have c0 : w5.cell? ⟨w.heap.size + 1 + 1, 0, none⟩ = some (.int .i64 0) := (by simp [World.cell?, bW5.out])
  have c1 : w5.cell? ⟨w.heap.size + 1 + 1, 1, none⟩ = some (.int .u64 0) := (by simp [World.cell?, bW5.out])
  have c2 : w5.cell? ⟨w.heap.size + 1 + 1, 2, none⟩ = some (.slice none 0 0) := (by simp [World.cell?, bW5.out])
  have f0 : w5.frozen? ⟨w.heap.size + 1 + 1, 0, none⟩ = false := (by simp [World.frozen?, bW5.out])
  have f1 : w5.frozen? ⟨w.heap.size + 1 + 1, 1, none⟩ = false := (by simp [World.frozen?, bW5.out])
  have f2 : w5.frozen? ⟨w.heap.size + 1 + 1, 2, none⟩ = false := (by simp [World.frozen?, bW5.out])
  go_wp2
  refine bodyPost_ret (results_agg rfl _ _ (w.heap.size + 1 + 1) [.int .i64 (kind : Int), .int .u64 v, .slice (some ⟨g, 0, none⟩) (n + 1) cap'] Try.isAgg44 Try.sizeOf44 rfl (set3_heap bW5.out (.int .i64 (kind : Int)) (.int .u64 v) (.slice (some ⟨g, 0, none⟩) (n + 1) cap'))) rfl ?_
  have s5 := set3_only w5 (w.heap.size + 1 + 1) (.int .i64 (kind : Int)) (.int .u64 v) (.slice (some ⟨g, 0, none⟩) (n + 1) cap')
  exact ⟨_, _, rfl, hl5.out.keep s5 (fun k b e s => by cases e; have := hg5.out; have := hB2.out; subst s; intro h; simp only at h; omega), r5.out.keep s5 (by omega) (by omega), o5.out.then s5 (fun q hq hl => by omega), g, rfl, Nat.le_trans hB.out hg5.out⟩
end Go.Proofs.Ytpnpbgcndlfobaa
