/- What a Ring's methods do, and what the closures of a worker's own operations do. -/
import Derived.Test.YtfhbgabblegecaaBlP
namespace Go.Proofs.Ytfhbgabblegecaa.Bl
open Go.RowKit

/-- A closure over a bell and a worker, as a value. -/
def clo (f cb cw : Nat) : Value := .func (.func f) #[] #[.pointer (some ⟨cb, 0, none⟩), .pointer (some ⟨cw, 0, none⟩)]
/-- What it captured. -/
structure Cap (w : World) (dq v cb cw : Nat) : Prop where
  hb : w.heap[cb]? = some (.cells #[.pointer (some ⟨dq, 0, none⟩)] 28 (0, 0))
  hw : w.heap[cw]? = some (.cells #[.int .i64 (v : Int)] 3 (0, 0))
theorem Cap.keep {S : Nat → Prop} {w w' : World} {dq v cb cw : Nat} (h : Cap w dq v cb cw) (o : Only S w w') (h1 : ¬ S cb) (h2 : ¬ S cw) : Cap w' dq v cb cw :=
  ⟨(o.block cb (lt_of_block h.hb) h1).trans h.hb, (o.block cw (lt_of_block h.hw) h2).trans h.hw⟩
theorem Cap.c {w : World} {dq v cb cw : Nat} (h : Cap w dq v cb cw) : w.cell? ⟨cb, 0, none⟩ = some (.pointer (some ⟨dq, 0, none⟩)) ∧ w.cell? ⟨cw, 0, none⟩ = some (.int .i64 (v : Int)) := by simp [World.cell?, h.hb, h.hw]

section
variable {w0 w w' : World} {ob dq hb rb b n : Nat} {nx : Value} {at_ oc who : Int} {L : List Int} {t : Int}
set_option maxHeartbeats 2000000 in
theorem look_yes (v : Nat) (h : St w0 w ob dq hb rb b n nx (v : Int) 0 who L t) (hv : v < n) (hx : L.getD (b + v) 0 = 1) (t2 : t + 1 < 4611686018427387000) :
    Calls Try.prog 52 #[.pointer (some ⟨ob, 0, none⟩)] w fun e w' => e = .returned (.tuple #[]) ∧ St w0 w' ob dq hb rb b n (me 79) (v : Int) 0 who L (t + 1) := by
  have hmf : ∀ (fn : Fn) (first cap : Array Value) (w : World), (Instr.makeFunc fn first cap).run Try.prog w = .ok (.func fn first cap) w := fun _ _ _ _ => rfl
  have ld := Lib.hid (fun k => (h.drewN k).load v hv t2)
  rw [hx] at ld
  unfold spanV at ld
  obtain ⟨c0, c1, c2, c3, c4⟩ := h.op.c
  obtain ⟨d0, d1, d2⟩ := h.bel.c
  clear h hx hv t2
  go_enter Try.func52, Try.ntmps52
  go_wp2
  go_region_held3 (fun w' => w'.cell? ⟨ob, 0, none⟩ = some (.pointer (some ⟨dq, 0, none⟩)) ∧ w'.cell? ⟨ob, 2, none⟩ = some (.int .i64 (v : Int)) ∧ w'.cell? ⟨dq, 0, none⟩ = some (.pointer (some ⟨hb, 0, none⟩)) ∧ w'.cell? ⟨dq, 1, none⟩ = some (.int .i64 (b : Int)))
    (first | exact ⟨c0, c2, d0, d1⟩ | exact ⟨k0, k2, e0, e1⟩ | go_keep)
    ((go_at_call 56; refine (ld.out _).mono ?_; rintro e w2 ⟨rfl, s2⟩; obtain ⟨k0, k1, k2, k3, k4⟩ := s2.op.c; obtain ⟨f1, f2, f3, f4⟩ := s2.op.f; obtain ⟨e0, e1, e2⟩ := s2.bel.c))
  go_wp2
  refine bodyPost_ret (results_none rfl _ _ _) rfl ?_
  exact ⟨rfl, s2.setNx _⟩
set_option maxHeartbeats 2000000 in
theorem look_end (v : Nat) (h : St w0 w ob dq hb rb b n nx (v : Int) 0 who L t) (hv : v + 1 = n) (hx : ¬ L.getD (b + v) 0 = 1) (t2 : t + 1 < 4611686018427387000) :
    Calls Try.prog 52 #[.pointer (some ⟨ob, 0, none⟩)] w fun e w' => e = .returned (.tuple #[]) ∧ St w0 w' ob dq hb rb b n nx (n : Int) 4 who L (t + 1) := by
  have ld := Lib.hid (fun k => (h.drewN k).load v (by omega) t2)
  have on := Lib.hid (fun w' (q : St w0 w' ob dq hb rb b n nx (v : Int) 0 who L (t + 1)) => ringOn_end q (by omega) (by omega))
  unfold spanV at ld
  obtain ⟨c0, c1, c2, c3, c4⟩ := h.op.c
  obtain ⟨d0, d1, d2⟩ := h.bel.c
  generalize L.getD (b + v) 0 = x at *
  have hx2 : (x == 1) = false := by simpa using hx
  clear h hx hv t2
  go_enter Try.func52, Try.ntmps52
  go_wp2
  go_region_held3 (fun w' => w'.cell? ⟨ob, 0, none⟩ = some (.pointer (some ⟨dq, 0, none⟩)) ∧ w'.cell? ⟨ob, 2, none⟩ = some (.int .i64 (v : Int)) ∧ w'.cell? ⟨dq, 0, none⟩ = some (.pointer (some ⟨hb, 0, none⟩)) ∧ w'.cell? ⟨dq, 1, none⟩ = some (.int .i64 (b : Int)))
    (first | exact ⟨c0, c2, d0, d1⟩ | exact ⟨k0, k2, e0, e1⟩ | go_keep)
    ((go_at_call 56; refine (ld.out _).mono ?_; rintro e w2 ⟨rfl, s2⟩; obtain ⟨k0, k1, k2, k3, k4⟩ := s2.op.c; obtain ⟨f1, f2, f3, f4⟩ := s2.op.f; obtain ⟨e0, e1, e2⟩ := s2.bel.c))
  go_wp2_with (go_at_call 80; refine (on.out _ s2).mono ?_; rintro e w3 ⟨rfl, s3⟩)
  go_end0
  exact ⟨rfl, s3⟩
set_option maxHeartbeats 2000000 in
theorem look_on (v : Nat) (h : St w0 w ob dq hb rb b n nx (v : Int) 0 who L t) (hv : v + 1 < n) (hx : ¬ L.getD (b + v) 0 = 1) (t2 : t + 1 < 4611686018427387000) :
    Calls Try.prog 52 #[.pointer (some ⟨ob, 0, none⟩)] w fun e w' => e = .returned (.tuple #[]) ∧ St w0 w' ob dq hb rb b n (me 52) ((v + 1 : Nat) : Int) 0 who L (t + 1) := by
  have ld := Lib.hid (fun k => (h.drewN k).load v (by omega) t2)
  have on := Lib.hid (fun w' (q : St w0 w' ob dq hb rb b n nx (v : Int) 0 who L (t + 1)) => ringOn_on q v rfl hv)
  unfold spanV at ld
  obtain ⟨c0, c1, c2, c3, c4⟩ := h.op.c
  obtain ⟨d0, d1, d2⟩ := h.bel.c
  generalize L.getD (b + v) 0 = x at *
  have hx2 : (x == 1) = false := by simpa using hx
  clear h hx hv t2
  go_enter Try.func52, Try.ntmps52
  go_wp2
  go_region_held3 (fun w' => w'.cell? ⟨ob, 0, none⟩ = some (.pointer (some ⟨dq, 0, none⟩)) ∧ w'.cell? ⟨ob, 2, none⟩ = some (.int .i64 (v : Int)) ∧ w'.cell? ⟨dq, 0, none⟩ = some (.pointer (some ⟨hb, 0, none⟩)) ∧ w'.cell? ⟨dq, 1, none⟩ = some (.int .i64 (b : Int)))
    (first | exact ⟨c0, c2, d0, d1⟩ | exact ⟨k0, k2, e0, e1⟩ | go_keep)
    ((go_at_call 56; refine (ld.out _).mono ?_; rintro e w2 ⟨rfl, s2⟩; obtain ⟨k0, k1, k2, k3, k4⟩ := s2.op.c; obtain ⟨f1, f2, f3, f4⟩ := s2.op.f; obtain ⟨e0, e1, e2⟩ := s2.bel.c))
  go_wp2_with (go_at_call 80; refine (on.out _ s2).mono ?_; rintro e w3 ⟨rfl, s3⟩)
  go_end0
  exact ⟨rfl, s3⟩
set_option maxHeartbeats 2000000 in
theorem rouse_yes (v : Nat) (h : St w0 w ob dq hb rb b n nx (v : Int) 0 who L t) (hv : v < n) (hx : L.getD (b + v) 0 = 1) (t2 : t + 1 < 4611686018427387000) :
    Calls Try.prog 79 #[.pointer (some ⟨ob, 0, none⟩)] w fun e w' => e = .returned (.tuple #[]) ∧ St w0 w' ob dq hb rb b n nx (v : Int) 7 (v : Int) (doAcc L (.swap (b + v) 1 0)).1 (t + 1) := by
  have ld := Lib.hid (fun k => (h.drewN k).swap v 1 0 hv t2)
  rw [decide_eq_true hx] at ld
  unfold spanV at ld
  obtain ⟨c0, c1, c2, c3, c4⟩ := h.op.c
  obtain ⟨d0, d1, d2⟩ := h.bel.c
  clear h hx hv t2
  generalize (doAcc L (.swap (b + v) 1 0)).1 = L2 at *
  go_enter Try.func79, Try.ntmps79
  go_wp2
  go_region_held3 (fun w' => w'.cell? ⟨ob, 0, none⟩ = some (.pointer (some ⟨dq, 0, none⟩)) ∧ w'.cell? ⟨ob, 2, none⟩ = some (.int .i64 (v : Int)) ∧ w'.cell? ⟨dq, 0, none⟩ = some (.pointer (some ⟨hb, 0, none⟩)) ∧ w'.cell? ⟨dq, 1, none⟩ = some (.int .i64 (b : Int)))
    (first | exact ⟨c0, c2, d0, d1⟩ | exact ⟨k0, k2, e0, e1⟩ | go_keep)
    ((go_at_call 91; refine (ld.out _).mono ?_; rintro e w2 ⟨rfl, s2⟩; obtain ⟨k0, k1, k2, k3, k4⟩ := s2.op.c; obtain ⟨f1, f2, f3, f4⟩ := s2.op.f; obtain ⟨e0, e1, e2⟩ := s2.bel.c))
  go_wp2
  refine bodyPost_ret (results_none rfl _ _ _) rfl ?_
  exact ⟨rfl, (s2.setOc 7).setWho v⟩
set_option maxHeartbeats 2000000 in
theorem rouse_end (v : Nat) (h : St w0 w ob dq hb rb b n nx (v : Int) 0 who L t) (hv : v + 1 = n) (hx : ¬ L.getD (b + v) 0 = 1) (t2 : t + 1 < 4611686018427387000) :
    Calls Try.prog 79 #[.pointer (some ⟨ob, 0, none⟩)] w fun e w' => e = .returned (.tuple #[]) ∧ St w0 w' ob dq hb rb b n nx (n : Int) 4 who (doAcc L (.swap (b + v) 1 0)).1 (t + 1) := by
  have ld := Lib.hid (fun k => (h.drewN k).swap v 1 0 (by omega) t2)
  rw [decide_eq_false hx] at ld
  generalize (doAcc L (.swap (b + v) 1 0)).1 = L2 at *
  have on := Lib.hid (fun w' (q : St w0 w' ob dq hb rb b n nx (v : Int) 0 who L2 (t + 1)) => ringOn_end q (by omega) (by omega))
  unfold spanV at ld
  obtain ⟨c0, c1, c2, c3, c4⟩ := h.op.c
  obtain ⟨d0, d1, d2⟩ := h.bel.c
  clear h hx hv t2
  go_enter Try.func79, Try.ntmps79
  go_wp2
  go_region_held3 (fun w' => w'.cell? ⟨ob, 0, none⟩ = some (.pointer (some ⟨dq, 0, none⟩)) ∧ w'.cell? ⟨ob, 2, none⟩ = some (.int .i64 (v : Int)) ∧ w'.cell? ⟨dq, 0, none⟩ = some (.pointer (some ⟨hb, 0, none⟩)) ∧ w'.cell? ⟨dq, 1, none⟩ = some (.int .i64 (b : Int)))
    (first | exact ⟨c0, c2, d0, d1⟩ | exact ⟨k0, k2, e0, e1⟩ | go_keep)
    ((go_at_call 91; refine (ld.out _).mono ?_; rintro e w2 ⟨rfl, s2⟩; obtain ⟨k0, k1, k2, k3, k4⟩ := s2.op.c; obtain ⟨f1, f2, f3, f4⟩ := s2.op.f; obtain ⟨e0, e1, e2⟩ := s2.bel.c))
  go_wp2_with (go_at_call 80; refine (on.out _ s2).mono ?_; rintro e w3 ⟨rfl, s3⟩)
  go_end0
  exact ⟨rfl, s3⟩
set_option maxHeartbeats 2000000 in
theorem rouse_on (v : Nat) (h : St w0 w ob dq hb rb b n nx (v : Int) 0 who L t) (hv : v + 1 < n) (hx : ¬ L.getD (b + v) 0 = 1) (t2 : t + 1 < 4611686018427387000) :
    Calls Try.prog 79 #[.pointer (some ⟨ob, 0, none⟩)] w fun e w' => e = .returned (.tuple #[]) ∧ St w0 w' ob dq hb rb b n (me 52) ((v + 1 : Nat) : Int) 0 who (doAcc L (.swap (b + v) 1 0)).1 (t + 1) := by
  have ld := Lib.hid (fun k => (h.drewN k).swap v 1 0 (by omega) t2)
  rw [decide_eq_false hx] at ld
  generalize (doAcc L (.swap (b + v) 1 0)).1 = L2 at *
  have on := Lib.hid (fun w' (q : St w0 w' ob dq hb rb b n nx (v : Int) 0 who L2 (t + 1)) => ringOn_on q v rfl hv)
  unfold spanV at ld
  obtain ⟨c0, c1, c2, c3, c4⟩ := h.op.c
  obtain ⟨d0, d1, d2⟩ := h.bel.c
  clear h hx hv t2
  go_enter Try.func79, Try.ntmps79
  go_wp2
  go_region_held3 (fun w' => w'.cell? ⟨ob, 0, none⟩ = some (.pointer (some ⟨dq, 0, none⟩)) ∧ w'.cell? ⟨ob, 2, none⟩ = some (.int .i64 (v : Int)) ∧ w'.cell? ⟨dq, 0, none⟩ = some (.pointer (some ⟨hb, 0, none⟩)) ∧ w'.cell? ⟨dq, 1, none⟩ = some (.int .i64 (b : Int)))
    (first | exact ⟨c0, c2, d0, d1⟩ | exact ⟨k0, k2, e0, e1⟩ | go_keep)
    ((go_at_call 91; refine (ld.out _).mono ?_; rintro e w2 ⟨rfl, s2⟩; obtain ⟨k0, k1, k2, k3, k4⟩ := s2.op.c; obtain ⟨f1, f2, f3, f4⟩ := s2.op.f; obtain ⟨e0, e1, e2⟩ := s2.bel.c))
  go_wp2_with (go_at_call 80; refine (on.out _ s2).mono ?_; rintro e w3 ⟨rfl, s3⟩)
  go_end0
  exact ⟨rfl, s3⟩

theorem St.storeC (h : St w0 w ob dq hb rb b n nx at_ oc who L t) {v cb cw : Nat} (hk : Cap w dq v cb cw) (a1 : ¬ Blk hb rb cb) (a2 : ¬ Blk hb rb cw) (x : Int) (hv : v < n) (t2 : t + 1 < 4611686018427387000) :
    Calls Try.prog 45 #[spanV hb b, .int .i64 (v : Int), .int .u64 x] w fun e w' => e = .returned (.tuple #[]) ∧ St w0 w' ob dq hb rb b n nx at_ oc who (L.set (b + v) x) (t + 1) ∧ Cap w' dq v cb cw := by
  have hu := h.ub; have hc := h.uc; have hl := h.len
  refine (sstore_any h.mem v (b + v) x (by omega) (by omega) (by omega) (by omega) (by omega) h.t0 (by have := h.t1; omega)).mono ?_
  rintro e w1 ⟨rfl, m, k⟩
  exact ⟨rfl, h.step m k (by simp) t2, hk.keep k a1 a2⟩
theorem St.loadC (h : St w0 w ob dq hb rb b n nx at_ oc who L t) {v cb cw : Nat} (hk : Cap w dq v cb cw) (a1 : ¬ Blk hb rb cb) (a2 : ¬ Blk hb rb cw) (hv : v < n) (t2 : t + 1 < 4611686018427387000) :
    Calls Try.prog 56 #[spanV hb b, .int .i64 (v : Int)] w fun e w' => e = .returned (.int .u64 (L.getD (b + v) 0)) ∧ St w0 w' ob dq hb rb b n nx at_ oc who L (t + 1) ∧ Cap w' dq v cb cw := by
  have hu := h.ub; have hc := h.uc; have hl := h.len
  refine (sload_any h.mem v (b + v) (by omega) (by omega) (by omega) (by omega) (by omega) h.t0 (by have := h.t1; omega)).mono ?_
  rintro e w1 ⟨rfl, m, k⟩
  exact ⟨rfl, h.step m k rfl t2, hk.keep k a1 a2⟩
theorem Cap.drewN {v cb cw : Nat} (h : Cap w dq v cb cw) (k : Nat) : Cap (w.drewN k) dq v cb cw := ⟨h.hb, h.hw⟩
set_option maxHeartbeats 2000000 in
theorem clo_sleep (v cb cw : Nat) (h : St w0 w ob dq hb rb b n nx at_ 0 who L t) (hk : Cap w dq v cb cw) (a1 : ¬ OB hb rb ob cb) (a2 : ¬ OB hb rb ob cw) (hv : v < n) (t2 : t + 1 < 4611686018427387000) :
    Calls Try.prog 54 #[.pointer (some ⟨ob, 0, none⟩), .pointer (some ⟨cb, 0, none⟩), .pointer (some ⟨cw, 0, none⟩)] w fun e w' => e = .returned (.tuple #[]) ∧ St w0 w' ob dq hb rb b n nx at_ 1 who (L.set (b + v) 1) (t + 1) := by
  have ld := Lib.hid (fun k => (h.drewN k).storeC (hk.drewN k) (fun x => a1 (.inl x)) (fun x => a2 (.inl x)) 1 hv t2)
  unfold spanV at ld
  obtain ⟨c0, c1, c2, c3, c4⟩ := h.op.c
  obtain ⟨d0, d1, d2⟩ := h.bel.c
  obtain ⟨p0, p1⟩ := hk.c
  clear h hv t2 hk a1 a2
  generalize L.set (b + v) 1 = L2 at *
  go_enter Try.func54, Try.ntmps54
  go_wp2
  go_region_held3 (fun w' => w'.cell? ⟨cb, 0, none⟩ = some (.pointer (some ⟨dq, 0, none⟩)) ∧ w'.cell? ⟨cw, 0, none⟩ = some (.int .i64 (v : Int)) ∧ w'.cell? ⟨dq, 0, none⟩ = some (.pointer (some ⟨hb, 0, none⟩)) ∧ w'.cell? ⟨dq, 1, none⟩ = some (.int .i64 (b : Int)))
    (first | exact ⟨p0, p1, d0, d1⟩ | exact ⟨r0, r1, e0, e1⟩ | go_keep)
    ((go_at_call 45; refine (ld.out _).mono ?_; rintro e w2 ⟨rfl, s2, cp⟩; obtain ⟨k0, k1, k2, k3, k4⟩ := s2.op.c; obtain ⟨f1, f2, f3, f4⟩ := s2.op.f; obtain ⟨e0, e1, e2⟩ := s2.bel.c; obtain ⟨r0, r1⟩ := cp.c))
  go_wp2
  go_end0
  exact ⟨rfl, s2.setOc 1⟩
set_option maxHeartbeats 2000000 in
theorem clo_up (v cb cw : Nat) (h : St w0 w ob dq hb rb b n nx at_ 0 who L t) (hk : Cap w dq v cb cw) (a1 : ¬ OB hb rb ob cb) (a2 : ¬ OB hb rb ob cw) (hv : v < n) (t2 : t + 1 < 4611686018427387000) :
    Calls Try.prog 74 #[.pointer (some ⟨ob, 0, none⟩), .pointer (some ⟨cb, 0, none⟩), .pointer (some ⟨cw, 0, none⟩)] w fun e w' => e = .returned (.tuple #[]) ∧ St w0 w' ob dq hb rb b n nx at_ 1 who (L.set (b + v) 0) (t + 1) := by
  have ld := Lib.hid (fun k => (h.drewN k).storeC (hk.drewN k) (fun x => a1 (.inl x)) (fun x => a2 (.inl x)) 0 hv t2)
  unfold spanV at ld
  obtain ⟨c0, c1, c2, c3, c4⟩ := h.op.c
  obtain ⟨d0, d1, d2⟩ := h.bel.c
  obtain ⟨p0, p1⟩ := hk.c
  clear h hv t2 hk a1 a2
  generalize L.set (b + v) 0 = L2 at *
  go_enter Try.func74, Try.ntmps74
  go_wp2
  go_region_held3 (fun w' => w'.cell? ⟨cb, 0, none⟩ = some (.pointer (some ⟨dq, 0, none⟩)) ∧ w'.cell? ⟨cw, 0, none⟩ = some (.int .i64 (v : Int)) ∧ w'.cell? ⟨dq, 0, none⟩ = some (.pointer (some ⟨hb, 0, none⟩)) ∧ w'.cell? ⟨dq, 1, none⟩ = some (.int .i64 (b : Int)))
    (first | exact ⟨p0, p1, d0, d1⟩ | exact ⟨r0, r1, e0, e1⟩ | go_keep)
    ((go_at_call 45; refine (ld.out _).mono ?_; rintro e w2 ⟨rfl, s2, cp⟩; obtain ⟨k0, k1, k2, k3, k4⟩ := s2.op.c; obtain ⟨f1, f2, f3, f4⟩ := s2.op.f; obtain ⟨e0, e1, e2⟩ := s2.bel.c; obtain ⟨r0, r1⟩ := cp.c))
  go_wp2
  go_end0
  exact ⟨rfl, s2.setOc 1⟩
set_option maxHeartbeats 2000000 in
theorem clo_poll_yes (v cb cw : Nat) (h : St w0 w ob dq hb rb b n nx at_ 0 who L t) (hk : Cap w dq v cb cw) (a1 : ¬ OB hb rb ob cb) (a2 : ¬ OB hb rb ob cw) (hv : v < n) (hx : L.getD (b + v) 0 = 0) (t2 : t + 1 < 4611686018427387000) :
    Calls Try.prog 55 #[.pointer (some ⟨ob, 0, none⟩), .pointer (some ⟨cb, 0, none⟩), .pointer (some ⟨cw, 0, none⟩)] w fun e w' => e = .returned (.tuple #[]) ∧ St w0 w' ob dq hb rb b n nx at_ 1 who L (t + 1) := by
  have hk2 := hk.keep ((Only.refl (fun k => k = ob) w).setCell (p := ⟨ob, 3, none⟩) rfl (.int .i64 4)) (fun x => a1 (.inr x)) (fun x => a2 (.inr x))
  have ld := Lib.hid (fun k => ((h.setOc 4).drewN k).loadC (hk2.drewN k) (fun x => a1 (.inl x)) (fun x => a2 (.inl x)) hv t2)
  unfold spanV at ld
  rw [hx] at ld
  clear hx
  obtain ⟨c0, c1, c2, c3, c4⟩ := h.op.c
  obtain ⟨f1, f2, f3, f4⟩ := h.op.f
  obtain ⟨d0, d1, d2⟩ := (h.setOc 4).bel.c
  obtain ⟨p0, p1⟩ := hk2.c
  clear h hv t2 hk a1 a2 hk2
  go_enter Try.func55, Try.ntmps55
  go_wp2
  go_region_held3 (fun w' => w'.cell? ⟨cb, 0, none⟩ = some (.pointer (some ⟨dq, 0, none⟩)) ∧ w'.cell? ⟨cw, 0, none⟩ = some (.int .i64 (v : Int)) ∧ w'.cell? ⟨dq, 0, none⟩ = some (.pointer (some ⟨hb, 0, none⟩)) ∧ w'.cell? ⟨dq, 1, none⟩ = some (.int .i64 (b : Int)))
    (first | exact ⟨p0, p1, d0, d1⟩ | exact ⟨r0, r1, e0, e1⟩ | go_keep)
    ((go_at_call 56; refine (ld.out _).mono ?_; rintro e w2 ⟨rfl, s2, cp⟩; obtain ⟨k0, k1, k2, k3, k4⟩ := s2.op.c; obtain ⟨g1, g2, g3, g4⟩ := s2.op.f; obtain ⟨e0, e1, e2⟩ := s2.bel.c; obtain ⟨r0, r1⟩ := cp.c))
  go_wp2
  go_end0
  exact ⟨rfl, s2.setOc 1⟩
set_option maxHeartbeats 2000000 in
theorem clo_poll_no (v cb cw : Nat) (h : St w0 w ob dq hb rb b n nx at_ 0 who L t) (hk : Cap w dq v cb cw) (a1 : ¬ OB hb rb ob cb) (a2 : ¬ OB hb rb ob cw) (hv : v < n) (hx : ¬ L.getD (b + v) 0 = 0) (t2 : t + 1 < 4611686018427387000) :
    Calls Try.prog 55 #[.pointer (some ⟨ob, 0, none⟩), .pointer (some ⟨cb, 0, none⟩), .pointer (some ⟨cw, 0, none⟩)] w fun e w' => e = .returned (.tuple #[]) ∧ St w0 w' ob dq hb rb b n nx at_ 4 who L (t + 1) := by
  have hk2 := hk.keep ((Only.refl (fun k => k = ob) w).setCell (p := ⟨ob, 3, none⟩) rfl (.int .i64 4)) (fun x => a1 (.inr x)) (fun x => a2 (.inr x))
  have ld := Lib.hid (fun k => ((h.setOc 4).drewN k).loadC (hk2.drewN k) (fun x => a1 (.inl x)) (fun x => a2 (.inl x)) hv t2)
  unfold spanV at ld
  generalize L.getD (b + v) 0 = x at *
  have hx2 : (x == 0) = false := by simpa using hx
  clear hx
  obtain ⟨c0, c1, c2, c3, c4⟩ := h.op.c
  obtain ⟨f1, f2, f3, f4⟩ := h.op.f
  obtain ⟨d0, d1, d2⟩ := (h.setOc 4).bel.c
  obtain ⟨p0, p1⟩ := hk2.c
  clear h hv t2 hk a1 a2 hk2
  go_enter Try.func55, Try.ntmps55
  go_wp2
  go_region_held3 (fun w' => w'.cell? ⟨cb, 0, none⟩ = some (.pointer (some ⟨dq, 0, none⟩)) ∧ w'.cell? ⟨cw, 0, none⟩ = some (.int .i64 (v : Int)) ∧ w'.cell? ⟨dq, 0, none⟩ = some (.pointer (some ⟨hb, 0, none⟩)) ∧ w'.cell? ⟨dq, 1, none⟩ = some (.int .i64 (b : Int)))
    (first | exact ⟨p0, p1, d0, d1⟩ | exact ⟨r0, r1, e0, e1⟩ | go_keep)
    ((go_at_call 56; refine (ld.out _).mono ?_; rintro e w2 ⟨rfl, s2, cp⟩; obtain ⟨k0, k1, k2, k3, k4⟩ := s2.op.c; obtain ⟨g1, g2, g3, g4⟩ := s2.op.f; obtain ⟨e0, e1, e2⟩ := s2.bel.c; obtain ⟨r0, r1⟩ := cp.c))
  go_wp2
  go_end0
  exact ⟨rfl, s2⟩
end
end Go.Proofs.Ytfhbgabblegecaa.Bl
