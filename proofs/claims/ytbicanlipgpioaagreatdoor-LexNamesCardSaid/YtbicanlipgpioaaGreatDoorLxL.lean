/- lex: find, Code, At: of nil, of a fault, of an api.Errno. -/
import Derived.Test.YtbicanlipgpioaaGreatDoorLxK
namespace Go.Proofs.YtbicanlipgpioaaGreatDoor.Lx
open Go.RowKit Go.Proofs.YtbicanlipgpioaaGreatDoor Go.Extern.Stop Go.Stop Go.Extern

/-- find's own variable in a block of its own. -/
structure Fv (w : World) (B : Nat) (w' : World) (p : Option Addr) : Prop where
  old : w.heap.size = B
  only : Only Nil w w'
  cell : w'.cell? ⟨B, 0, none⟩ = some (.pointer p)
  free : w'.frozen? ⟨B, 0, none⟩ = false
theorem fv_new (w : World) : Fv w w.heap.size (w.alloc (.cells #[.pointer none] 37)) none := by
  have h := heap_new w (.cells #[.pointer none] 37)
  exact ⟨rfl, (Only.refl Nil w).alloc _, by simp only [World.cell?, h]; rfl, by simp only [World.frozen?, h]; rfl⟩
theorem Fv.keep {w w1 w2 : World} {B : Nat} {p : Option Addr} (h : Fv w B w1 p) (o : Only Nil w1 w2) : Fv w B w2 p :=
  ⟨h.old, h.only.trans o, only_cell o h.cell, only_frozen o (cell_lt h.cell) h.free⟩
theorem Fv.turn {w w1 w2 : World} {B : Nat} {p p' : Option Addr} (h : Fv w B w1 p) (o : Only (fun q => q = B) w1 w2) (hc : w2.cell? ⟨B, 0, none⟩ = some (.pointer p')) (hf : w2.frozen? ⟨B, 0, none⟩ = false) : Fv w B w2 p' :=
  ⟨h.old, h.only.then o (fun q hq hlt => by have := h.old; omega), hc, hf⟩
theorem Fv.set {w w1 : World} {B : Nat} {p : Option Addr} (h : Fv w B w1 p) (p' : Option Addr) : Fv w B (w1.setCell ⟨B, 0, none⟩ (.pointer p')) p' :=
  h.turn ((Only.refl (fun q => q = B) w1).setCell rfl _) (World.cell?_setCell_same _ _ _ h.cell) (by rw [World.frozen?_setCell]; exact h.free)

set_option maxHeartbeats 1000000 in
theorem find_nil (w : World) (hE : Env w) : Calls Tryz.prog 16 #[.nilIface] w fun e w' => e = .returned (.pointer none) ∧ Only Nil w w' := by
  have hmf : ∀ (fn : Fn) (first cap : Array Value) (w : World), (Instr.makeFunc fn first cap).run Tryz.prog w = .ok (.func fn first cap) w := fun _ _ _ _ => rfl
  have HB := Lib.hid (fv_new w)
  obtain ⟨wB, hwB⟩ : ∃ wB, wB = w.alloc (.cells #[.pointer none] 37) := ⟨_, rfl⟩
  rw [← hwB] at HB
  have HE := Lib.hid (hE.keep HB.out.only)
  clear hE
  generalize hO : w.heap.size = B at HB
  have HO := Lib.hid hO
  clear hO
  have c0 := HB.out.cell
  have f0 := HB.out.free
  go_enter_defers Tryz.func16, Tryz.ntmps16
  go_upto_region 1 with (fail)
  rw [HO.out, ← hwB]; clear hwB
  go_wp2_with (go_at_call 27; refine (as_nil _ _).mono ?_; rintro e w1 ⟨rfl, rfl⟩)
  refine leaves_cons (f := 26) (args := #[.pointer (some ⟨B, 0, none⟩)]) (by simp) (by simp [go_sem]) ?_
  refine (catch_idle ⟨B, 0, none⟩ _).mono ?_
  rintro e u' w'' ⟨rfl, rfl, rfl⟩
  have H2 := HB.out.set none
  have c2 := H2.cell
  have o2 := H2.only
  simp [Leaves, settle, results, Tryz.results16, go_sem, c2, o2]

set_option maxHeartbeats 1000000 in
theorem find_fault (p : Addr) (w : World) (hE : Env w) : Calls Tryz.prog 16 #[.iface 37 (.pointer (some p))] w fun e w' => e = .returned (.pointer (some p)) ∧ Only Nil w w' := by
  have hmf : ∀ (fn : Fn) (first cap : Array Value) (w : World), (Instr.makeFunc fn first cap).run Tryz.prog w = .ok (.func fn first cap) w := fun _ _ _ _ => rfl
  have HB := Lib.hid (fv_new w)
  obtain ⟨wB, hwB⟩ : ∃ wB, wB = w.alloc (.cells #[.pointer none] 37) := ⟨_, rfl⟩
  rw [← hwB] at HB
  have HE := Lib.hid (hE.keep HB.out.only)
  clear hE
  generalize hO : w.heap.size = B at HB
  have HO := Lib.hid hO
  clear hO
  have c0 := HB.out.cell
  have f0 := HB.out.free
  go_enter_defers Tryz.func16, Tryz.ntmps16
  go_upto_region 1 with (fail)
  rw [HO.out, ← hwB]; clear hwB
  go_wp2_with (go_at_call 27; refine (as_fault p B _ HE.out HB.out.cell HB.out.free).mono ?_; rintro e w1 ⟨rfl, c1, f1, o1⟩)
  refine leaves_cons (f := 26) (args := #[.pointer (some ⟨B, 0, none⟩)]) (by simp) (by simp [go_sem]) ?_
  refine (catch_idle ⟨B, 0, none⟩ _).mono ?_
  rintro e u' w'' ⟨rfl, rfl, rfl⟩
  have H2 := (HB.out.turn o1 c1 f1).set (some p)
  have c2 := H2.cell
  have o2 := H2.only
  simp [Leaves, settle, results, Tryz.results16, go_sem, c2, o2]

set_option maxHeartbeats 1000000 in
theorem find_errno (z : Int) (w : World) (hE : Env w) : Calls Tryz.prog 16 #[.iface 30 (.int .i64 z)] w fun e w' => e = .returned (.pointer none) ∧ Only Nil w w' := by
  have hmf : ∀ (fn : Fn) (first cap : Array Value) (w : World), (Instr.makeFunc fn first cap).run Tryz.prog w = .ok (.func fn first cap) w := fun _ _ _ _ => rfl
  have HB := Lib.hid (fv_new w)
  obtain ⟨wB, hwB⟩ : ∃ wB, wB = w.alloc (.cells #[.pointer none] 37) := ⟨_, rfl⟩
  rw [← hwB] at HB
  have HE := Lib.hid (hE.keep HB.out.only)
  clear hE
  generalize hO : w.heap.size = B at HB
  have HO := Lib.hid hO
  clear hO
  have c0 := HB.out.cell
  have f0 := HB.out.free
  go_enter_defers Tryz.func16, Tryz.ntmps16
  go_upto_region 1 with (fail)
  rw [HO.out, ← hwB]; clear hwB
  go_wp2_with (go_at_call 27; refine (as_errno z B _ HE.out).mono ?_; rintro e w1 ⟨rfl, o1⟩; have B1 := Lib.hid (HB.out.keep o1); have c1 := B1.out.cell; have f1 := B1.out.free)
  refine leaves_cons (f := 26) (args := #[.pointer (some ⟨B, 0, none⟩)]) (by simp) (by simp [go_sem]) ?_
  refine (catch_idle ⟨B, 0, none⟩ _).mono ?_
  rintro e u' w'' ⟨rfl, rfl, rfl⟩
  have H2 := B1.out.set none
  have c2 := H2.cell
  have o2 := H2.only
  simp [Leaves, settle, results, Tryz.results16, go_sem, c2, o2]

/-- A fault lies at b. -/
structure Ft (w : World) (b : Nat) (c q : Int) : Prop where
  code : w.cell? ⟨b, 0, none⟩ = some (.int .i64 c)
  place : w.cell? ⟨b, 1, none⟩ = some (.int .i64 q)
theorem Ft.keep {w w' : World} {b : Nat} {c q : Int} (h : Ft w b c q) (o : Only Nil w w') : Ft w' b c q := ⟨only_cell o h.code, only_cell o h.place⟩
theorem code_nil (w : World) : Calls Tryz.prog 8 #[.nilIface] w fun e w' => e = .returned (.int .i64 0) ∧ Only Nil w w' := by
  go_enter Tryz.func8, Tryz.ntmps8
  go_wp2
  go_ret
  exact ⟨rfl, Only.refl _ _⟩
theorem code_fault (b : Nat) (c q : Int) (w : World) (h : Ft w b c q) (hE : Env w) : Calls Tryz.prog 8 #[.iface 37 (.pointer (some ⟨b, 0, none⟩))] w fun e w' => e = .returned (.int .i64 c) ∧ Only Nil w w' := by
  have HF := Lib.hid h
  have HE := Lib.hid hE
  clear h hE
  go_enter Tryz.func8, Tryz.ntmps8
  go_wp2_with (go_at_call 16; refine (find_fault ⟨b, 0, none⟩ _ HE.out).mono ?_; rintro e w1 ⟨rfl, o1⟩; have c1 := (HF.out.keep o1).code)
  go_ret
  exact ⟨rfl, o1⟩
theorem code_errno (z : Int) (w : World) (hE : Env w) : Calls Tryz.prog 8 #[.iface 30 (.int .i64 z)] w fun e w' => e = .returned (.int .i64 1) ∧ Only Nil w w' := by
  have HE := Lib.hid hE
  clear hE
  go_enter Tryz.func8, Tryz.ntmps8
  go_wp2_with (go_at_call 16; refine (find_errno z _ HE.out).mono ?_; rintro e w1 ⟨rfl, o1⟩)
  go_ret
  exact ⟨rfl, o1⟩
theorem at_nil (w : World) (hE : Env w) : Calls Tryz.prog 9 #[.nilIface] w fun e w' => e = .returned (.int .i64 (-1)) ∧ Only Nil w w' := by
  have HE := Lib.hid hE
  clear hE
  go_enter Tryz.func9, Tryz.ntmps9
  go_wp2_with (go_at_call 16; refine (find_nil _ HE.out).mono ?_; rintro e w1 ⟨rfl, o1⟩)
  go_ret
  exact ⟨rfl, o1⟩
theorem at_fault (b : Nat) (c q : Int) (w : World) (h : Ft w b c q) (hE : Env w) : Calls Tryz.prog 9 #[.iface 37 (.pointer (some ⟨b, 0, none⟩))] w fun e w' => e = .returned (.int .i64 q) ∧ Only Nil w w' := by
  have HF := Lib.hid h
  have HE := Lib.hid hE
  clear h hE
  go_enter Tryz.func9, Tryz.ntmps9
  go_wp2_with (go_at_call 16; refine (find_fault ⟨b, 0, none⟩ _ HE.out).mono ?_; rintro e w1 ⟨rfl, o1⟩; have c1 := (HF.out.keep o1).place)
  go_ret
  exact ⟨rfl, o1⟩
theorem at_errno (z : Int) (w : World) (hE : Env w) : Calls Tryz.prog 9 #[.iface 30 (.int .i64 z)] w fun e w' => e = .returned (.int .i64 (-1)) ∧ Only Nil w w' := by
  have HE := Lib.hid hE
  clear hE
  go_enter Tryz.func9, Tryz.ntmps9
  go_wp2_with (go_at_call 16; refine (find_errno z _ HE.out).mono ?_; rintro e w1 ⟨rfl, o1⟩)
  go_ret
  exact ⟨rfl, o1⟩
end Go.Proofs.YtbicanlipgpioaaGreatDoor.Lx
