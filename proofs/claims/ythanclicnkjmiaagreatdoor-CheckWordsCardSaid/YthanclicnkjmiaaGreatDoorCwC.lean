/- check: a number's words; Code, Where of a fault of any number. -/
import Derived.Test.YthanclicnkjmiaaGreatDoorCwI
import Derived.Test.YthanclicnkjmiaaGreatDoorCwB
import Derived.Laws.Concat
set_option linter.unusedVariables false
set_option linter.unusedSimpArgs false
namespace Go.Proofs.YthanclicnkjmiaaGreatDoor.Ch
open Go.RowKit Go.Proofs.YthanclicnkjmiaaGreatDoor Lx Ps

def wErr : Wd := [116, 114, 111, 117, 112, 101, 58, 32, 101, 114, 114, 111, 114, 32]
def wIn : Wd := [32, 105, 110, 32]
theorem itoa_le {n : Int} (h : inW n) : (Lib.itoa n).length ≤ 21 := Lib.itoa_length_le n h.1 h.2
theorem errno_text (z : Int) (hz : inW z) (w : World) (T : Tab w) : Calls Tryz.prog 20 #[.int .i64 z] w fun e w' => e = .returned (.string (bs (wErr ++ Lib.itoa z))) ∧ Only Nil w w' := by
  have HI := Lib.hid (itoa_any z hz w T)
  have hadd := fun w => str_add wErr (Lib.itoa z) (by have := itoa_le hz; simp [wErr]; omega) w
  have hlit : bs wErr = ⟨#[116, 114, 111, 117, 112, 101, 58, 32, 101, 114, 114, 111, 114, 32]⟩ := rfl
  rw [hlit] at hadd
  clear hlit
  clear T hz
  go_enter Tryz.func20, Tryz.ntmps20
  go_wp2_with (go_at_call 42; refine HI.out.mono ?_; rintro e w1 ⟨rfl, o1⟩; have O1 := Lib.hid o1; clear o1)
  go_ret
  exact ⟨rfl, O1.out⟩
theorem code_bad (b : Nat) (z : Int) {w : World} (hc : w.cell? ⟨b, 0, none⟩ = some (.int .i64 z)) (hE : EnvE w) : Calls Tryz.prog 16 #[.iface 46 (.pointer (some ⟨b, 0, none⟩))] w fun e w' => e = .returned (.int .i64 z) ∧ Only Nil w w' := by
  have HF := Lib.hid (find_fault ⟨b, 0, none⟩ w hE)
  have HR := Lib.hid (show ∀ w', Only Nil w w' → w'.cell? ⟨b, 0, none⟩ = some (.int .i64 z) from fun w' o => only_cell0 o hc)
  clear hc hE
  go_enter Tryz.func16, Tryz.ntmps16
  go_wp2_with (go_at_call 40; refine HF.out.mono ?_; rintro e w1 ⟨rfl, o1⟩; have c1 := HR.out _ o1)
  go_ret
  exact ⟨rfl, o1⟩
theorem where_errno (z : Int) (w : World) (hE : EnvE w) : Calls Tryz.prog 18 #[.iface 32 (.int .i64 z)] w fun e w' => e = .returned (.slice none 0 0) ∧ Only Nil w w' := by
  have HF := Lib.hid (find_errno z w hE)
  clear hE
  go_enter Tryz.func18, Tryz.ntmps18
  go_wp2_with (go_at_call 40; refine HF.out.mono ?_; rintro e w1 ⟨rfl, o1⟩)
  go_ret
  exact ⟨rfl, o1⟩
theorem where_bad (b : Nat) {w : World} {lo : Nat} {u : Value} {W : List Nat} (hc : w.cell? ⟨b, 1, none⟩ = some u) (hown : w.ownsRow lo 3 1 u W.length (intsC W)) (hnil : W = [] → u = .slice none 0 0) (hE : EnvE w) (hs : W.length ≤ 100) : Calls Tryz.prog 18 #[.iface 46 (.pointer (some ⟨b, 0, none⟩))] w fun e w' => ∃ a c, e = .returned (.slice a W.length c) ∧ w'.ownsRow w.heap.size 3 1 (.slice a W.length c) W.length (intsC W) ∧ Only Nil w w' := by
  have HF := Lib.hid (find_fault ⟨b, 0, none⟩ w hE)
  have HR := Lib.hid (show ∀ w', Only Nil w w' → w'.cell? ⟨b, 1, none⟩ = some u from fun w' o => only_cell0 o hc)
  have HC := Lib.hid (show ∀ w', Only Nil w w' → Calls Tryz.prog 41 #[u] w' fun e w'' => ∃ a c, e = .returned (.slice a W.length c) ∧ w''.ownsRow w.heap.size 3 1 (.slice a W.length c) W.length (intsC W) ∧ Only Nil w' w'' from fun w' o => by
    refine (clone_any (own_keep hown o (fun _ _ q => q.elim)) hnil (by omega)).mono fun e w'' ⟨v', h1, h2, h3⟩ => ?_
    obtain ⟨a, c, hv⟩ := own_slice_n h2
    subst hv
    exact ⟨a, c, h1, own_lower h2 o.size, h3⟩)
  obtain ⟨ua, uc, rfl⟩ := own_slice_n hown
  generalize W.length = n at *
  clear hc hE hown hnil hs
  go_enter Tryz.func18, Tryz.ntmps18
  go_wp2_with (first
    | (go_at_call 40; refine HF.out.mono ?_; rintro e w1 ⟨rfl, o1⟩; have c1 := HR.out _ o1; have O1 := Lib.hid o1)
    | (go_at_call 41; refine (HC.out _ O1.out).mono ?_; rintro e w2 ⟨a, c, rfl, h2, h3⟩; have H2 := Lib.hid h2; clear h2))
  go_ret
  exact ⟨a, c, rfl, H2.out, O1.out.trans h3⟩
end Go.Proofs.YthanclicnkjmiaaGreatDoor.Ch
