/- lex: contracts: the word at a text's beginning; tokens; first. -/
import Derived.Test.YtbicanlipgpioaaGreatDoorLxD
import Derived.Test.YtbicanlipgpioaaGreatDoorLxB
namespace Go.Proofs.YtbicanlipgpioaaGreatDoor.Lx
open Go.RowKit Go.Proofs.YtbicanlipgpioaaGreatDoor Go.Shelf

/-- How many letters, digits and _ stand first. -/
def wn (l : List UInt8) : Nat := (l.takeWhile isWd).length
theorem wn_le (l : List UInt8) : wn l ≤ l.length := (List.takeWhile_prefix isWd).length_le
theorem wn_in (l : List UInt8) (k : Nat) (h : k < wn l) : ∃ hk : k < l.length, isWd l[k] = true := by
  have hk : k < l.length := Nat.lt_of_lt_of_le h (wn_le l)
  refine ⟨hk, ?_⟩
  have hp : l.takeWhile isWd <+: l := List.takeWhile_prefix isWd
  have e : (l.takeWhile isWd)[k]'h = l[k] := hp.getElem h
  have hm : (l.takeWhile isWd)[k]'h ∈ l.takeWhile isWd := List.getElem_mem _
  rw [← e]
  exact List.all_eq_true.1 (List.all_takeWhile (l := l) (p := isWd)) _ hm
theorem wn_end (l : List UInt8) (h : wn l < l.length) : isWd l[wn l] = false := by
  induction l with
  | nil => simp at h
  | cons c r ih =>
    by_cases hc : isWd c = true
    · have e : wn (c :: r) = wn r + 1 := by simp [wn, hc]
      have h' : wn r < r.length := by simp [e] at h; exact h
      have := ih h'
      simp only [e, List.getElem_cons_succ]
      exact this
    · have e : wn (c :: r) = 0 := by simp [wn, hc]
      simp only [e, List.getElem_cons_zero]
      simpa using hc
theorem ends_low (c : UInt8) : ends (c.toNat : Int) = !isWd c := by
  have e : (((c.toNat : Nat) : Int) != 95) = !(c == 95) := by
    rw [Bool.eq_iff_iff]
    have : c = 95 ↔ c.toNat = 95 := ⟨fun h => by rw [h]; rfl, fun h => UInt8.toNat_inj.1 h⟩
    simp [this]
    omega
  unfold ends isWd isLe isDi
  rw [e]
  have h1 : decide ((97 : Int) ≤ (c.toNat : Int)) = decide (97 ≤ c.toNat) := by simp only [decide_eq_decide]; omega
  have h2 : decide ((c.toNat : Int) ≤ 122) = decide (c.toNat ≤ 122) := by simp only [decide_eq_decide]; omega
  have h3 : decide ((48 : Int) ≤ (c.toNat : Int)) = decide (48 ≤ c.toNat) := by simp only [decide_eq_decide]; omega
  have h4 : decide ((c.toNat : Int) ≤ 57) = decide (c.toNat ≤ 57) := by simp only [decide_eq_decide]; omega
  rw [h1, h2, h3, h4]
  simp
theorem ends_high (r : Int) (h : 128 ≤ r) : ends r = true := by
  have h1 : decide (r ≤ 122) = false := by simp; omega
  have h2 : decide (r ≤ 57) = false := by simp; omega
  have h3 : (r != 95) = true := by simp; omega
  simp [ends, h1, h2, h3]
theorem bs_get (l : List UInt8) (k : Nat) (h : k < (bs l).size) : (bs l)[k]'h = l[k]'(by simpa using h) := by
  exact List.getElem_toArray (by simpa using h)
theorem isWd_low {c : UInt8} (h : isWd c = true) : c.toNat < 128 := by
  simp [isWd, isLe, isDi] at h
  rcases h with (h | h) | h
  · omega
  · omega
  · subst h; decide
/-- Is this sign of a text the end of its word? -/
theorem ends_at (l : List UInt8) (k : Nat) (h : k < l.length) (hk : k ≤ wn l) : ends (Utf8.decode (bs l) k).1 = decide (wn l ≤ k) ∧ (k < wn l → (Utf8.decode (bs l) k).2 = 1) := by
  have hs : k < (bs l).size := by simpa using h
  by_cases hlt : k < wn l
  · obtain ⟨_, hw⟩ := wn_in l k hlt
    have e := decode_ascii (bs l) k hs (by rw [bs_get]; exact isWd_low hw)
    rw [e, bs_get]
    refine ⟨?_, fun _ => rfl⟩
    rw [ends_low, hw]
    simp; omega
  · have hk' : k = wn l := by omega
    refine ⟨?_, fun h => absurd h hlt⟩
    have hw : isWd l[k] = false := by subst hk'; exact wn_end l h
    by_cases ha : ((bs l)[k]'hs).toNat < 128
    · rw [decode_ascii _ _ hs ha, bs_get, ends_low]
      have e2 : (!isWd (l[k]'h)) = decide (wn l ≤ k) := by
        have : isWd (l[k]'h) = false := hw
        rw [this]
        simp; omega
      exact e2
    · rw [ends_high _ (by have := (decode_high (bs l) k hs (by omega)).1; omega)]
      simp; omega
/-- What strings.IndexFunc says. -/
def wi (l : List UInt8) : Int := if wn l < l.length then (wn l : Int) else -1

theorem only_iter {w w' : World} (h : Only Nil w w') (s : ByteArray) (k : Nat) : Only Nil w (w'.iter s k) := h.alloc _

set_option maxHeartbeats 1000000 in
theorem indexFunc_any (l : List UInt8) (w : World) : Calls Tryz.prog 42 #[.string (bs l), .func (.func 29) #[] #[], .bool true] w fun e w' => e = .returned (.int .i64 (wi l)) ∧ Only Nil w w' := by
  have eg := enters_of Tryz.func29 (by kernel_rfl) rfl
  have hz : (bs l).size = l.length := bs_size l
  go_enter Tryz.func42, Tryz.ntmps42
  go_wp2
  go_loopw [] (fun wr => ∃ k : Nat, k ≤ wn l ∧ wr = w.iter (bs l) k) (fun wr => l.length - wr.iterPos w.heap.size)
  case atStart => exact ⟨0, Nat.zero_le _, rfl⟩
  case round =>
    obtain ⟨k, hk, rfl⟩ := hrel
    by_cases hp : k < l.length
    · have hp' : k < (bs l).size := by rw [hz]; exact hp
      obtain ⟨he, h1⟩ := ends_at l k hp hk
      have hnx : ∀ ty, (Instr.next (.pointer (some ⟨w.heap.size, 0, none⟩)) true ty).run Tryz.prog (w.iter (bs l) k) = _ := fun ty => run_next_any w (bs l) k ty hp'
      generalize (Utf8.decode (bs l) k).1 = r at he hnx
      generalize (Utf8.decode (bs l) k).2 = d at h1 hnx
      have HE := Lib.hid he
      have H1 := Lib.hid h1
      clear he h1 hz
      by_cases hlt : k < wn l
      · have hd : decide (wn l ≤ k) = false := by simp; omega
        have HD := Lib.hid hd
        clear hd
        go_wp2_with (go_at_call 29; refine (word1_any r _).mono ?_; rintro e w' ⟨rfl, rfl⟩; rw [HE.out, HD.out])
        go_roundw
        case rel =>
          obtain rfl := H1.out hlt
          exact ⟨k + 1, hlt, rfl⟩
        case measure =>
          obtain rfl := H1.out hlt
          simp; omega
      · have hd : decide (wn l ≤ k) = true := by simp; omega
        have HD := Lib.hid hd
        clear hd
        go_wp2_with (go_at_call 29; refine (word1_any r _).mono ?_; rintro e w' ⟨rfl, rfl⟩; rw [HE.out, HD.out])
        go_ret
        refine ⟨?_, only_iter (Only.refl _ _) _ _⟩
        have : wn l = k := by omega
        unfold wi
        rw [this, if_pos hp]
        rfl
    · have hp' : ¬ k < (bs l).size := by rw [hz]; exact hp
      have hnx : ∀ ty, (Instr.next (.pointer (some ⟨w.heap.size, 0, none⟩)) true ty).run Tryz.prog (w.iter (bs l) k) = _ := fun ty => run_next_end w (bs l) k ty hp'
      clear hz
      go_wp2
      go_ret
      refine ⟨?_, only_iter (Only.refl _ _) _ _⟩
      have := wn_le l
      unfold wi
      rw [if_neg (by omega)]
      rfl
end Go.Proofs.YtbicanlipgpioaaGreatDoor.Lx
