/- lex: contracts: strings.Cut at the end of a line; skip; the word at a text's beginning. -/
import Derived.Test.YtbicanlipgpioaaGreatDoorLxC
import Derived.Laws.RangeString
import Derived.Laws.RangeAny
import Derived.Shelf.Abstract
namespace Go.Proofs.YtbicanlipgpioaaGreatDoor.Lx
open Go.RowKit Go.Proofs.YtbicanlipgpioaaGreatDoor Go.Shelf

theorem bs_extract (l : List UInt8) (a b : Nat) : (bs l).extract a b = bs ((l.take b).drop a) := by
  have : ((bs l).extract a b).data.toList = (l.take b).drop a := by simp [bs, List.drop_take]
  rw [← this, bs_of]
theorem cut_none (l : List UInt8) (w : World) (h : Lib.indexByte l 10 = -1) : Calls Tryz.prog 35 #[.string (bs l), .string ⟨#[10]⟩] w fun e w' => e = .returned (.tuple #[.string (bs l), .string ⟨#[]⟩, .bool false]) ∧ w = w' := by
  go_enter Tryz.func35, Tryz.ntmps35
  go_wp2_with (go_at_call 46; refine (index_any l _).mono ?_; rintro e w' ⟨rfl, rfl⟩; rw [h])
  go_ret3
  exact ⟨rfl, rfl⟩
theorem cut_some (l : List UInt8) (i : Nat) (w : World) (h : Lib.indexByte l 10 = i) (hi : i < l.length) (hl : l.length ≤ 16384) : Calls Tryz.prog 35 #[.string (bs l), .string ⟨#[10]⟩] w fun e w' => e = .returned (.tuple #[.string (bs (l.take i)), .string (bs (l.drop (i + 1))), .bool true]) ∧ Only Nil w w' := by
  have H := Lib.hid h
  clear h
  have hs : (bs l).size = l.length := bs_size l
  go_enter Tryz.func35, Tryz.ntmps35
  go_wp2_with (go_at_call 46; refine (index_any l _).mono ?_; rintro e w' ⟨rfl, rfl⟩; rw [H.out])
  go_quiet (fail)
  go_wp2
  go_ret3
  refine ⟨?_, (Only.refl _ _).drewN _⟩
  have e1 : (l.take i).drop 0 = l.take i := rfl
  simp only [bs_extract, e1]
  rw [List.take_length]
  rfl
/-- strings.Cut at the end of a line: what is ahead of it, and whether there is one. -/
def ahead (l : List UInt8) : ByteArray := if Lib.indexByte l 10 = -1 then bs l else bs (l.take (Lib.indexByte l 10).toNat)
def found (l : List UInt8) : Bool := !(Lib.indexByte l 10 == -1)
theorem cut_any (l : List UInt8) (w : World) (hl : l.length ≤ 16384) : Calls Tryz.prog 21 #[.string (bs l), .string ⟨#[10]⟩] w fun e w' => e = .returned (.tuple #[.string (ahead l), .string (bs (nl l)), .bool (found l)]) ∧ Only Nil w w' := by
  have hge := Lib.indexByte_ge l 10
  by_cases h : Lib.indexByte l 10 = -1
  · have e1 : ahead l = bs l := if_pos h
    have e2 : bs (nl l) = ⟨#[]⟩ := by rw [nl_eq, if_pos h]; rfl
    have e3 : found l = false := by simp [found, h]
    rw [e1, e2, e3]
    clear e1 e2 e3 hge
    have H := Lib.hid h
    clear h
    go_enter Tryz.func21, Tryz.ntmps21
    go_wp2_with (go_at_call 35; refine (cut_none l _ H.out).mono ?_; rintro e w' ⟨rfl, rfl⟩)
    go_ret3
    exact ⟨rfl, Only.refl _ _⟩
  · obtain ⟨i, hi⟩ : ∃ i : Nat, Lib.indexByte l 10 = i := ⟨(Lib.indexByte l 10).toNat, by omega⟩
    have hlt : i < l.length := by
      have := (Lib.indexByte_some hi).1
      exact (List.getElem?_eq_some_iff.1 this).1
    have e1 : ahead l = bs (l.take i) := by rw [ahead, if_neg h, hi]; rfl
    have e2 : bs (nl l) = bs (l.drop (i + 1)) := by rw [nl_eq, if_neg h, hi]; rfl
    have e3 : found l = true := by simp [found, h]
    rw [e1, e2, e3]
    clear e1 e2 e3 hge h
    have H := Lib.hid hi
    clear hi
    go_enter Tryz.func21, Tryz.ntmps21
    go_wp2_with (go_at_call 35; refine (cut_some l i _ H.out hlt hl).mono ?_; rintro e w' ⟨rfl, o⟩)
    go_ret3
    exact ⟨rfl, o⟩

theorem nl_le (l : List UInt8) : (nl l).length ≤ l.length := by
  induction l with
  | nil => simp [nl]
  | cons c r ih => rw [nl_c]; split <;> simp <;> omega
/-- Nothing blank stands first. -/
def Trim (l : List UInt8) : Prop := l.dropWhile isBl = l
theorem trim_trim (l : List UInt8) : Trim (l.dropWhile isBl) := by
  induction l with
  | nil => rfl
  | cons c r ih =>
    rw [List.dropWhile_cons]
    split
    · exact ih
    · rename_i h; simp [Trim, h]
theorem sk_of_trim {l : List UInt8} (h : Trim l) (hp : Lib.hasPrefix l [35] = false) : sk false l = l := by
  cases l with
  | nil => rfl
  | cons c r =>
    have h1 : isBl c = false := by
      cases hb : isBl c with
      | false => rfl
      | true =>
        unfold Trim at h
        rw [List.dropWhile_cons, if_pos hb] at h
        have := congrArg List.length h
        have h2 := (List.dropWhile_suffix (l := r) isBl).length_le
        simp at this; omega
    refine sk_stays h1 ?_
    have e : Lib.hasPrefix (c :: r) [35] = (35 == c) := by simp [Lib.hasPrefix, List.isPrefixOf]
    rw [e] at hp
    have : ¬ (35 : UInt8) = c := by simpa using hp
    simpa using fun hc => this (Eq.symm hc)
theorem hash_of {l : List UInt8} (hp : Lib.hasPrefix l [35] = true) : ∃ r, l = 35 :: r := by
  cases l with
  | nil => simp [Lib.hasPrefix, List.isPrefixOf] at hp
  | cons c r =>
    have e : Lib.hasPrefix (c :: r) [35] = (35 == c) := by simp [Lib.hasPrefix, List.isPrefixOf]
    rw [e] at hp
    have : (35 : UInt8) = c := by simpa using hp
    exact ⟨r, by rw [← this]⟩

set_option maxHeartbeats 1000000 in
theorem skip_any (l : List UInt8) (w : World) (hl : l.length ≤ 16384) : Calls Tryz.prog 13 #[.string (bs l)] w fun e w' => e = .returned (.string (bs (sk false l))) ∧ Only Nil w w' := by
  go_enter Tryz.func13, Tryz.ntmps13
  go_wp2_with (go_at_call 19; refine (trim_any l _).mono ?_; rintro e w1 ⟨rfl, o1⟩)
  go_loopw [0] (fun t wr => ∃ m, t = .string (bs m) ∧ Trim m ∧ m.length ≤ 16384 ∧ sk false m = sk false l ∧ Only Nil w wr) (fun t _ => strLen t)
  case atStart =>
    refine ⟨_, rfl, trim_trim l, ?_, sk_drop l, o1⟩
    have := (List.dropWhile_suffix (l := l) isBl).length_le
    omega
  case round =>
    obtain ⟨m, rfl, hm, hlm, hs, o⟩ := hrel
    have HS := Lib.hid hs
    have HM := Lib.hid hm
    clear hs hm
    cases hp : Lib.hasPrefix m [35] with
    | true =>
      have HP := Lib.hid hp
      clear hp
      go_wp2_with (first
        | (go_at_call 20; refine (hash_any m _).mono ?_; rintro e w' ⟨rfl, rfl⟩; rw [HP.out])
        | (go_at_call 21; refine (cut_any m _ hlm).mono ?_; rintro e w2 ⟨rfl, o2⟩)
        | (go_at_call 19; refine (trim_any (nl m) _).mono ?_; rintro e w3 ⟨rfl, o3⟩))
      obtain ⟨r, hr⟩ := hash_of HP.out
      have hn : nl m = nl r := by rw [hr, nl_c, if_neg (by decide)]
      have h1 := nl_le r
      have h2 := (List.dropWhile_suffix (l := nl m) isBl).length_le
      have h3 : m.length = r.length + 1 := by rw [hr]; rfl
      have h4 : (nl m).length = (nl r).length := by rw [hn]
      go_roundw
      case rel =>
        refine ⟨_, rfl, trim_trim _, by omega, ?_, o.trans (o2.trans o3)⟩
        rw [← HS.out, sk_drop, hn, hr, sk_hash, sk_true]
      case measure =>
        show (bs _).size < (bs m).size
        rw [bs_size, bs_size]; omega
    | false =>
      have HP := Lib.hid hp
      clear hp
      go_wp2_with (go_at_call 20; refine (hash_any m _).mono ?_; rintro e w' ⟨rfl, rfl⟩; rw [HP.out])
      go_ret
      refine ⟨?_, o⟩
      rw [← HS.out, sk_of_trim HM.out HP.out]
      rfl
end Go.Proofs.YtbicanlipgpioaaGreatDoor.Lx
