/- check: looks for what is wrong: unless, each, first. -/
import Derived.Test.YthanclicnkjmiaaGreatDoorChA
import Derived.Test.YthanclicnkjmiaaGreatDoorChB
import Derived.Test.YthanclicnkjmiaaGreatDoorCtA
import Derived.Shelf.Abstract
import Derived.Laws.EntriesVeiled
set_option linter.unusedVariables false
namespace Go.Proofs.YthanclicnkjmiaaGreatDoor.Ch
open Go.RowKit Go.Proofs.YthanclicnkjmiaaGreatDoor Lx Ps

def intsC (W : List Nat) : List Value := W.map fun (n : Nat) => Value.int .i64 (n : Int)
/-- What is wrong lies at b, and its place in a row of its own; both are new. -/
structure BadAt (lo : Nat) (w : World) (b : Nat) (x : Nat × List Nat) : Prop where
  new : lo ≤ b
  row : ∃ v, w.heap[b]? = some (.cells #[.int .i64 (x.1 : Int), v] 48 (0, 0)) ∧ w.ownsRow lo 3 1 v x.2.length (intsC x.2) ∧ (x.2 = [] → v = .slice none 0 0)
theorem BadAt.keep {lo : Nat} {w w' : World} {b : Nat} {x : Nat × List Nat} (h : BadAt lo w b x) (o : Only Nil w w') : BadAt lo w' b x := by
  obtain ⟨h1, v, h2, h3, h4⟩ := h
  exact ⟨h1, v, (o.block b (lt_of_block h2) (fun q => q.elim)).trans h2, own_keep h3 o (fun _ _ q => q.elim), h4⟩
theorem own_lower {w : World} {lo lo' : Nat} {e : TypeId} {s n : Nat} {v : Value} {xs : List Value} (h : w.ownsRow lo e s v n xs) (hl : lo' ≤ lo) : w.ownsRow lo' e s v n xs := by
  refine ⟨h.1, h.2.imp id ?_⟩
  rintro ⟨g, c, cur, h1, h2, h3⟩
  exact ⟨g, c, cur, h1, Nat.le_trans hl h2, h3⟩
theorem BadAt.lower {lo lo' : Nat} {w : World} {b : Nat} {x : Nat × List Nat} (h : BadAt lo w b x) (hl : lo' ≤ lo) : BadAt lo' w b x := by
  obtain ⟨h1, v, h2, h3, h4⟩ := h
  exact ⟨Nat.le_trans hl h1, v, h2, own_lower h3 hl, h4⟩
/-- A look's answer. -/
def BadR (lo : Nat) (w : World) (e : Ending) : Fau → Prop
  | none => e = .returned (.pointer none)
  | some x => ∃ b, e = .returned (.pointer (some ⟨b, 0, none⟩)) ∧ BadAt lo w b x
theorem BadR.lower {lo lo' : Nat} {w : World} {e : Ending} {r : Fau} (h : BadR lo w e r) (hl : lo' ≤ lo) : BadR lo' w e r := by
  cases r with
  | none => exact h
  | some x => obtain ⟨b, h1, h2⟩ := h; exact ⟨b, h1, h2.lower hl⟩
theorem bad_new {w : World} {lo : Nat} (c : Nat) (h : lo ≤ w.heap.size) : BadAt lo (w.alloc (.cells #[.int .i64 (c : Int), .slice none 0 0] 48)) w.heap.size (c, []) :=
  ⟨h, _, heap_new w _, ⟨rfl, .inl ⟨rfl, rfl⟩⟩, fun _ => rfl⟩
/-- A function's value, and what a call of it comes to, in whatever world comes of w0. -/
def FnIs (w0 : World) (fv : Value) (args : Array Value) (Q : World → Ending → World → Prop) : Prop :=
  ∃ g cs cb, fv = .func (.func g) cs cb ∧ (∀ args w, (callFunc g args).run Tryz.prog w = .ok (.enter g args) w) ∧ ∀ w, Only Nil w0 w → Calls Tryz.prog g (cs ++ args ++ cb) w (Q w)
theorem FnIs.keep {w0 w : World} {fv : Value} {args : Array Value} {Q : World → Ending → World → Prop} (h : FnIs w0 fv args Q) (o : Only Nil w0 w) : FnIs w fv args Q := by
  obtain ⟨g, cs, cb, h1, h2, h3⟩ := h; exact ⟨g, cs, cb, h1, h2, fun w' o' => h3 w' (o.trans o')⟩
def LookOK (w0 : World) (fv : Value) (r : Fau) : Prop := FnIs w0 fv #[] fun w e w' => BadR w.heap.size w' e r ∧ Only Nil w w'
def TestOK (w0 : World) (fv : Value) (b : Bool) : Prop := FnIs w0 fv #[] fun w e w' => e = .returned (.bool b) ∧ Only Nil w w'
def FindOK (w0 : World) (fv : Value) (n : Nat) (f : Nat → Fau) : Prop :=
  ∃ g cs cb, fv = .func (.func g) cs cb ∧ (∀ args w, (callFunc g args).run Tryz.prog w = .ok (.enter g args) w) ∧ ∀ i w, i < n → Only Nil w0 w → Calls Tryz.prog g (cs ++ #[.int .i64 (i : Int)] ++ cb) w fun e w' => BadR w.heap.size w' e (f i) ∧ Only Nil w w'
theorem LookOK.keep {w0 w : World} {fv : Value} {r : Fau} (h : LookOK w0 fv r) (o : Only Nil w0 w) : LookOK w fv r := FnIs.keep h o
theorem TestOK.keep {w0 w : World} {fv : Value} {b : Bool} (h : TestOK w0 fv b) (o : Only Nil w0 w) : TestOK w fv b := FnIs.keep h o
theorem FindOK.keep {w0 w : World} {fv : Value} {n : Nat} {f : Nat → Fau} (h : FindOK w0 fv n f) (o : Only Nil w0 w) : FindOK w fv n f := by
  obtain ⟨g, cs, cb, h1, h2, h3⟩ := h; exact ⟨g, cs, cb, h1, h2, fun i w' hi o' => h3 i w' hi (o.trans o')⟩
def within_ (n a b : Int) : Bool := wn n a b
theorem within_any (n a b : Int) (w : World) : Calls Tryz.prog 61 #[.int .i64 n, .int .i64 a, .int .i64 b] w fun e w' => e = .returned (.bool (wn n a b)) ∧ w = w' := by
  by_cases h1 : a ≤ n
  · by_cases h2 : n ≤ b
    · have HX := Lib.hid (show wn n a b = true from by unfold wn; simp [h1, h2])
      go_enter Tryz.func61, Tryz.ntmps61
      go_wp2
      go_ret
      exact ⟨by rw [HX.out]; rfl, rfl⟩
    · have HX := Lib.hid (show wn n a b = false from by unfold wn; simp [h1, h2])
      go_enter Tryz.func61, Tryz.ntmps61
      go_wp2
      go_ret
      exact ⟨by rw [HX.out]; rfl, rfl⟩
  · have HX := Lib.hid (show wn n a b = false from by unfold wn; simp [h1])
    go_enter Tryz.func61, Tryz.ntmps61
    go_wp2
    go_ret
    exact ⟨by rw [HX.out]; rfl, rfl⟩

theorem unless1_any {w0 w : World} (code : Nat) {fv : Value} {b : Bool} (h : TestOK w0 fv b) (o : Only Nil w0 w) (q1 q2 : Nat) (c1 : w.cell? ⟨q1, 0, none⟩ = some fv) (c2 : w.cell? ⟨q2, 0, none⟩ = some (.int .i64 (code : Int))) :
    Calls Tryz.prog 96 #[.pointer (some ⟨q1, 0, none⟩), .pointer (some ⟨q2, 0, none⟩)] w fun e w' => BadR w.heap.size w' e (un code b) ∧ Only Nil w w' := by
  obtain ⟨g, cs, cb, rfl, eg, hc⟩ := h
  have HC := Lib.hid (hc w o)
  clear hc o
  cases b with
  | true =>
    go_enter Tryz.func96, Tryz.ntmps96
    go_wp2_with (go_at_fn g; refine HC.out.mono ?_; rintro e w1 ⟨rfl, o1⟩)
    go_ret
    exact ⟨rfl, o1⟩
  | false =>
    go_enter Tryz.func96, Tryz.ntmps96
    go_wp2_with (go_at_fn g; refine HC.out.mono ?_; rintro e w1 ⟨rfl, o1⟩; have d2 := only_cell0 o1 c2)
    go_ret
    exact ⟨⟨_, rfl, bad_new code o1.size⟩, o1.alloc _⟩
theorem unless_any {w : World} (code : Nat) {fv : Value} {b : Bool} (h : TestOK w fv b) :
    Calls Tryz.prog 59 #[.int .i64 (code : Int), fv] w fun e w' => ∃ g cs cb, e = .returned (.func (.func g) cs cb) ∧ LookOK w' (.func (.func g) cs cb) (un code b) ∧ Only Nil w w' := by
  have HT := Lib.hid h
  obtain ⟨g, cs, cb, rfl, eg, hc⟩ := h
  clear hc
  go_enter Tryz.func59, Tryz.ntmps59
  go_wp2
  go_ret
  have o : Only Nil w ((w.alloc (.cells #[.int .i64 (code : Int)] 32)).alloc (.cells #[.func (.func g) cs cb] 22)) := ((Only.refl Nil w).alloc _).alloc _
  have h1 := heap_new w (.cells #[.int .i64 (code : Int)] 32)
  have h2 := heap_new (w.alloc (.cells #[.int .i64 (code : Int)] 32)) (.cells #[.func (.func g) cs cb] 22)
  have k1 : (w.alloc (.cells #[.int .i64 (code : Int)] 32)).cell? ⟨w.heap.size, 0, none⟩ = some (.int .i64 (code : Int)) := by simp only [World.cell?, h1]; rfl
  have k2 : ((w.alloc (.cells #[.int .i64 (code : Int)] 32)).alloc (.cells #[.func (.func g) cs cb] 22)).cell? ⟨w.heap.size + 1, 0, none⟩ = some (.func (.func g) cs cb) := by
    have e : (w.alloc (.cells #[.int .i64 (code : Int)] 32)).heap.size = w.heap.size + 1 := by simp
    rw [e] at h2
    simp only [World.cell?, h2]; rfl
  have k1' := only_cell0 ((Only.refl Nil (w.alloc (.cells #[.int .i64 (code : Int)] 32))).alloc (.cells #[.func (.func g) cs cb] 22)) k1
  exact ⟨_, _, _, rfl, ⟨96, _, _, rfl, enters_of Tryz.func96 (by kernel_rfl) rfl, fun w' o' => unless1_any code (HT.out.keep (o.trans o')) (Only.refl _ _) _ _ (only_cell0 o' k2) (only_cell0 o' k1')⟩, o⟩

/-- So many looks, one behind the other. -/
theorem first_go {rs : List Fau} {k : Nat} (hk : k < rs.length) (h : ∀ j, j < k → rs[j]? = some none) : firstO rs = match rs[k] with | some x => some x | none => firstO (rs.drop (k + 1)) := by
  induction rs generalizing k with
  | nil => simp at hk
  | cons r rs ih =>
    cases k with
    | zero => cases r <;> rfl
    | succ k =>
      have := h 0 (by omega)
      simp only [List.getElem?_cons_zero, Option.some.injEq] at this
      subst this
      rw [firstO_n, ih (k := k) (by simpa using hk) (fun j hj => by have := h (j + 1) (by omega); simpa using this)]
      rfl
set_option maxHeartbeats 1000000 in
theorem first_any {w : World} (L : List (Value × Fau)) (hL : ∀ x ∈ L, LookOK w x.1 x.2) (q n c : Nat) (hn : L.length = n) (hs : n ≤ 1000) (hq : ∀ j (hj : j < L.length), w.cell? ⟨q, j, none⟩ = some (L[j]).1) :
    Calls Tryz.prog 58 #[.slice (some ⟨q, 0, none⟩) n c] w fun e w' => BadR w.heap.size w' e (firstO (L.map Prod.snd)) ∧ Only Nil w w' := by
  have HL := Lib.hid hL
  have HQ := Lib.hid hq
  have HN := Lib.hid hn
  have hs' : (n : Int) ≤ 1000 := by omega
  clear hL hq hn hs
  go_enter Tryz.func58, Tryz.ntmps58
  go_wp2
  go_loopw [8] (fun s8 wr => ∃ (k : Nat), k ≤ n ∧ s8 = .int .i64 (k : Int) ∧ Hid (∀ j, j < k → (L.map Prod.snd)[j]? = some none) ∧ Hid (Only Nil w wr))
    (fun s8 _ => n - (intOf s8).toNat)
  case atStart => exact ⟨0, Nat.zero_le _, rfl, Lib.hid (fun j hj => absurd hj (Nat.not_lt_zero j)), Lib.hid (Only.refl _ _)⟩
  case round =>
    obtain ⟨k, hk, rfl, hE, hO⟩ := hrel
    by_cases hkn : k < n
    · have hkl : k < L.length := by rw [HN.out]; exact hkn
      have hkm : k < (L.map Prod.snd).length := by rw [List.length_map]; exact hkl
      have c0 := only_cell0 hO.out (HQ.out k hkl)
      have hF := first_go hkm hE.out
      rw [List.getElem_map] at hF
      have HF := Lib.hid hF
      have hr : (L.map Prod.snd)[k]? = some (L[k]).2 := by rw [List.getElem?_map, List.getElem?_eq_getElem hkl]; rfl
      have HR := Lib.hid hr
      obtain ⟨g, cs, cb, e1, eg, hc⟩ := (HL.out _ (List.getElem_mem hkl)).keep hO.out
      rw [e1] at c0
      have HC := Lib.hid (hc wr (Only.refl _ _))
      clear hc hF hr e1
      have hkn' : (k : Int) < (n : Int) := by omega
      generalize (L[k]).2 = r at *
      cases r with
      | none =>
        go_wp2_with (go_at_fn g; refine HC.out.mono ?_; rintro e w1 ⟨hb, o1⟩; obtain rfl : e = .returned (.pointer none) := hb; have O1 := Lib.hid (hO.out.trans o1))
        go_roundw
        case rel => exact ⟨k + 1, by omega, by go_num, Lib.hid (fun j hj => by
          rcases Nat.lt_or_ge j k with h | h
          · exact hE.out j h
          · obtain rfl : j = k := by omega
            exact HR.out), O1⟩
        case measure => simp [intOf]; omega
      | some x =>
        go_wp2_with (go_at_fn g; refine HC.out.mono ?_; rintro e w1 ⟨⟨b, rfl, hB⟩, o1⟩; have O1 := Lib.hid (hO.out.trans o1); have HB := Lib.hid hB)
        go_ret
        exact ⟨by rw [HF.out]; exact ⟨b, rfl, HB.out.lower hO.out.size⟩, O1.out⟩
    · obtain rfl : k = n := by omega
      have hk0 : ¬ (k : Int) < (k : Int) := by omega
      have HX := Lib.hid (show firstO (L.map Prod.snd) = none from first_none.2 fun x hx => by
        obtain ⟨j, hj, rfl⟩ := List.mem_iff_getElem.1 hx
        have := hE.out j (by rw [List.length_map, HN.out] at hj; exact hj)
        rw [List.getElem?_eq_getElem hj] at this
        exact Option.some.inj this)
      clear hkn
      go_wp2
      go_ret
      exact ⟨by rw [HX.out]; rfl, hO.out⟩
end Go.Proofs.YthanclicnkjmiaaGreatDoor.Ch
