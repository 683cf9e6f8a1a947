/- ledger: Accept, Move, Start, Kill. -/
import Derived.Test.YtlhdecjpjpnlhaaLgC
namespace Go.Proofs.Ytlhdecjpjpnlhaa.Lg
open Go.RowKit Go.Proofs.Ytlhdecjpjpnlhaa Go.Maps

/-- What the calls answer, and what they make of L. -/
def acE (L : List Ms) (x p : Int) : Int := if held p then (if whOf L x = 0 then 0 else 3) else 1
def acL (L : List Ms) (x : Int) (ok : (Lit.int .u64 x).wf = true) (p : Int) : List Ms := if held p = true ∧ whOf L x = 0 then L ++ [⟨x, p, ok⟩] else L
def mvE (L : List Ms) (x p : Int) : Int := if held p then (if held (whOf L x) then 0 else 2) else 1
def mvL (L : List Ms) (x p : Int) : List Ms := if held p = true ∧ held (whOf L x) = true then setW L x p else L
def enE (L : List Ms) (x : Int) : Int := if held (whOf L x) then 0 else 2
def enL (L : List Ms) (x p : Int) : List Ms := if held (whOf L x) = true then setW L x p else L

theorem Dat.small {D1 D2 : DataW Unit} {C : Nat → Int} {L : List Ms} (d : Dat D1 C D2 L) (few : L.length ≤ 65000) : ∀ i, i ≤ 8 → -65500 ≤ C i ∧ C i ≤ 65500 := by
  intro i hi
  by_cases e : i = 0
  · subst e
    rw [d.none]
    omega
  · rw [d.cnt i (by omega) hi]
    have : Lg.cnt L i ≤ L.length := cq_le _ _
    omega

set_option maxRecDepth 100000 in
theorem accept_bad {w : World} (hb : Nat) (x p : Int) (hp : held p = false) :
    Calls Try.prog 18 #[.pointer (some ⟨hb, 0, none⟩), .int .u64 x, .int .i64 p] w fun e w' => e = .returned (.int .i64 1) ∧ w = w' := by
  have hi := isHeld_any p w
  rw [hp] at hi
  have hi' := Lib.hid hi
  clear hi hp
  go_enter Try.func18, Try.ntmps18
  go_wp2_with (go_at_call 30; (with_reducible refine hi'.out.mono ?_); rintro e w1 ⟨rfl, rfl⟩)
  go_ret
  exact ⟨rfl, rfl⟩
set_option maxRecDepth 100000 in
theorem accept_there {w : World} {S : Nat → Prop} {hb : Nat} {L : List Ms} (h : At w S hb L) (x p : Int) (hx : (Lit.int .u64 x).wf = true) (hp : held p = true) (h0 : whOf L x ≠ 0) :
    Calls Try.prog 18 #[.pointer (some ⟨hb, 0, none⟩), .int .u64 x, .int .i64 p] w fun e w' => e = .returned (.int .i64 3) ∧ w = w' := by
  have hi := isHeld_any p w
  rw [hp] at hi
  have hi' := Lib.hid hi
  obtain ⟨m1, m2, D1, C, D2, a, d⟩ := h
  have c0 := a.c0
  have hl := a.look hx (d.at1 x)
  generalize whOf L x = y at *
  have hy : ((y == 0) = false) := by simpa using h0
  clear a d hi hp h0
  go_enter Try.func18, Try.ntmps18
  go_wp2_with (go_at_call 30; (with_reducible refine hi'.out.mono ?_); rintro e w1 ⟨rfl, rfl⟩)
  go_ret
  exact ⟨rfl, rfl⟩

set_option maxRecDepth 100000 in
set_option maxHeartbeats 2000000 in
theorem accept_ok {w : World} {S : Nat → Prop} {hb : Nat} {L : List Ms} (h : At w S hb L) (x : Int) (p : Nat) (hx : (Lit.int .u64 x).wf = true) (hp : held (p : Int) = true) (h0 : whOf L x = 0) (few : L.length ≤ 65000) :
    Calls Try.prog 18 #[.pointer (some ⟨hb, 0, none⟩), .int .u64 x, .int .i64 (p : Int)] w fun e w' => e = .returned (.int .i64 0) ∧ At w' S hb (L ++ [⟨x, p, hx⟩]) ∧ Only S w w' := by
  have hi := isHeld_any (p : Int) w
  rw [hp] at hi
  have hi' := Lib.hid hi
  obtain ⟨m1, m2, D1, C, D2, a, d⟩ := h
  have hp' := (held_iff _).1 hp
  have c0 := a.c0
  have c10 := a.c10
  have hl := a.look hx (d.at1 x)
  rw [h0] at hl
  have ad : A0 w.drew S hb m1 m2 L.length D1 C D2 := a.nil (Only.refl Nil w).drew
  have hlen : ∀ ty, (Builtin.len_ #[48] ty #[.map (some m1)]).run Try.prog w.drew = .ok (.int .i64 (L.length : Nat)) w.drew := fun ty => by
    have := ad.map1.len Try.underlying48 ty
    rw [d.size1] at this
    exact this
  have hkey : keyOf Try.prog 29 (.int .u64 x) = some (.int .u64 x) := keyOf_int_mk Try.underlying29 hx
  have hkey' := Lib.hid hkey
  have ad' := Lib.hid ad
  have few' := Lib.hid few
  have hd := Lib.hid d
  have hfin := Lib.hid (fun (w' : World) (hA : A0 w' S hb m1 m2 (L.length + 1 + 1) (D1.put (.int .u64 x) (.lit (.int .i64 (p : Int)))) (moved C 0 p) (D2.put (.int .u64 x) (.lit (.int .i64 (L.length : Int))))) => show At w' S hb (L ++ [⟨x, p, hx⟩]) from by
    have dd := d.accept (a.map1.tidy Try.law) (a.map2.tidy Try.law) x hx p h0 hp
    exact ⟨m1, m2, _, _, _, hA.more (by rw [dd.size1]; exact Nat.le_refl _) (by rw [dd.size2]; exact cq_le _ _), dd⟩)
  have hput := Lib.hid (fun (w3 : World) (h3 : A0 w3 S hb m1 m2 (L.length + 1) D1 C (D2.put (.int .u64 x) (.lit (.int .i64 (L.length : Int))))) => put_any h3 x hx 0 p (by rw [d.at1, h0]; rfl) (by omega) (by omega) (d.small few) (by omega))
  clear hi hp hp' h0 a d ad hkey few
  go_enter Try.func18, Try.ntmps18
  go_wp2_with (go_at_call 30; (with_reducible refine hi'.out.mono ?_); rintro e w1 ⟨rfl, rfl⟩)
  go_still_tail 10, (by kernel_rfl)
  change wpList _ _ _ _ _ w.drew
  go_wp2_with (first
    | (at_mapUpdate; refine wpList_mapUpdate_own _ rfl _ _ _ 48 rfl 29 3 Try.law Try.underlying48 _ m2 L.length D2 rfl ad'.out.map2 (by have := few'.out; unfold maxLen; omega) _ _ _ rfl rfl hkey'.out _ [] (plainElem_int Try.underlying3 (wf_small (by omega) (by have := few'.out; omega))) ?_; intro w3 hown3 hg3; obtain ⟨h3, o3⟩ := ad'.out.put2 hown3 hg3; have p3 := Lib.hid (hput.out _ h3); have o3' := Lib.hid ((Only.refl S w).drew.trans o3); clear h3 o3 hown3 hg3)
    | (go_at_call 31; (with_reducible refine p3.out.mono ?_); rintro e w4 ⟨rfl, h4, o4⟩; have k4 := Lib.hid (And.intro h4 o4); clear h4 o4))
  go_ret
  exact ⟨rfl, hfin.out _ k4.out.1, o3'.out.trans k4.out.2⟩

theorem accept_any {w : World} {S : Nat → Prop} {hb : Nat} {L : List Ms} (h : At w S hb L) (x p : Int) (hx : (Lit.int .u64 x).wf = true) (few : L.length ≤ 65000) :
    Calls Try.prog 18 #[.pointer (some ⟨hb, 0, none⟩), .int .u64 x, .int .i64 p] w fun e w' => e = .returned (.int .i64 (acE L x p)) ∧ At w' S hb (acL L x hx p) ∧ Only S w w' := by
  unfold acE acL
  cases hp : held p
  · refine (accept_bad hb x p hp).mono ?_
    rintro e w' ⟨rfl, rfl⟩
    exact ⟨rfl, by rw [if_neg (fun h => Bool.false_ne_true h.1)]; exact h, Only.refl _ _⟩
  · by_cases h0 : whOf L x = 0
    · have hp' := (held_iff _).1 hp
      obtain ⟨k, rfl⟩ : ∃ k : Nat, p = (k : Int) := ⟨p.toNat, by omega⟩
      refine (accept_ok h x k hx hp h0 few).mono ?_
      rintro e w' ⟨rfl, h', o⟩
      rw [if_pos rfl, if_pos h0, if_pos ⟨rfl, h0⟩]
      exact ⟨rfl, h', o⟩
    · refine (accept_there h x p hx hp h0).mono ?_
      rintro e w' ⟨rfl, rfl⟩
      rw [if_pos rfl, if_neg h0, if_neg (fun h => h0 h.2)]
      exact ⟨rfl, h, Only.refl _ _⟩

set_option maxRecDepth 100000 in
theorem move_bad {w : World} (hb : Nat) (x p : Int) (hp : held p = false) :
    Calls Try.prog 19 #[.pointer (some ⟨hb, 0, none⟩), .int .u64 x, .int .i64 p] w fun e w' => e = .returned (.int .i64 1) ∧ w = w' := by
  have hi := isHeld_any p w
  rw [hp] at hi
  have hi' := Lib.hid hi
  clear hi hp
  go_enter Try.func19, Try.ntmps19
  go_wp2_with (go_at_call 30; (with_reducible refine hi'.out.mono ?_); rintro e w1 ⟨rfl, rfl⟩)
  go_ret
  exact ⟨rfl, rfl⟩
set_option maxRecDepth 100000 in
theorem move_none {w : World} {S : Nat → Prop} {hb : Nat} {L : List Ms} (h : At w S hb L) (x p : Int) (hx : (Lit.int .u64 x).wf = true) (hp : held p = true) (h0 : held (whOf L x) = false) :
    Calls Try.prog 19 #[.pointer (some ⟨hb, 0, none⟩), .int .u64 x, .int .i64 p] w fun e w' => e = .returned (.int .i64 2) ∧ w = w' := by
  have hi := isHeld_any p w
  rw [hp] at hi
  have hi' := Lib.hid hi
  have hj := isHeld_any (whOf L x) w
  rw [h0] at hj
  have hj' := Lib.hid hj
  obtain ⟨m1, m2, D1, C, D2, a, d⟩ := h
  have c0 := a.c0
  have hl := a.look hx (d.at1 x)
  generalize whOf L x = y at *
  clear a d hi hj hp h0
  go_enter Try.func19, Try.ntmps19
  go_wp2_with (first
    | (go_at_call 30; (with_reducible refine hi'.out.mono ?_); rintro e w1 ⟨rfl, rfl⟩)
    | (go_at_call 30; (with_reducible refine hj'.out.mono ?_); rintro e w1 ⟨rfl, rfl⟩))
  go_ret
  exact ⟨rfl, rfl⟩
set_option maxRecDepth 100000 in
theorem move_ok {w : World} {S : Nat → Prop} {hb : Nat} {L : List Ms} (h : At w S hb L) (x : Int) (p : Nat) (hx : (Lit.int .u64 x).wf = true) (hp : held (p : Int) = true) (h0 : held (whOf L x) = true) (few : L.length ≤ 65000) :
    Calls Try.prog 19 #[.pointer (some ⟨hb, 0, none⟩), .int .u64 x, .int .i64 (p : Int)] w fun e w' => e = .returned (.int .i64 0) ∧ At w' S hb (setW L x p) ∧ Only S w w' := by
  have hi := isHeld_any (p : Int) w
  rw [hp] at hi
  have hi' := Lib.hid hi
  have hj := isHeld_any (whOf L x) w
  rw [h0] at hj
  have hj' := Lib.hid hj
  obtain ⟨m1, m2, D1, C, D2, a, d⟩ := h
  have hp' := (held_iff _).1 hp
  have ha' := (held_iff _).1 h0
  have c0 := a.c0
  have hl := a.look hx (d.at1 x)
  obtain ⟨k, hk⟩ : ∃ k : Nat, whOf L x = (k : Int) := ⟨(whOf L x).toNat, by omega⟩
  have hput := Lib.hid (put_any a x hx k p (by rw [d.at1, hk]) (by omega) (by omega) (d.small few) (by omega))
  have hfin := Lib.hid (fun (w' : World) (hA : A0 w' S hb m1 m2 (L.length + 1) (D1.put (.int .u64 x) (.lit (.int .i64 (p : Int)))) (moved C k p) D2) => show At w' S hb (setW L x p) from by
    have dd := d.move (a.map1.tidy Try.law) x k p hk (by rw [← hk]; exact h0) hp
    exact ⟨m1, m2, _, _, _, hA.more (by rw [dd.size1]; exact Nat.le_refl _) (by rw [dd.size2]; exact cq_le _ _), dd⟩)
  generalize whOf L x = y at *
  clear a d hi hj hp h0 hp' ha' few hk
  go_enter Try.func19, Try.ntmps19
  go_wp2_with (first
    | (go_at_call 30; (with_reducible refine hi'.out.mono ?_); rintro e w1 ⟨rfl, rfl⟩)
    | (go_at_call 30; (with_reducible refine hj'.out.mono ?_); rintro e w1 ⟨rfl, rfl⟩)
    | (go_at_call 31; (with_reducible refine hput.out.mono ?_); rintro e w4 ⟨rfl, h4, o4⟩; have k4 := Lib.hid (And.intro h4 o4); clear h4 o4))
  go_ret
  exact ⟨rfl, hfin.out _ k4.out.1, k4.out.2⟩
theorem move_any {w : World} {S : Nat → Prop} {hb : Nat} {L : List Ms} (h : At w S hb L) (x p : Int) (hx : (Lit.int .u64 x).wf = true) (few : L.length ≤ 65000) :
    Calls Try.prog 19 #[.pointer (some ⟨hb, 0, none⟩), .int .u64 x, .int .i64 p] w fun e w' => e = .returned (.int .i64 (mvE L x p)) ∧ At w' S hb (mvL L x p) ∧ Only S w w' := by
  unfold mvE mvL
  cases hp : held p
  · refine (move_bad hb x p hp).mono ?_
    rintro e w' ⟨rfl, rfl⟩
    exact ⟨rfl, by rw [if_neg (fun h => Bool.false_ne_true h.1)]; exact h, Only.refl _ _⟩
  · cases h0 : held (whOf L x)
    · refine (move_none h x p hx hp h0).mono ?_
      rintro e w' ⟨rfl, rfl⟩
      exact ⟨rfl, by rw [if_neg (fun h => Bool.false_ne_true h.2)]; exact h, Only.refl _ _⟩
    · have hp' := (held_iff _).1 hp
      obtain ⟨k, rfl⟩ : ∃ k : Nat, p = (k : Int) := ⟨p.toNat, by omega⟩
      refine (move_ok h x k hx hp h0 few).mono ?_
      rintro e w' ⟨rfl, h', o⟩
      exact ⟨rfl, by rw [if_pos ⟨rfl, rfl⟩]; exact h', o⟩

set_option maxRecDepth 100000 in
theorem end_none {w : World} {S : Nat → Prop} {hb : Nat} {L : List Ms} (h : At w S hb L) (x p : Int) (hx : (Lit.int .u64 x).wf = true) (h0 : held (whOf L x) = false) :
    Calls Try.prog 32 #[.pointer (some ⟨hb, 0, none⟩), .int .u64 x, .int .i64 p] w fun e w' => e = .returned (.int .i64 2) ∧ w = w' := by
  have hj := isHeld_any (whOf L x) w
  rw [h0] at hj
  have hj' := Lib.hid hj
  obtain ⟨m1, m2, D1, C, D2, a, d⟩ := h
  have c0 := a.c0
  have hl := a.look hx (d.at1 x)
  generalize whOf L x = y at *
  clear a d hj h0
  go_enter Try.func32, Try.ntmps32
  go_wp2_with (go_at_call 30; (with_reducible refine hj'.out.mono ?_); rintro e w1 ⟨rfl, rfl⟩)
  go_ret
  exact ⟨rfl, rfl⟩
theorem A0.del2 {w w' : World} {S : Nat → Prop} {hb m1 m2 n : Nat} {D1 D2 : DataW Unit} {C : Nat → Int} (h : A0 w S hb m1 m2 n D1 C D2) {D' : DataW Unit} (own : w'.ownsMap Try.prog 29 (plainElem Try.prog 3) m2 n D') (g : w.mapTurned w' m2) : A0 w' S hb m1 m2 n D1 C D' ∧ Only S w w' := by
  have o : Only (fun q => some q = some m2) w w' := Only.ofGrown g.grown
  have ne : ∀ q, q ≠ m2 → ¬ (some q = some m2) := fun q hq e => hq (by injection e)
  exact ⟨⟨(o.block hb h.lt_hb (ne _ h.ne2)).trans h.head, ownsMap_keep h.map1 o (ne _ h.ne), own, h.hS, h.S1, h.S2, fun q hq => Nat.lt_of_lt_of_le (h.lt q hq) o.size, h.ne⟩, o.mono (fun q hq => by injection hq with hq; exact hq ▸ h.S2)⟩
set_option maxRecDepth 100000 in
set_option maxHeartbeats 2000000 in
theorem end_ok {w : World} {S : Nat → Prop} {hb : Nat} {L : List Ms} (h : At w S hb L) (x : Int) (p : Nat) (hx : (Lit.int .u64 x).wf = true) (hp : p = 7 ∨ p = 8) (h0 : held (whOf L x) = true) (few : L.length ≤ 65000) :
    Calls Try.prog 32 #[.pointer (some ⟨hb, 0, none⟩), .int .u64 x, .int .i64 (p : Int)] w fun e w' => e = .returned (.int .i64 0) ∧ At w' S hb (setW L x p) ∧ Only S w w' := by
  have hj := isHeld_any (whOf L x) w
  rw [h0] at hj
  have hj' := Lib.hid hj
  obtain ⟨m1, m2, D1, C, D2, a, d⟩ := h
  have ha' := (held_iff _).1 h0
  have c0 := a.c0
  have hl := a.look hx (d.at1 x)
  have hkey : keyOf Try.prog 29 (.int .u64 x) = some (.int .u64 x) := keyOf_int_mk Try.underlying29 hx
  have hkey' := Lib.hid hkey
  obtain ⟨k, hk⟩ : ∃ k : Nat, whOf L x = (k : Int) := ⟨(whOf L x).toNat, by omega⟩
  have hput := Lib.hid (put_any a x hx k p (by rw [d.at1, hk]) (by omega) (by omega) (d.small few) (by omega))
  have hfin := Lib.hid (fun (w' : World) (hA : A0 w' S hb m1 m2 (L.length + 1) (D1.put (.int .u64 x) (.lit (.int .i64 (p : Int)))) (moved C k p) (D2.del (.int .u64 x))) => show At w' S hb (setW L x p) from by
    have dd := d.ended (a.map1.tidy Try.law) (a.map2.tidy Try.law) x k p hk (by rw [← hk]; exact h0) hp
    exact ⟨m1, m2, _, _, _, hA.more (by rw [dd.size1]; exact Nat.le_refl _) (by rw [dd.size2]; exact cq_le _ _), dd⟩)
  generalize whOf L x = y at *
  clear a d hj hp h0 ha' few hk hkey
  go_enter Try.func32, Try.ntmps32
  go_wp2_with (first
    | (go_at_call 30; (with_reducible refine hj'.out.mono ?_); rintro e w1 ⟨rfl, rfl⟩)
    | (go_at_call 31; (with_reducible refine hput.out.mono ?_); rintro e w4 ⟨rfl, h4, o4⟩; have d10 := h4.c10; have k4 := Lib.hid (And.intro h4 o4); clear h4 o4)
    | (at_delete; refine wpList_delete_own _ rfl _ _ 48 29 rfl 3 Try.law Try.underlying48 _ m2 _ D2 rfl k4.out.1.map2 _ _ rfl hkey'.out ?_; intro w5 hown5 hg5; have k5 := Lib.hid (k4.out.1.del2 hown5 hg5); clear hown5 hg5))
  go_ret
  exact ⟨rfl, hfin.out _ k5.out.1, k4.out.2.trans k5.out.2⟩
theorem end_any {w : World} {S : Nat → Prop} {hb : Nat} {L : List Ms} (h : At w S hb L) (x : Int) (p : Nat) (hp : p = 7 ∨ p = 8) (hx : (Lit.int .u64 x).wf = true) (few : L.length ≤ 65000) :
    Calls Try.prog 32 #[.pointer (some ⟨hb, 0, none⟩), .int .u64 x, .int .i64 (p : Int)] w fun e w' => e = .returned (.int .i64 (enE L x)) ∧ At w' S hb (enL L x p) ∧ Only S w w' := by
  unfold enE enL
  cases h0 : held (whOf L x)
  · refine (end_none h x p hx h0).mono ?_
    rintro e w' ⟨rfl, rfl⟩
    exact ⟨rfl, h, Only.refl _ _⟩
  · refine (end_ok h x p hx hp h0 few).mono ?_
    rintro e w' ⟨rfl, h', o⟩
    exact ⟨rfl, h', o⟩
theorem start_any {w : World} {S : Nat → Prop} {hb : Nat} {L : List Ms} (h : At w S hb L) (x : Int) (hx : (Lit.int .u64 x).wf = true) (few : L.length ≤ 65000) :
    Calls Try.prog 20 #[.pointer (some ⟨hb, 0, none⟩), .int .u64 x] w fun e w' => e = .returned (.int .i64 (enE L x)) ∧ At w' S hb (enL L x 7) ∧ Only S w w' := by
  have he := Lib.hid (show Calls Try.prog 32 #[.pointer (some ⟨hb, 0, none⟩), .int .u64 x, .int .i64 7] w _ from end_any h x 7 (.inl rfl) hx few)
  clear h few
  go_enter Try.func20, Try.ntmps20
  go_wp2_with (go_at_call 32; (with_reducible refine he.out.mono ?_); rintro e w4 ⟨rfl, h4, o4⟩; have k4 := Lib.hid (And.intro h4 o4); clear h4 o4)
  go_ret
  exact ⟨rfl, k4.out.1, k4.out.2⟩
theorem kill_any {w : World} {S : Nat → Prop} {hb : Nat} {L : List Ms} (h : At w S hb L) (x : Int) (hx : (Lit.int .u64 x).wf = true) (few : L.length ≤ 65000) :
    Calls Try.prog 21 #[.pointer (some ⟨hb, 0, none⟩), .int .u64 x] w fun e w' => e = .returned (.int .i64 (enE L x)) ∧ At w' S hb (enL L x 8) ∧ Only S w w' := by
  have he := Lib.hid (show Calls Try.prog 32 #[.pointer (some ⟨hb, 0, none⟩), .int .u64 x, .int .i64 8] w _ from end_any h x 8 (.inr rfl) hx few)
  clear h few
  go_enter Try.func21, Try.ntmps21
  go_wp2_with (go_at_call 32; (with_reducible refine he.out.mono ?_); rintro e w4 ⟨rfl, h4, o4⟩; have k4 := Lib.hid (And.intro h4 o4); clear h4 o4)
  go_ret
  exact ⟨rfl, k4.out.1, k4.out.2⟩
end Go.Proofs.Ytlhdecjpjpnlhaa.Lg
