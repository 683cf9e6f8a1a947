/- tree: two rows of numbers compared (Ints); a tree that a call has made; alive. -/
import Derived.Test.YtkeaenkkencmdaaTrK
set_option linter.unusedSimpArgs false
set_option linter.unusedVariables false
namespace Go.Proofs.Ytkeaenkkencmdaa.Tr
open Go.RowKit Go.Proofs.Ytkeaenkkencmdaa Go.Maps

/-- The slice at a, of the numbers X. -/
def IntsIn (w : World) (a : Option Addr) (X : List Int) : Prop :=
  ∀ i, i < X.length → ∃ g, a = some ⟨g, 0, none⟩ ∧ g < w.heap.size ∧ ∀ j, j < X.length → w.cell? ⟨g, j, none⟩ = some (.int .i64 (X.getD j 0))
theorem own_ints {w : World} {base : Nat} {a : Option Addr} {n cap : Nat} {X : List Int} (h : w.ownsRow base 3 1 (.slice a n cap) X.length (iv X)) : IntsIn w a X := by
  intro i hi
  rcases h.2 with ⟨_, h0⟩ | ⟨g, c, cur, hv, _, hg, _⟩
  · omega
  · simp only [Value.slice.injEq] at hv
    obtain ⟨rfl, hnx, rfl⟩ := hv
    subst hnx
    refine ⟨g, rfl, lt_of_block hg, fun j hj => ?_⟩
    have hc := h.cellAt j (by omega)
    rw [hc]
    simp [iv, hj]
theorem IntsIn.nil {w w' : World} {a : Option Addr} {X : List Int} (h : IntsIn w a X) (o : Only Nil w w') : IntsIn w' a X := by
  intro i hi
  obtain ⟨g, ha, hlt, hc⟩ := h i hi
  have e := o.block g hlt (fun s => s)
  exact ⟨g, ha, Nat.lt_of_lt_of_le hlt o.size, fun j hj => (World.cell?_of_block (a := ⟨g, j, none⟩) e).trans (hc j hj)⟩
theorem IntsIn.lit {w : World} {g : Nat} {X : List Int} (h : w.heap[g]? = some (.cells (iv X).toArray 3 (0, 0))) : IntsIn w (some ⟨g, 0, none⟩) X := by
  intro i hi
  refine ⟨g, rfl, lt_of_block h, fun j hj => ?_⟩
  simp [World.cell?, h, iv, hj]

set_option maxRecDepth 100000 in
/-- Ints, of two slices that hold the same numbers. -/
theorem ints_yes {w : World} {a1 a2 : Option Addr} {c1 c2 n : Nat} {X : List Int} (h1 : IntsIn w a1 X) (h2 : IntsIn w a2 X) (hn : X.length = n) (hX : n ≤ 1000000) :
    Calls Try.prog 21 #[.slice a1 n c1, .slice a2 n c2] w fun e w' => e = .returned (.bool true) ∧ Only Nil w w' := by
  have k1 := Lib.hid h1
  have k2 := Lib.hid h2
  have hlen' := Lib.hid hn
  clear h1 h2 hn
  have hl2 : (n : Int) ≤ 1000000 := by omega
  go_enter Try.func21, Try.ntmps21
  go_wp2
  go_loopw [5] (fun i wr => ∃ (k m : Nat), k ≤ n ∧ i = .int .i64 (k : Int) ∧ wr = w.drewN m)
    (fun i _ => n - (intOf i).toNat)
  case atStart => exact ⟨0, 0, Nat.zero_le _, rfl, rfl⟩
  case round =>
    obtain ⟨k, m, hk, rfl, rfl⟩ := hrel
    by_cases hlt : k < n
    · obtain ⟨g1, rfl, _, q1⟩ := k1.out k (by rw [hlen'.out]; exact hlt)
      obtain ⟨g2, rfl, _, q2⟩ := k2.out k (by rw [hlen'.out]; exact hlt)
      have x1 : w.cell? ⟨g1, k, none⟩ = some (.int .i64 (X.getD k 0)) := q1 k (by rw [hlen'.out]; exact hlt)
      have x2 : w.cell? ⟨g2, k, none⟩ = some (.int .i64 (X.getD k 0)) := q2 k (by rw [hlen'.out]; exact hlt)
      clear q1 q2
      generalize X.getD k 0 = x at x1 x2
      have hlt' : (k : Int) < (n : Int) := by omega
      go_wp2
      go_quiet (fail)
      go_wp2
      go_roundw
      case rel => exact ⟨k + 1, _, by omega, by go_num, rfl⟩
      case measure => simp [intOf]; omega
    · go_wp2
      go_ret
      exact ⟨rfl, (Only.refl _ _).drewN _⟩

/-- .. of a row that was answered, and of one that is written out. -/
theorem ints_lit {w0 w : World} {a : Option Addr} {n c : Nat} {L : List Int} (F : Fr w0 w (.slice a n c) L) (hn : L.length = n) (few : n ≤ 1000) {vs : Array Value} (hv : vs = (iv L).toArray) :
    Calls Try.prog 21 #[.slice a n c, .slice (some ⟨w.heap.size, 0, none⟩) n n] (w.alloc (.cells vs 3)) fun e w' => e = .returned (.bool true) ∧ Only Nil w w' := by
  subst hv
  have o : Only Nil w (w.alloc (.cells (iv L).toArray 3)) := (Only.refl Nil w).alloc _
  exact (ints_yes ((own_ints F.row).nil o) (IntsIn.lit (heap_new w _)) hn (by omega)).mono fun e w' ⟨h1, h2⟩ => ⟨h1, o.trans h2⟩

/-- The call's own new blocks, but for K. -/
def Free (W : World) (K : Nat → Prop) (q : Nat) : Prop := W.heap.size ≤ q ∧ ¬ K q
/-- World w holds a tree of T at tb, made since W, off the blocks K; nothing that there was in W has turned. -/
structure St (W : World) (K : Nat → Prop) (w : World) (tb : Nat) (T : List Mb) : Prop where
  at_ : ∃ S, At w S tb T ∧ ∀ q, S q → Free W K q
  only : Only Nil W w
  kept : ∀ q, K q → q < w.heap.size
section
variable {W w w' : World} {K K' U : Nat → Prop} {tb : Nat} {T : List Mb}
theorem St.good (h : St W K w tb T) : Good T := by obtain ⟨S, a, _⟩ := h.at_; exact a.good
theorem St.nil (h : St W K w tb T) (o : Only Nil w w') : St W K w' tb T := by
  obtain ⟨S, a, hS⟩ := h.at_
  exact ⟨⟨S, a.nil o, hS⟩, h.only.trans o, fun q hq => Nat.lt_of_lt_of_le (h.kept q hq) o.size⟩
/-- Other blocks are kept off: elder ones of K, or such as came behind. -/
theorem St.re (h : St W K w tb T) (o : Only U w w') (hU : ∀ q, U q → K q) (hU2 : ∀ q, U q → W.heap.size ≤ q) (hK : ∀ q, K' q → (K q ∨ w.heap.size ≤ q) ∧ q < w'.heap.size) : St W K' w' tb T := by
  obtain ⟨S, a, hS⟩ := h.at_
  refine ⟨⟨S, a.keep o (fun q hq hu => (hS q hq).2 (hU q hu)), fun q hq => ⟨(hS q hq).1, fun hk => ?_⟩⟩, h.only.then o (fun i hi hlt => by have := hU2 i hi; omega), fun q hq => (hK q hq).2⟩
  rcases (hK q hk).1 with h1 | h1
  · exact (hS q hq).2 h1
  · have := a.lt q hq; omega
theorem st_new (o : Only Nil W w) (hK : ∀ q, K q → q < w.heap.size) : Calls Try.prog 8 #[] w fun e w' => e = .returned (.pointer (some ⟨w.heap.size + 2, 0, none⟩)) ∧ St W K w' (w.heap.size + 2) [] ∧ Only Nil w w' :=
  (new_any w).mono fun e w' ⟨he, ha, ho⟩ => ⟨he, ⟨⟨_, ha, fun q hq => ⟨Nat.le_trans o.size hq.1, fun hk => by have := hK q hk; omega⟩⟩, o.trans ho, fun q hq => Nat.lt_of_lt_of_le (hK q hq) ho.size⟩, ho⟩
theorem st_add (h : St W K w tb T) (p x : Int) (wp : (Lit.int .i64 p).wf = true) (wx : (Lit.int .i64 x).wf = true) (few : T.length ≤ 1000000) :
    Calls Try.prog 12 #[.pointer (some ⟨tb, 0, none⟩), .int .i64 p, .int .i64 x] w fun e w' => e = .returned (.int .i64 (addE T p x)) ∧ St W K w' tb (addT T p x) ∧ Only (Free W K) w w' := by
  obtain ⟨S, a, hS⟩ := h.at_
  refine (add_any a p x wp wx few).mono fun e w' ⟨he, ha, ho⟩ => ⟨he, ⟨⟨_, ha, fun q hq => ?_⟩, h.only.then ho (fun i hi hlt => by have := (hS i hi).1; omega), fun q hq => Nat.lt_of_lt_of_le (h.kept q hq) ho.size⟩, ho.mono hS⟩
  rcases hq with hq | hq
  · exact hS q hq
  · exact ⟨by have := h.only.size; omega, fun hk => by have := h.kept q hk; omega⟩
theorem st_cut (h : St W K w tb T) (x : Int) (wx : (Lit.int .i64 x).wf = true) :
    Calls Try.prog 10 #[.pointer (some ⟨tb, 0, none⟩), .int .i64 x] w fun e w' => e = .returned (.int .i64 (cutE T x)) ∧ St W K w' tb (cutT T x) ∧ Only (Free W K) w w' := by
  obtain ⟨S, a, hS⟩ := h.at_
  exact (cut_any a x wx).mono fun e w' ⟨he, ha, ho⟩ => ⟨he, ⟨⟨_, ha, hS⟩, h.only.then ho (fun i hi hlt => by have := (hS i hi).1; omega), fun q hq => Nat.lt_of_lt_of_le (h.kept q hq) ho.size⟩, ho.mono hS⟩
theorem st_has (h : St W K w tb T) (x : Int) (wx : (Lit.int .i64 x).wf = true) : Calls Try.prog 17 #[.pointer (some ⟨tb, 0, none⟩), .int .i64 x] w fun e w' => e = .returned (.bool (has T x)) ∧ w = w' := by
  obtain ⟨S, a, hS⟩ := h.at_
  exact has_any a x wx
theorem st_len (h : St W K w tb T) : Calls Try.prog 13 #[.pointer (some ⟨tb, 0, none⟩)] w fun e w' => e = .returned (.int .i64 (T.length : Nat)) ∧ w = w' := by
  obtain ⟨S, a, hS⟩ := h.at_
  exact len_any a
theorem st_parent (h : St W K w tb T) (x : Int) (wx : (Lit.int .i64 x).wf = true) : Calls Try.prog 19 #[.pointer (some ⟨tb, 0, none⟩), .int .i64 x] w fun e w' => e = .returned (.tuple #[.int .i64 (par T x), .bool (has T x)]) ∧ w = w' := by
  obtain ⟨S, a, hS⟩ := h.at_
  exact parent_any a x wx
theorem kidsT_len {T : List Mb} (G : Good T) (x : Int) : (kidsT T x).length ≤ T.length := by
  unfold kidsT
  split
  · have := nodup_le (kids T x) (T.map (fun m => m.1)) G.knodup (fun y hy => has_mem.1 (kids_in G hy))
    simpa using this
  · simp
/-- A row that was answered. -/
def Ans (w w' : World) (e : Ending) (L : List Int) : Prop := ∃ (a : Option Addr) (n c : Nat), e = .returned (.slice a n c) ∧ L.length = n ∧ Hid (Fr w w' (.slice a n c) L)
theorem ans_of {w w' : World} {e : Ending} {L : List Int} (h : Hid (∃ v, e = .returned v ∧ Fr w w' v L)) : Ans w w' e L := by
  obtain ⟨v, he, F⟩ := h.out
  obtain ⟨a, c, rfl⟩ := F.slice
  exact ⟨a, _, c, he, rfl, Lib.hid F⟩
theorem st_kids (h : St W K w tb T) (x : Int) (wx : (Lit.int .i64 x).wf = true) (few : T.length ≤ 1000) : Calls Try.prog 20 #[.pointer (some ⟨tb, 0, none⟩), .int .i64 x] w fun e w' => Ans w w' e (kidsT T x) := by
  obtain ⟨S, a, hS⟩ := h.at_
  exact (kids_any a x wx few).mono fun e w' h => ans_of h
theorem st_path (h : St W K w tb T) (x : Int) (wx : (Lit.int .i64 x).wf = true) (few : T.length ≤ 1000) : Calls Try.prog 18 #[.pointer (some ⟨tb, 0, none⟩), .int .i64 x] w fun e w' => Ans w w' e (path T x) := by
  obtain ⟨S, a, hS⟩ := h.at_
  exact (path_any a x wx few).mono fun e w' h => ans_of h
theorem st_below (h : St W K w tb T) (x : Int) (wx : (Lit.int .i64 x).wf = true) (few : T.length ≤ 1000) : Calls Try.prog 16 #[.pointer (some ⟨tb, 0, none⟩), .int .i64 x] w fun e w' => Ans w w' e (belT T x) := by
  obtain ⟨S, a, hS⟩ := h.at_
  exact (below_any a x wx few).mono fun e w' h => ans_of h
end

def T1 : List Mb := [(1, 0)]
def T2 : List Mb := [(1, 0), (2, 1)]
def T3 : List Mb := [(1, 0), (2, 1), (3, 1)]
def T4 : List Mb := [(1, 0), (2, 1), (3, 1), (4, 2)]

set_option maxRecDepth 100000 in
set_option maxHeartbeats 4000000 in
theorem alive_any (w : World) : Calls Try.prog 7 #[] w fun e w' => e = .returned (.bool true) ∧ Only Nil w w' := by
  have a0 := Lib.hid (show Calls Try.prog 8 #[] w fun e w' => e = .returned (.pointer (some ⟨w.heap.size + 2, 0, none⟩)) ∧ St w Nil w' (w.heap.size + 2) [] ∧ Only Nil w w' from st_new (Only.refl _ _) (fun q h => h.elim))
  generalize w.heap.size + 2 = H at *
  have a1 := Lib.hid (fun (w1 : World) (h : St w Nil w1 H []) => show Calls Try.prog 12 #[.pointer (some ⟨H, 0, none⟩), .int .i64 0, .int .i64 1] w1 fun e w' => e = .returned (.int .i64 0) ∧ St w Nil w' H T1 ∧ Only (Free w Nil) w1 w' from st_add h 0 1 (by decide) (by decide) (by decide))
  have a2 := Lib.hid (fun (w1 : World) (h : St w Nil w1 H T1) => show Calls Try.prog 12 #[.pointer (some ⟨H, 0, none⟩), .int .i64 1, .int .i64 2] w1 fun e w' => e = .returned (.int .i64 0) ∧ St w Nil w' H T2 ∧ Only (Free w Nil) w1 w' from st_add h 1 2 (by decide) (by decide) (by decide))
  have a3 := Lib.hid (fun (w1 : World) (h : St w Nil w1 H T2) => show Calls Try.prog 12 #[.pointer (some ⟨H, 0, none⟩), .int .i64 1, .int .i64 3] w1 fun e w' => e = .returned (.int .i64 0) ∧ St w Nil w' H T3 ∧ Only (Free w Nil) w1 w' from st_add h 1 3 (by decide) (by decide) (by decide))
  have a4 := Lib.hid (fun (w1 : World) (h : St w Nil w1 H T3) => show Calls Try.prog 12 #[.pointer (some ⟨H, 0, none⟩), .int .i64 2, .int .i64 4] w1 fun e w' => e = .returned (.int .i64 0) ∧ St w Nil w' H T4 ∧ Only (Free w Nil) w1 w' from st_add h 2 4 (by decide) (by decide) (by decide))
  have b1 := Lib.hid (fun (w1 : World) (h : St w Nil w1 H T4) => show Calls Try.prog 20 #[.pointer (some ⟨H, 0, none⟩), .int .i64 1] w1 fun e w' => Ans w1 w' e [2, 3] from st_kids h 1 (by decide) (by decide))
  have b2 := Lib.hid (fun (w1 : World) (h : St w Nil w1 H T4) => show Calls Try.prog 18 #[.pointer (some ⟨H, 0, none⟩), .int .i64 4] w1 fun e w' => Ans w1 w' e [1, 2, 4] from st_path h 4 (by decide) (by decide))
  have b3 := Lib.hid (fun (w1 : World) (h : St w Nil w1 H T4) => show Calls Try.prog 16 #[.pointer (some ⟨H, 0, none⟩), .int .i64 1] w1 fun e w' => Ans w1 w' e [4, 2, 3, 1] from st_below h 1 (by decide) (by decide))
  have c1 := Lib.hid (fun (w1 : World) (h : St w Nil w1 H T4) => show Calls Try.prog 10 #[.pointer (some ⟨H, 0, none⟩), .int .i64 2] w1 fun e w' => e = .returned (.int .i64 6) ∧ St w Nil w' H T4 ∧ Only (Free w Nil) w1 w' from st_cut h 2 (by decide))
  have c2 := Lib.hid (fun (w1 : World) (h : St w Nil w1 H T4) => show Calls Try.prog 10 #[.pointer (some ⟨H, 0, none⟩), .int .i64 4] w1 fun e w' => e = .returned (.int .i64 0) ∧ St w Nil w' H T3 ∧ Only (Free w Nil) w1 w' from st_cut h 4 (by decide))
  have c3 := Lib.hid (fun (w1 : World) (h : St w Nil w1 H T3) => show Calls Try.prog 10 #[.pointer (some ⟨H, 0, none⟩), .int .i64 2] w1 fun e w' => e = .returned (.int .i64 0) ∧ St w Nil w' H [(1, 0), (3, 1)] ∧ Only (Free w Nil) w1 w' from st_cut h 2 (by decide))
  have d1 := Lib.hid (fun (w1 : World) (h : St w Nil w1 H [(1, 0), (3, 1)]) => show Calls Try.prog 12 #[.pointer (some ⟨H, 0, none⟩), .int .i64 0, .int .i64 9] w1 fun e w' => e = .returned (.int .i64 4) ∧ St w Nil w' H [(1, 0), (3, 1)] ∧ Only (Free w Nil) w1 w' from st_add h 0 9 (by decide) (by decide) (by decide))
  have d2 := Lib.hid (fun (w1 : World) (h : St w Nil w1 H [(1, 0), (3, 1)]) => show Calls Try.prog 12 #[.pointer (some ⟨H, 0, none⟩), .int .i64 7, .int .i64 9] w1 fun e w' => e = .returned (.int .i64 2) ∧ St w Nil w' H [(1, 0), (3, 1)] ∧ Only (Free w Nil) w1 w' from st_add h 7 9 (by decide) (by decide) (by decide))
  have d3 := Lib.hid (fun (w1 : World) (h : St w Nil w1 H [(1, 0), (3, 1)]) => show Calls Try.prog 12 #[.pointer (some ⟨H, 0, none⟩), .int .i64 1, .int .i64 3] w1 fun e w' => e = .returned (.int .i64 3) ∧ St w Nil w' H [(1, 0), (3, 1)] ∧ Only (Free w Nil) w1 w' from st_add h 1 3 (by decide) (by decide) (by decide))
  have d4 := Lib.hid (fun (w1 : World) (h : St w Nil w1 H [(1, 0), (3, 1)]) => show Calls Try.prog 13 #[.pointer (some ⟨H, 0, none⟩)] w1 fun e w' => e = .returned (.int .i64 2) ∧ w1 = w' from st_len h)
  have e1 := Lib.hid (fun (wa wb : World) (x : Option Addr) (k : Nat) (F : Hid (Fr wa wb (.slice x 2 k) [2, 3])) => show Calls Try.prog 21 #[.slice x 2 k, .slice (some ⟨wb.heap.size, 0, none⟩) 2 2] (wb.alloc (.cells #[.int .i64 2, .int .i64 3] 3)) fun e w' => e = .returned (.bool true) ∧ Only Nil wb w' from ints_lit F.out rfl (by decide) rfl)
  have e2 := Lib.hid (fun (wa wb : World) (x : Option Addr) (k : Nat) (F : Hid (Fr wa wb (.slice x 3 k) [1, 2, 4])) => show Calls Try.prog 21 #[.slice x 3 k, .slice (some ⟨wb.heap.size, 0, none⟩) 3 3] (wb.alloc (.cells #[.int .i64 1, .int .i64 2, .int .i64 4] 3)) fun e w' => e = .returned (.bool true) ∧ Only Nil wb w' from ints_lit F.out rfl (by decide) rfl)
  have e3 := Lib.hid (fun (wa wb : World) (x : Option Addr) (k : Nat) (F : Hid (Fr wa wb (.slice x 4 k) [4, 2, 3, 1])) => show Calls Try.prog 21 #[.slice x 4 k, .slice (some ⟨wb.heap.size, 0, none⟩) 4 4] (wb.alloc (.cells #[.int .i64 4, .int .i64 2, .int .i64 3, .int .i64 1] 3)) fun e w' => e = .returned (.bool true) ∧ Only Nil wb w' from ints_lit F.out rfl (by decide) rfl)
  go_enter Try.func7, Try.ntmps7
  go_wp2_with (first
    | (go_at_call 8; (with_reducible refine a0.out.mono ?_); rintro e w1 ⟨rfl, h, _⟩; have s0 := Lib.hid h; clear h a0)
    | (go_at_call 12; (with_reducible refine (a1.out _ s0.out).mono ?_); rintro e w2 ⟨rfl, h, _⟩; have s1 := Lib.hid h; clear h a1)
    | (go_at_call 12; (with_reducible refine (a2.out _ s1.out).mono ?_); rintro e w3 ⟨rfl, h, _⟩; have s2 := Lib.hid h; clear h a2)
    | (go_at_call 12; (with_reducible refine (a3.out _ s2.out).mono ?_); rintro e w4 ⟨rfl, h, _⟩; have s3 := Lib.hid h; clear h a3)
    | (go_at_call 12; (with_reducible refine (a4.out _ s3.out).mono ?_); rintro e w5 ⟨rfl, h, _⟩; have s4 := Lib.hid h; clear h a4)
    | (go_at_call 20; (with_reducible refine (b1.out _ s4.out).mono ?_); rintro e w6 ⟨x1, n1, k1, rfl, hn, hF⟩; obtain rfl : n1 = 2 := hn.symm; have s5 := Lib.hid (s4.out.nil hF.out.only); have f1 := hF; clear hF b1)
    | (go_at_call 21; (with_reducible refine (e1.out _ _ _ _ f1).mono ?_); rintro e w7 ⟨rfl, o⟩; have s6 := Lib.hid (s5.out.nil o); clear o)
    | (go_at_call 18; (with_reducible refine (b2.out _ s6.out).mono ?_); rintro e w8 ⟨x2, n2, k2, rfl, hn, hF⟩; obtain rfl : n2 = 3 := hn.symm; have s7 := Lib.hid (s6.out.nil hF.out.only); have f2 := hF; clear hF b2)
    | (go_at_call 21; (with_reducible refine (e2.out _ _ _ _ f2).mono ?_); rintro e w9 ⟨rfl, o⟩; have s8 := Lib.hid (s7.out.nil o); clear o)
    | (go_at_call 16; (with_reducible refine (b3.out _ s8.out).mono ?_); rintro e w10 ⟨x3, n3, k3, rfl, hn, hF⟩; obtain rfl : n3 = 4 := hn.symm; have s9 := Lib.hid (s8.out.nil hF.out.only); have f3 := hF; clear hF b3)
    | (go_at_call 21; (with_reducible refine (e3.out _ _ _ _ f3).mono ?_); rintro e w11 ⟨rfl, o⟩; have s10 := Lib.hid (s9.out.nil o); clear o)
    | (go_at_call 10; (with_reducible refine (c1.out _ s10.out).mono ?_); rintro e w12 ⟨rfl, h, _⟩; have s11 := Lib.hid h; clear h c1)
    | (go_at_call 10; (with_reducible refine (c2.out _ s11.out).mono ?_); rintro e w13 ⟨rfl, h, _⟩; have s12 := Lib.hid h; clear h c2)
    | (go_at_call 10; (with_reducible refine (c3.out _ s12.out).mono ?_); rintro e w14 ⟨rfl, h, _⟩; have s13 := Lib.hid h; clear h c3)
    | (go_at_call 12; (with_reducible refine (d1.out _ s13.out).mono ?_); rintro e w15 ⟨rfl, h, _⟩; have s14 := Lib.hid h; clear h d1)
    | (go_at_call 12; (with_reducible refine (d2.out _ s14.out).mono ?_); rintro e w16 ⟨rfl, h, _⟩; have s15 := Lib.hid h; clear h d2)
    | (go_at_call 12; (with_reducible refine (d3.out _ s15.out).mono ?_); rintro e w17 ⟨rfl, h, _⟩; have s16 := Lib.hid h; clear h d3)
    | (go_at_call 13; (with_reducible refine (d4.out _ s16.out).mono ?_); rintro e w18 ⟨rfl, rfl⟩; clear d4))
  go_ret
  exact ⟨rfl, s16.out.only⟩
end Go.Proofs.Ytkeaenkkencmdaa.Tr
