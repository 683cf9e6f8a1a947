/- stash: worlds that hold a line; New, Stash, Stashed, Front. -/
import Derived.Test.YtdhfmocjhcgicaaStB
namespace Go.Proofs.Ytdhfmocjhcgicaa.St
open Go.RowKit Go.Proofs.Ytdhfmocjhcgicaa

/-- S, and what is new between w and w'. -/
def Plus (S : Nat → Prop) (w w' : World) (k : Nat) : Prop := S k ∨ (w.heap.size ≤ k ∧ k < w'.heap.size)

/-- World w holds at block hb a line with room for n; va and vf are its rows, of A and of B; all its blocks are of S. -/
structure A0 (w : World) (S : Nat → Prop) (hb : Nat) (n : Nat) (va vf : Value) (A B : List Int) : Prop where
  head : w.heap[hb]? = some (.cells #[.int .i64 (n : Int), va, vf] 50 (0, 0))
  ra : Row w va A
  rb : Row w vf B
  oa : ∀ g, some g = va.ownBlock → S g
  ob : ∀ g, some g = vf.ownBlock → S g
  apart : ∀ g, some g = va.ownBlock → some g ≠ vf.ownBlock
  hS : S hb
  lt : ∀ q, S q → q < w.heap.size

section
variable {w w' : World} {S T : Nat → Prop} {hb n : Nat} {va vf : Value} {A B : List Int}
theorem A0.keep (h : A0 w S hb n va vf A B) (o : Only T w w') (hT : ∀ q, S q → ¬ T q) : A0 w' S hb n va vf A B :=
  ⟨(o.block hb (h.lt _ h.hS) (hT _ h.hS)).trans h.head, h.ra.keep o (fun g hg => hT g (h.oa g hg)), h.rb.keep o (fun g hg => hT g (h.ob g hg)), h.oa, h.ob, h.apart, h.hS, fun q hq => Nat.lt_of_lt_of_le (h.lt q hq) o.size⟩
theorem A0.nil (h : A0 w S hb n va vf A B) (o : Only Nil w w') : A0 w' S hb n va vf A B := h.keep o (fun _ _ h => h.elim)
theorem A0.c0 (h : A0 w S hb n va vf A B) : w.cell? ⟨hb, 0, none⟩ = some (.int .i64 (n : Int)) := by simp [World.cell?, h.head]
theorem A0.c1 (h : A0 w S hb n va vf A B) : w.cell? ⟨hb, 1, none⟩ = some va := by simp [World.cell?, h.head]
theorem A0.c2 (h : A0 w S hb n va vf A B) : w.cell? ⟨hb, 2, none⟩ = some vf := by simp [World.cell?, h.head]
theorem A0.fz (h : A0 w S hb n va vf A B) (i : Nat) : w.frozen? ⟨hb, i, none⟩ = false := by simp [World.frozen?, h.head]
theorem A0.lt_hb (h : A0 w S hb n va vf A B) : hb < w.heap.size := h.lt _ h.hS
theorem A0.na (h : A0 w S hb n va vf A B) {g : Nat} (hg : some g = va.ownBlock) : g ≠ hb := h.ra.ne hg h.head (by decide)
theorem A0.nb (h : A0 w S hb n va vf A B) {g : Nat} (hg : some g = vf.ownBlock) : g ≠ hb := h.rb.ne hg h.head (by decide)
theorem A0.wider (h : A0 w S hb n va vf A B) {T : Nat → Prop} (hT : ∀ q, S q → T q) (lt : ∀ q, T q → q < w.heap.size) : A0 w T hb n va vf A B :=
  ⟨h.head, h.ra, h.rb, fun g hg => hT g (h.oa g hg), fun g hg => hT g (h.ob g hg), h.apart, hT _ h.hS, lt⟩

/-- The stash's row has turned, and its new value is stored. -/
theorem A0.setA {w6 : World} {a a' : Option Addr} {len c len' c' : Nat} {A' : List Int} (h : A0 w S hb n va vf A B) (hv : va = .slice a len c)
    (hr : Row w6 (.slice a' len' c') A') (hon : Only (RowOf a) w w6) (hsn : SameOrNew w a a') :
    (w6.cell? ⟨hb, 1, none⟩ = some va ∧ w6.frozen? ⟨hb, 1, none⟩ = false ∧ hb < w6.heap.size) ∧
    A0 (w6.setCell ⟨hb, 1, none⟩ (.slice a' len' c')) (Plus S w (w6.setCell ⟨hb, 1, none⟩ (.slice a' len' c'))) hb n (.slice a' len' c') vf A' B ∧ Only S w (w6.setCell ⟨hb, 1, none⟩ (.slice a' len' c')) := by
  have hva : ∀ q, RowOf a q → some q = va.ownBlock := by rintro q ⟨x, hx, rfl⟩; rw [hv, hx]; rfl
  have o6 : Only S w w6 := hon.mono (fun q hq => h.oa q (hva q hq))
  have sz : (w6.setCell ⟨hb, 1, none⟩ (.slice a' len' c')).heap.size = w6.heap.size := by simp [World.setCell]
  have hhead : w6.heap[hb]? = some (.cells #[.int .i64 (n : Int), va, vf] 50 (0, 0)) := (hon.block hb h.lt_hb (fun hr => h.na (hva hb hr) rfl)).trans h.head
  have osc : Only (fun q => q = hb) w6 (w6.setCell ⟨hb, 1, none⟩ (.slice a' len' c')) := (Only.refl (fun q => q = hb) w6).setCell (p := ⟨hb, 1, none⟩) rfl _
  have hnew : ∀ q, some q = (Value.slice a' len' c').ownBlock → (some q = va.ownBlock ∨ w.heap.size ≤ q) ∧ q < w6.heap.size := by
    intro q hq
    refine ⟨?_, hr.lt hq⟩
    cases a' with
    | none => simp [Value.ownBlock] at hq
    | some x =>
      have hq' : q = x.block := by simpa [Value.ownBlock] using hq
      rcases hsn x rfl with ⟨y, hy, e⟩ | e
      · exact .inl (hva q ⟨y, hy, by omega⟩)
      · exact .inr (by omega)
  have hb6 : Row w6 vf B := h.rb.keep hon (fun g hg hr => h.apart g (hva g hr) hg)
  refine ⟨⟨by simp [World.cell?, hhead], by simp [World.frozen?, hhead], lt_of_block hhead⟩, ⟨by rw [heap_setCell_self _ hhead]; rfl, ?_, ?_, ?_, ?_, ?_, .inl h.hS, ?_⟩, o6.setCell (p := ⟨hb, 1, none⟩) h.hS _⟩
  · exact hr.keep osc (fun g hg e => hr.ne hg hhead (by decide) e)
  · exact hb6.keep osc (fun g hg e => h.nb hg e)
  · intro g hg
    obtain ⟨h1, h2⟩ := hnew g hg
    rcases h1 with h1 | h1
    · exact .inl (h.oa g h1)
    · exact .inr ⟨h1, by omega⟩
  · exact fun g hg => .inl (h.ob g hg)
  · intro g hg
    rcases (hnew g hg).1 with h1 | h1
    · exact h.apart g h1
    · intro e
      have := h.rb.lt e
      omega
  · rintro q (hq | hq)
    · have := h.lt q hq
      have := o6.size
      omega
    · exact hq.2

/-- The front's row has turned, and its new value is stored. -/
theorem A0.setF {w6 : World} {a a' : Option Addr} {len c len' c' : Nat} {B' : List Int} (h : A0 w S hb n va vf A B) (hv : vf = .slice a len c)
    (hr : Row w6 (.slice a' len' c') B') (hon : Only (RowOf a) w w6) (hsn : SameOrNew w a a') :
    (w6.cell? ⟨hb, 2, none⟩ = some vf ∧ w6.frozen? ⟨hb, 2, none⟩ = false ∧ hb < w6.heap.size) ∧
    A0 (w6.setCell ⟨hb, 2, none⟩ (.slice a' len' c')) (Plus S w (w6.setCell ⟨hb, 2, none⟩ (.slice a' len' c'))) hb n va (.slice a' len' c') A B' ∧ Only S w (w6.setCell ⟨hb, 2, none⟩ (.slice a' len' c')) := by
  have hva : ∀ q, RowOf a q → some q = vf.ownBlock := by rintro q ⟨x, hx, rfl⟩; rw [hv, hx]; rfl
  have o6 : Only S w w6 := hon.mono (fun q hq => h.ob q (hva q hq))
  have sz : (w6.setCell ⟨hb, 2, none⟩ (.slice a' len' c')).heap.size = w6.heap.size := by simp [World.setCell]
  have hhead : w6.heap[hb]? = some (.cells #[.int .i64 (n : Int), va, vf] 50 (0, 0)) := (hon.block hb h.lt_hb (fun hr => h.nb (hva hb hr) rfl)).trans h.head
  have osc : Only (fun q => q = hb) w6 (w6.setCell ⟨hb, 2, none⟩ (.slice a' len' c')) := (Only.refl (fun q => q = hb) w6).setCell (p := ⟨hb, 2, none⟩) rfl _
  have hnew : ∀ q, some q = (Value.slice a' len' c').ownBlock → (some q = vf.ownBlock ∨ w.heap.size ≤ q) ∧ q < w6.heap.size := by
    intro q hq
    refine ⟨?_, hr.lt hq⟩
    cases a' with
    | none => simp [Value.ownBlock] at hq
    | some x =>
      have hq' : q = x.block := by simpa [Value.ownBlock] using hq
      rcases hsn x rfl with ⟨y, hy, e⟩ | e
      · exact .inl (hva q ⟨y, hy, by omega⟩)
      · exact .inr (by omega)
  have ha6 : Row w6 va A := h.ra.keep hon (fun g hg hr => h.apart g hg (hva g hr))
  refine ⟨⟨by simp [World.cell?, hhead], by simp [World.frozen?, hhead], lt_of_block hhead⟩, ⟨by rw [heap_setCell_self _ hhead]; rfl, ?_, ?_, ?_, ?_, ?_, .inl h.hS, ?_⟩, o6.setCell (p := ⟨hb, 2, none⟩) h.hS _⟩
  · exact ha6.keep osc (fun g hg e => h.na hg e)
  · exact hr.keep osc (fun g hg e => hr.ne hg hhead (by decide) e)
  · exact fun g hg => .inl (h.oa g hg)
  · intro g hg
    obtain ⟨h1, h2⟩ := hnew g hg
    rcases h1 with h1 | h1
    · exact .inl (h.ob g h1)
    · exact .inr ⟨h1, by omega⟩
  · intro g hg e
    rcases (hnew g e).1 with h1 | h1
    · exact h.apart g hg h1
    · have := h.ra.lt hg
      omega
  · rintro q (hq | hq)
    · have := h.lt q hq
      have := o6.size
      omega
    · exact hq.2
end

/-- World w holds at hb a line with room for n: A in its stash, F in its front. -/
def At (w : World) (S : Nat → Prop) (hb n : Nat) (A F : List Int) : Prop := ∃ va vf, A0 w S hb n va vf A F.reverse ∧ A.length ≤ n ∧ n ≤ 64
section
variable {w w' : World} {S T : Nat → Prop} {hb n : Nat} {A F : List Int}
theorem At.keep (h : At w S hb n A F) (o : Only T w w') (hT : ∀ q, S q → ¬ T q) : At w' S hb n A F := by
  obtain ⟨va, vf, a, l⟩ := h
  exact ⟨va, vf, a.keep o hT, l⟩
theorem At.nil (h : At w S hb n A F) (o : Only Nil w w') : At w' S hb n A F := h.keep o (fun _ _ h => h.elim)
theorem At.lt (h : At w S hb n A F) : ∀ q, S q → q < w.heap.size := by obtain ⟨_, _, a, _⟩ := h; exact a.lt
theorem At.wider (h : At w S hb n A F) {T : Nat → Prop} (hT : ∀ q, S q → T q) (lt : ∀ q, T q → q < w.heap.size) : At w T hb n A F := by
  obtain ⟨va, vf, a, l⟩ := h
  exact ⟨va, vf, a.wider hT lt, l⟩
theorem At.few (h : At w S hb n A F) : A.length ≤ n ∧ n ≤ 64 := by obtain ⟨_, _, _, l⟩ := h; exact l
end

/-- How much room New(r) gives. -/
def rm (r : Int) : Nat := (min (max r 0) 64).toNat
theorem rm_le (r : Int) : rm r ≤ 64 := by unfold rm; omega
theorem rm_eq (r : Int) : (rm r : Int) = min (max r 0) 64 := by unfold rm; omega

theorem new_any (r : Int) (w : World) : Calls Try.prog 9 #[.int .i64 r] w fun e w' =>
    e = .returned (.pointer (some ⟨w.heap.size, 0, none⟩)) ∧ At w' (fun q => q = w.heap.size) w.heap.size (rm r) [] [] ∧ Only Nil w w' := by
  have hk := rm_eq r
  have fin := Lib.hid (fun (x : Int) (hx : x = (rm r : Int)) => show At (w.alloc (.cells #[.int .i64 x, .slice none 0 0, .slice none 0 0] 50)) (fun q => q = w.heap.size) w.heap.size (rm r) [] [] from by
    subst hx
    exact ⟨_, _, ⟨heap_new w _, Row.none _, Row.none _, fun g hg => by simp [Value.ownBlock] at hg, fun g hg => by simp [Value.ownBlock] at hg, fun g hg => by simp [Value.ownBlock] at hg, rfl, fun q hq => by subst hq; simp⟩, by simp, rm_le r⟩)
  go_enter Try.func9, Try.ntmps9
  go_wp2
  go_ret
  refine ⟨by simp, ?_, (Only.refl Nil w).alloc _⟩
  exact fin.out _ (by rw [hk])

theorem stash_full {w : World} {S : Nat → Prop} {hb n : Nat} {A F : List Int} (h : At w S hb n A F) (id : Int) (hf : A.length = n) :
    Calls Try.prog 12 #[.pointer (some ⟨hb, 0, none⟩), .int .u64 id] w fun e w' => e = .returned (.int .i64 4) ∧ Only Nil w w' := by
  obtain ⟨va, vf, a, hl, h64⟩ := h
  obtain ⟨x, c, rfl⟩ := a.ra.slice
  have c0 := a.c0
  have c1 := a.c1
  have lt := a.lt_hb
  have o := Lib.hid (fun m => (Only.refl Nil w).drewN m)
  rw [hf] at c1
  clear a hl hf
  go_enter Try.func12, Try.ntmps12
  go_wp2
  go_quiet (fail)
  go_wp2
  go_ret
  exact ⟨rfl, o.out _⟩

set_option maxHeartbeats 400000 in
theorem stash_ok {w : World} {S : Nat → Prop} {hb n : Nat} {A F : List Int} (h : At w S hb n A F) (id : Int) (hf : A.length < n) :
    Calls Try.prog 12 #[.pointer (some ⟨hb, 0, none⟩), .int .u64 id] w fun e w' => e = .returned (.int .i64 0) ∧ Hid (At w' (Plus S w w') hb n (A ++ [id]) F ∧ Only S w w') := by
  obtain ⟨va, vf, a, hl, h64⟩ := h
  obtain ⟨x, c, hv⟩ := a.ra.slice
  have c0 := a.c0
  have c1 := a.c1
  have lt := a.lt_hb
  have step := Lib.hid (fun (m : Nat) => show ∃ a' c' w5, (Builtin.append_ #[26, 26] 26 #[.slice x A.length c, .slice (some ⟨(w.drewN m).heap.size, 0, none⟩) 1 1]).run Try.prog ((w.drewN m).alloc (.cells #[.int .u64 id] 30)) = .ok (.slice a' (A.length + 1) c') w5 ∧
      (w5.cell? ⟨hb, 1, none⟩ = some va ∧ w5.frozen? ⟨hb, 1, none⟩ = false ∧ hb < w5.heap.size) ∧
      Hid (At (w5.setCell ⟨hb, 1, none⟩ (.slice a' (A.length + 1) c')) (Plus S w (w5.setCell ⟨hb, 1, none⟩ (.slice a' (A.length + 1) c'))) hb n (A ++ [id]) F ∧ Only S w (w5.setCell ⟨hb, 1, none⟩ (.slice a' (A.length + 1) c'))) from by
    have oD : Only Nil w (w.drewN m) := (Only.refl Nil w).drewN m
    have a1 := a.nil oD
    have hr := a1.ra
    rw [hv] at hr
    obtain ⟨a', c', w5, hrun, hk⟩ := push hr rfl id (by omega)
    obtain ⟨k1, k2, k3⟩ := hk.out
    obtain ⟨f1, f2, f3⟩ := a1.setA hv k1 k2 k3
    exact ⟨a', c', w5, hrun, f1, Lib.hid ⟨⟨_, _, f2, by rw [List.length_append, List.length_singleton]; omega, h64⟩, (oD.nilTo _).trans f3⟩⟩)
  have hne : ((A.length : Int) == (n : Int)) = false := by rw [beq_eq_false_iff_ne]; omega
  subst hv
  generalize A.length = len at *
  clear a hf hl h64
  go_enter Try.func12, Try.ntmps12
  go_wp2
  go_quiet (fail)
  obtain ⟨a', c', w5, hrun, ⟨g1, g2, g3⟩, fin⟩ := step.out nq
  have hrun' := Lib.hid hrun
  have d1 : (w.drewN nq).cell? ⟨hb, 1, none⟩ = some (.slice x len c) := c1
  clear hrun step
  go_wp2_with (at_builtin; refine Lib.wpList_append_run _ rfl (.tmp 19) (.tmp 21) 26 26 rfl _ _ rfl rfl _ _ hrun'.out ?_)
  go_ret
  exact ⟨rfl, fin⟩
end Go.Proofs.Ytdhfmocjhcgicaa.St
