/- check: slices.IndexFunc, ContainsFunc, holds, isNew at what programs are made of. -/
import Derived.Test.YthanclicnkjmiaaGreatDoorChE
import Derived.Test.YthanclicnkjmiaaGreatDoorCtA
set_option linter.unusedVariables false
namespace Go.Proofs.YthanclicnkjmiaaGreatDoor.Ch
open Go.RowKit Go.Proofs.YthanclicnkjmiaaGreatDoor Lx Ps

theorem cin_pre {α : Type} {D : Nat} {w : World} {a : Option Addr} {n s c : Nat} {f : α → List Value} {Z : List α} (hf : ∀ x, (f x).length = s) (h : CIn D w (.slice a n c) n s (Z.flatMap f)) (hZ : Z.length = n) (k : Nat) (hk : k ≤ n) :
    CIn D w (.slice a k c) k s ((Z.take k).flatMap f) := by
  obtain ⟨a', c0, ⟨h1, h1c⟩, h2, h3⟩ := h
  simp only [Value.slice.injEq] at h1
  obtain ⟨rfl, _, rfl⟩ := h1
  have hl : ∀ L : List α, (L.flatMap f).length = L.length * s := fun L => by
    induction L with
    | nil => simp
    | cons a L ih => rw [List.flatMap_cons, List.length_append, hf, ih, List.length_cons, Nat.add_mul]; omega
  have hp : (Z.take k).flatMap f ++ (Z.drop k).flatMap f = Z.flatMap f := by rw [← List.flatMap_append, List.take_append_drop]
  have hle : ((Z.take k).flatMap f).length ≤ (Z.flatMap f).length := by rw [← hp, List.length_append]; omega
  refine ⟨a, c, ⟨rfl, by omega⟩, by rw [hl, List.length_take]; congr 1; omega, fun i hi => ?_⟩
  obtain ⟨b, off, ha, hD, hlt, hc⟩ := h3 i (by omega)
  refine ⟨b, off, ha, hD, hlt, fun j hj => (hc j (by omega)).trans ?_⟩
  rw [← hp, List.getElem?_append_left hj]
def memB {β : Type} [DecidableEq β] (k : β) (K : List β) : Bool := decide (k ∈ K)
theorem any_mem {α β : Type} [DecidableEq β] (L : List α) (f : α → β) (k : β) : (L.any fun x => decide (f x = k)) = memB k (L.map f) := by
  unfold memB; rw [Bool.eq_iff_iff]; simp
theorem new_eq {α β : Type} [DecidableEq β] {L : List α} {i : Nat} {x : α} {f : α → β} (h : L[i]? = some x) : isNew (L.map f) i = !memB (f x) ((L.take i).map f) := by
  unfold isNew memB
  rw [List.getElem?_map, h, ← List.map_take]; rfl
theorem run_cut {P : Program} {t e : TypeId} {s : Nat} (hu : P.underlying t = some (.slice e)) (hs : ∀ w, (Go.sizeOf e).run P w = .ok s w) (W : World) (q off n c i : Nat) (hi : i ≤ n) (hc : n ≤ c) :
    (Instr.slice t (.slice (some ⟨q, off, none⟩) n c) none (some (.int .i64 (i : Int))) none).run P W = .ok (.slice (some ⟨q, off, none⟩) i c) W := by
  have h3 : i ≤ c := by omega
  simp [Instr.slice, Instr.sliceBounds, Instr.sliceBound, asIntOf, run_underlying hu, hs, Sem.run_bind, Result.andThen, h3, Addr.add]
theorem eql_head (e f : Wd × Bool × Int) (w : World) : (binOp .eql 234 (.agg #[.string (bs e.1), .bool e.2.1, .int .i64 e.2.2]) (.agg #[.string (bs f.1), .bool f.2.1, .int .i64 f.2.2])).run Tryz.prog w = .ok (.bool (decide (e = f))) w := by
  have hp : Tryz.prog.stoodInHeld 234 = false := by kernel_rfl
  have hu := Tryz.underlying234
  have h9 := Tryz.underlying9
  have h3 := Tryz.underlying3
  have h4 := Tryz.underlying4
  rw [run_eql_struct]
  simp [go_sem, hp, hu, h9, h3, h4]
  obtain ⟨a, b, c⟩ := e
  obtain ⟨d, e, f⟩ := f
  simp only [toList_bs, Prod.mk.injEq]
  (repeat' split) <;> simp_all
theorem guard_head (x y : Operand) (xs ys : Array Value) (w : World) : (eqGuard .eql 234 x y (.agg xs) (.agg ys)).run Tryz.prog w = .ok () w := run_eqGuard_agg w _ _ _ _ _ _ (by kernel_rfl)

/-! ### api.Kind -/
def Pred_kd (w0 : World) (fv : Value) (p : Kd → Bool) : Prop :=
  ∃ g cs cb, fv = .func (.func g) cs cb ∧ (∀ args w, (callFunc g args).run Tryz.prog w = .ok (.enter g args) w) ∧ ∀ (w : World) (x : Kd) (a1 : Option Addr) (n1 c1 : Nat) (a2 : Option Addr) (n2 c2 : Nat), Only Nil w0 w → Calls Tryz.prog g (cs ++ #[.agg #[.string (bs x.name), .int .i64 x.limit, .int .i64 x.within, .slice a1 n1 c1, .slice a2 n2 c2]] ++ cb) w fun e w' => e = .returned (.bool (p x)) ∧ Only Nil w w'
theorem Pred_kd.keep {w0 w : World} {fv : Value} {p : Kd → Bool} (h : Pred_kd w0 fv p) (o : Only Nil w0 w) : Pred_kd w fv p := by
  obtain ⟨g, cs, cb, h1, h2, h3⟩ := h; exact ⟨g, cs, cb, h1, h2, fun w' x a1 n1 c1 a2 n2 c2 o' => h3 w' x a1 n1 c1 a2 n2 c2 (o.trans o')⟩
set_option maxHeartbeats 2000000 in
set_option maxRecDepth 100000 in
theorem idx_kd {D : Nat} {w : World} {a : Option Addr} {n c : Nat} {L : List Kd} (hx : XK D w (.slice a n c) L) (hn : L.length = n) (hb : n ≤ 140737488355328) {fv : Value} {p : Kd → Bool} (h : Pred_kd w fv p) (z : Bool) (hz : L.any p = z) :
    Calls Tryz.prog 206 #[.slice a n c, fv] w fun e w' => Hid ((z = true ∧ ∃ i : Nat, e = .returned (.int .i64 (i : Int))) ∨ (z = false ∧ e = .returned (.int .i64 (-1)))) ∧ Only Nil w w' := by
  have HZ := Lib.hid hz
  clear hz
  obtain ⟨g, cs, cb, rfl, eg, hcl⟩ := h
  have HX := Lib.hid hx
  have HC := Lib.hid hcl
  have HN := Lib.hid hn
  have hb' : (n : Int) ≤ 140737488355328 := by omega
  clear hx hcl hn hb
  go_enter Tryz.func206, Tryz.ntmps206
  go_wp2
  go_loopw [8] (fun s8 wr => ∃ (i : Nat), i ≤ n ∧ s8 = .int .i64 (i : Int) ∧ Hid (∀ j, j < i → ∀ y, L[j]? = some y → p y = false) ∧ Hid (Only Nil w wr))
    (fun s8 _ => n - (intOf s8).toNat)
  case atStart => exact ⟨0, Nat.zero_le _, rfl, Lib.hid (fun j hj => absurd hj (Nat.not_lt_zero j)), Lib.hid (Only.refl _ _)⟩
  case round =>
    obtain ⟨i, hi, rfl, hE, hO⟩ := hrel
    by_cases hin : i < n
    · obtain ⟨s1, s2, ⟨q, off, rfl, hlt, hc⟩, g1, g2⟩ := (HX.out.keep hO.out (nilS · D)).at_ HN.out i hin
      have hil : i < L.length := by rw [HN.out]; exact hin
      have HL := Lib.hid (List.getElem?_eq_getElem hil)
      have HM := Lib.hid (List.getElem_mem hil)
      generalize L[i] = x at *
      have e0 : wr.cell? ⟨q, off + i * 5, none⟩ = some (.string (bs x.name)) := hc 0 (by decide)
      have e1 : wr.cell? ⟨q, off + i * 5 + 1, none⟩ = some (.int .i64 x.limit) := hc 1 (by decide)
      have e2 : wr.cell? ⟨q, off + i * 5 + 2, none⟩ = some (.int .i64 x.within) := hc 2 (by decide)
      obtain ⟨a1, c1, rfl⟩ := g1.slice
      have e3 : wr.cell? ⟨q, off + i * 5 + 3, none⟩ = some (.slice a1 (x.cases.length) c1) := hc 3 (by decide)
      obtain ⟨a2, c2, rfl⟩ := g2.slice
      have e4 : wr.cell? ⟨q, off + i * 5 + 4, none⟩ = some (.slice a2 (x.states.length) c2) := hc 4 (by decide)
      clear hc
      have hin' : (i : Int) < (n : Int) := by omega
      have HF := Lib.hid (HC.out wr x a1 (x.cases.length) c1 a2 (x.states.length) c2 hO.out)
      cases hp : p x with
      | false =>
        rw [hp] at HF
        have HP := Lib.hid hp
        clear hp
        go_wp2_with (go_at_fn g; refine HF.out.mono ?_; rintro e w1 ⟨rfl, o1⟩; have O1 := Lib.hid (hO.out.trans o1))
        go_roundw
        case rel => exact ⟨i + 1, by omega, by go_num, Lib.hid (fun j hj y hy => by
          rcases Nat.lt_or_ge j i with h | h
          · exact hE.out j h y hy
          · obtain rfl : j = i := by omega
            rw [HL.out] at hy; rw [← Option.some.inj hy]; exact HP.out), O1⟩
        case measure => simp [intOf]; omega
      | true =>
        rw [hp] at HF
        have HP := Lib.hid hp
        clear hp
        go_wp2_with (go_at_fn g; refine HF.out.mono ?_; rintro e w1 ⟨rfl, o1⟩; have O1 := Lib.hid (hO.out.trans o1))
        go_ret
        exact ⟨Lib.hid (Or.inl ⟨HZ.out.symm.trans (List.any_eq_true.2 ⟨x, HM.out, HP.out⟩), i, rfl⟩), O1.out⟩
    · obtain rfl : i = n := by omega
      have hk0 : ¬ (i : Int) < (i : Int) := by omega
      have HF := Lib.hid (show L.any p = false from by
        rw [List.any_eq_false]
        intro y hy
        obtain ⟨j, hj, rfl⟩ := List.mem_iff_getElem.1 hy
        rw [hE.out j (by rw [← HN.out]; exact hj) _ (List.getElem?_eq_getElem hj)]
        exact Bool.false_ne_true)
      clear hin
      go_wp2
      go_ret
      exact ⟨Lib.hid (Or.inr ⟨HZ.out.symm.trans HF.out, rfl⟩), hO.out⟩
theorem con_kd {D : Nat} {w : World} {a : Option Addr} {n c : Nat} {L : List Kd} (hx : XK D w (.slice a n c) L) (hn : L.length = n) (hb : n ≤ 140737488355328) {fv : Value} {p : Kd → Bool} (h : Pred_kd w fv p) :
    Calls Tryz.prog 172 #[.slice a n c, fv] w fun e w' => e = .returned (.bool (L.any p)) ∧ Only Nil w w' := by
  have HI := Lib.hid (idx_kd hx hn hb h _ rfl)
  obtain ⟨g, cs, cb, rfl, eg, hcl⟩ := h
  clear hx hcl hn hb
  cases hp : L.any p with
  | true =>
    have HJ : Hid (Calls Tryz.prog 206 #[.slice a n c, .func (.func g) cs cb] w fun e w' => ∃ i : Nat, e = .returned (.int .i64 (i : Int)) ∧ Only Nil w w') := Lib.hid (HI.out.mono (fun e w' ⟨h, o⟩ => by
      rcases h.out with ⟨_, i, hi⟩ | ⟨h, _⟩
      · exact ⟨i, hi, o⟩
      · rw [hp] at h; cases h))
    clear HI
    go_enter Tryz.func172, Tryz.ntmps172
    go_wp2_with (go_at_call 206; refine HJ.out.mono ?_; rintro e w1 ⟨i, rfl, o1⟩; have h0 : (0 : Int) ≤ (i : Int) := Int.natCast_nonneg i)
    go_ret
    exact ⟨by first | rfl | (simp; done), o1⟩
  | false =>
    have HJ : Hid (Calls Tryz.prog 206 #[.slice a n c, .func (.func g) cs cb] w fun e w' => e = .returned (.int .i64 (-1)) ∧ Only Nil w w') := Lib.hid (HI.out.mono (fun e w' ⟨h, o⟩ => by
      rcases h.out with ⟨h, _⟩ | ⟨_, hi⟩
      · rw [hp] at h; cases h
      · exact ⟨hi, o⟩))
    clear HI
    go_enter Tryz.func172, Tryz.ntmps172
    go_wp2_with (go_at_call 206; refine HJ.out.mono ?_; rintro e w1 ⟨rfl, o1⟩)
    go_ret
    exact ⟨by first | rfl | (simp; done), o1⟩
theorem key_kd (x : Kd) (a1 : Option Addr) (n1 c1 : Nat) (a2 : Option Addr) (n2 c2 : Nat) (w : World) : Calls Tryz.prog 102 #[.agg #[.string (bs x.name), .int .i64 x.limit, .int .i64 x.within, .slice a1 n1 c1, .slice a2 n2 c2]] w fun e w' => e = .returned (.string (bs x.name)) ∧ Only Nil w w' := by
  have o1 : Only Nil w (w.alloc (.cells #[.string (bs x.name), .int .i64 x.limit, .int .i64 x.within, .slice a1 n1 c1, .slice a2 n2 c2] 56)) := (Only.refl Nil w).alloc _
  go_enter Tryz.func102, Tryz.ntmps102
  go_wp2
  go_ret
  exact ⟨rfl, o1⟩
set_option maxHeartbeats 1000000 in
set_option maxRecDepth 100000 in
theorem holds1_kd (k : Wd) (q1 q2 : Nat) {w : World} (k1 : w.cell? ⟨q1, 0, none⟩ = some (.func (.func 102) #[] #[])) (k2 : w.cell? ⟨q2, 0, none⟩ = some (.string (bs k))) (x : Kd) (a1 : Option Addr) (n1 c1 : Nat) (a2 : Option Addr) (n2 c2 : Nat) :
    Calls Tryz.prog 173 #[.agg #[.string (bs x.name), .int .i64 x.limit, .int .i64 x.within, .slice a1 n1 c1, .slice a2 n2 c2], .pointer (some ⟨q1, 0, none⟩), .pointer (some ⟨q2, 0, none⟩)] w fun e w' => e = .returned (.bool (decide (x.name = k))) ∧ Only Nil w w' := by
  have HB := Lib.hid (bx_new w [.string (bs x.name), .int .i64 x.limit, .int .i64 x.within, .slice a1 n1 c1, .slice a2 n2 c2] 56)
  have O1 := Lib.hid ((Only.refl Nil w).alloc (.cells #[.string (bs x.name), .int .i64 x.limit, .int .i64 x.within, .slice a1 n1 c1, .slice a2 n2 c2] 56))
  have hq : ((bs (x.name)).toList == (bs k).toList) = decide (x.name = k) := bs_beq _ _
  have d1 := only_cell0 O1.out k1
  have d2 := only_cell0 O1.out k2
  have HK := Lib.hid (key_kd x a1 n1 c1 a2 n2 c2)
  generalize decide (x.name = k) = z at *
  clear k1 k2
  go_enter Tryz.func173, Tryz.ntmps173
  go_upto_region 1 with (fail)
  change Hid (Bx (w.alloc (.cells #[.string (bs x.name), .int .i64 x.limit, .int .i64 x.within, .slice a1 n1 c1, .slice a2 n2 c2] 56)) w.heap.size _ _) at HB
  generalize w.alloc (.cells #[.string (bs x.name), .int .i64 x.limit, .int .i64 x.within, .slice a1 n1 c1, .slice a2 n2 c2] 56) = w1 at *
  generalize w.heap.size = B at *
  have b0 := HB.out.cell 0 (v := .string (bs x.name)) rfl
  have b1 := HB.out.cell 1 (v := .int .i64 x.limit) rfl
  have b2 := HB.out.cell 2 (v := .int .i64 x.within) rfl
  have b3 := HB.out.cell 3 (v := .slice a1 n1 c1) rfl
  have b4 := HB.out.cell 4 (v := .slice a2 n2 c2) rfl
  go_region_held3 (fun w' => w'.cell? ⟨q1, 0, none⟩ = some (.func (.func 102) #[] #[]) ∧ w'.cell? ⟨B, 0, none⟩ = some (.string (bs x.name)) ∧ w'.cell? ⟨B, 1, none⟩ = some (.int .i64 x.limit) ∧ w'.cell? ⟨B, 2, none⟩ = some (.int .i64 x.within) ∧ w'.cell? ⟨B, 3, none⟩ = some (.slice a1 n1 c1) ∧ w'.cell? ⟨B, 4, none⟩ = some (.slice a2 n2 c2) ∧ w'.cell? ⟨q2, 0, none⟩ = some (.string (bs k)))
    (first | exact ⟨d1, b0, b1, b2, b3, b4, d2⟩ | exact ⟨only_cell0 o2 d1, only_cell0 o2 b0, only_cell0 o2 b1, only_cell0 o2 b2, only_cell0 o2 b3, only_cell0 o2 b4, only_cell0 o2 d2⟩ | go_keep)
    ((go_at_call 102; refine (HK.out _).mono ?_; rintro e w2 ⟨rfl, o2⟩; have O2 := Lib.hid o2))
  go_wp2
  go_ret
  exact ⟨by first | rfl | (rw [hq]; done) | (rw [hq]; rfl), O1.out.trans (by first | exact O2.out | exact (Only.refl Nil w1).drew.trans O2.out)⟩
theorem holds_kd (k : Wd) {D : Nat} {w : World} {a : Option Addr} {n c : Nat} {L : List Kd} (hx : XK D w (.slice a n c) L) (hn : L.length = n) (hb : n ≤ 140737488355328) :
    Calls Tryz.prog 140 #[.slice a n c, .func (.func 102) #[] #[], .string (bs k)] w fun e w' => e = .returned (.bool (memB k (L.map Kd.name))) ∧ Only Nil w w' := by
  obtain ⟨W, hW⟩ : ∃ W, W = (w.alloc (.cells #[.func (.func 102) #[] #[]] 175)).alloc (.cells #[.string (bs k)] 9) := ⟨_, rfl⟩
  have o : Only Nil w W := hW ▸ ((Only.refl Nil w).alloc _).alloc _
  have h1 := heap_new w (.cells #[.func (.func 102) #[] #[]] 175)
  have h2 := heap_new (w.alloc (.cells #[.func (.func 102) #[] #[]] 175)) (.cells #[.string (bs k)] 9)
  have e1 : (w.alloc (.cells #[.func (.func 102) #[] #[]] 175)).heap.size = w.heap.size + 1 := by simp
  rw [e1, ← hW] at h2
  have k0 : (w.alloc (.cells #[.func (.func 102) #[] #[]] 175)).cell? ⟨w.heap.size, 0, none⟩ = some (.func (.func 102) #[] #[]) := by simp only [World.cell?, h1]; rfl
  have k1 : W.cell? ⟨w.heap.size, 0, none⟩ = some (.func (.func 102) #[] #[]) := hW ▸ only_cell0 ((Only.refl Nil (w.alloc (.cells #[.func (.func 102) #[] #[]] 175))).alloc _) k0
  have k2 : W.cell? ⟨w.heap.size + 1, 0, none⟩ = some (.string (bs k)) := by simp only [World.cell?, h2]; rfl
  have HC := Lib.hid (con_kd (hx.keep o (nilS · D)) hn hb (p := fun x => decide (x.name = k)) ⟨173, #[], #[.pointer (some ⟨w.heap.size, 0, none⟩), .pointer (some ⟨w.heap.size + 1, 0, none⟩)], rfl, enters_of Tryz.func173 (by kernel_rfl) rfl,
    fun w' x a1 n1 c1 a2 n2 c2 o' => holds1_kd k w.heap.size (w.heap.size + 1) (only_cell0 o' k1) (only_cell0 o' k2) x a1 n1 c1 a2 n2 c2⟩)
  have e2 : (L.any fun x => decide (x.name = k)) = memB k (L.map Kd.name) := any_mem L Kd.name k
  rw [e2] at HC
  have O := Lib.hid o
  generalize memB k (L.map Kd.name) = z at *
  clear hx hn hb o h1 h2 k0 k1 k2 e2
  go_enter Tryz.func140, Tryz.ntmps140
  go_upto_region 1 with (fail)
  (try simp only [World.size_alloc]); rw [← hW]; clear hW e1
  go_wp2_with (go_at_call 172; refine HC.out.mono ?_; rintro e w3 ⟨rfl, o3⟩)
  go_ret
  exact ⟨rfl, O.out.trans o3⟩
theorem pre_kd {D : Nat} {w : World} {a : Option Addr} {n c : Nat} {L : List Kd} (hx : XK D w (.slice a n c) L) (hn : L.length = n) (i : Nat) (hi : i ≤ n) : XK D w (.slice a i c) (L.take i) := by
  obtain ⟨Z, hz, hc, hi2⟩ := hx
  have hl : Z.length = n := by rw [← hn, ← hz, List.length_map]
  rw [hn] at hc
  have := cin_pre (f := kdCs) (s := 5) (fun _ => rfl) hc hl i hi
  have hlen : (L.take i).length = i := by rw [List.length_take]; omega
  refine ⟨Z.take i, by rw [List.map_take, hz], by rw [hlen]; exact this, fun x hx => hi2 x (List.mem_of_mem_take hx)⟩
theorem cap_kd {D : Nat} {w : World} {a : Option Addr} {n c : Nat} {L : List Kd} (hx : XK D w (.slice a n c) L) : n ≤ c := by
  obtain ⟨Z, hz, hc, _⟩ := hx
  exact hc.cap
set_option maxHeartbeats 1000000 in
set_option maxRecDepth 100000 in
theorem isNew_kd {D : Nat} {w : World} {a : Option Addr} {n c : Nat} {L : List Kd} (hx : XK D w (.slice a n c) L) (hn : L.length = n) (hb : n ≤ 140737488355328) (i : Nat) (hi : i < n) :
    Calls Tryz.prog 101 #[.slice a n c, .int .i64 (i : Int), .func (.func 102) #[] #[]] w fun e w' => e = .returned (.bool (isNew (L.map Kd.name) i)) ∧ Only Nil w w' := by
  have hcap := cap_kd hx
  have hil : i < L.length := by omega
  have hnew := new_eq (f := Kd.name) (List.getElem?_eq_getElem hil)
  have HP := Lib.hid (fun w' (o : Only Nil w w') => (pre_kd hx hn i (by omega)).keep o (nilS · D))
  have hlen : (L.take i).length = i := by rw [List.length_take]; omega
  have HH := Lib.hid (fun (k : Wd) w' (o : Only Nil w w') => holds_kd k (HP.out w' o) hlen (by omega))
  obtain ⟨s1, s2, ⟨q, off, rfl, hlt, hc⟩, g1, g2⟩ := hx.at_ hn i hi
  generalize L[i] = x at *
  have e0 : w.cell? ⟨q, off + i * 5, none⟩ = some (.string (bs x.name)) := hc 0 (by decide)
  have e1 : w.cell? ⟨q, off + i * 5 + 1, none⟩ = some (.int .i64 x.limit) := hc 1 (by decide)
  have e2 : w.cell? ⟨q, off + i * 5 + 2, none⟩ = some (.int .i64 x.within) := hc 2 (by decide)
  obtain ⟨a1, c1, rfl⟩ := g1.slice
  have e3 : w.cell? ⟨q, off + i * 5 + 3, none⟩ = some (.slice a1 (x.cases.length) c1) := hc 3 (by decide)
  obtain ⟨a2, c2, rfl⟩ := g2.slice
  have e4 : w.cell? ⟨q, off + i * 5 + 4, none⟩ = some (.slice a2 (x.states.length) c2) := hc 4 (by decide)
  clear hc
  have hsl : ∀ W : World, (Instr.slice 23 (.slice (some ⟨q, off, none⟩) n c) none (some (.int .i64 (i : Int))) none).run Tryz.prog W = .ok (.slice (some ⟨q, off, none⟩) i c) W := fun W => run_cut Tryz.underlying23 Tryz.sizeOf56 W q off n c i (by omega) hcap
  have h0 : (0 : Int) ≤ (i : Int) := Int.natCast_nonneg i
  have h1 : (i : Int) < (n : Int) := by omega
  have HK := Lib.hid (fun w' => key_kd x a1 (x.cases.length) c1 a2 (x.states.length) c2 w')
  have HG := Lib.hid (fun w' (o : Only Nil w w') => HH.out x.name w' o)
  rw [hnew]
  change Hid (∀ w', Only Nil w w' → Calls Tryz.prog 140 #[_, _, _] w' fun e w'' => e = .returned (.bool (memB (Kd.name x) ((L.take i).map Kd.name))) ∧ Only Nil w' w'') at HG
  generalize memB (Kd.name x) ((L.take i).map Kd.name) = z at *
  have OO := Lib.hid (show Only Nil w w.drew from (Only.refl Nil w).drew)
  clear HH HP hnew hx hlen hil hb hn hcap
  go_enter Tryz.func101, Tryz.ntmps101
  go_wp2
  go_region_held3 (fun w' => w'.cell? ⟨q, off + i * 5, none⟩ = some (.string (bs x.name)) ∧ w'.cell? ⟨q, off + i * 5 + 1, none⟩ = some (.int .i64 x.limit) ∧ w'.cell? ⟨q, off + i * 5 + 2, none⟩ = some (.int .i64 x.within) ∧ w'.cell? ⟨q, off + i * 5 + 3, none⟩ = some (.slice a1 (x.cases.length) c1) ∧ w'.cell? ⟨q, off + i * 5 + 4, none⟩ = some (.slice a2 (x.states.length) c2))
    (first | exact ⟨e0, e1, e2, e3, e4⟩ | exact ⟨only_cell0 OO.out e0, only_cell0 OO.out e1, only_cell0 OO.out e2, only_cell0 OO.out e3, only_cell0 OO.out e4⟩ | go_keep)
    (first
      | (go_at_call 102; refine (HK.out _).mono ?_; rintro e wn ⟨rfl, on⟩; have O9 := Lib.hid (OO.out.trans on); clear OO on; have OO := O9; clear O9)
      | (go_at_call 140; refine (HG.out _ OO.out).mono ?_; rintro e wn ⟨rfl, on⟩; have O9 := Lib.hid (OO.out.trans on); clear OO on; have OO := O9; clear O9))
  go_wp2
  go_ret
  exact ⟨rfl, OO.out⟩

/-! ### api.State -/
def Pred_sta (w0 : World) (fv : Value) (p : Sta → Bool) : Prop :=
  ∃ g cs cb, fv = .func (.func g) cs cb ∧ (∀ args w, (callFunc g args).run Tryz.prog w = .ok (.enter g args) w) ∧ ∀ (w : World) (x : Sta) (a1 : Option Addr) (n1 c1 : Nat), Only Nil w0 w → Calls Tryz.prog g (cs ++ #[.agg #[.string (bs x.name), .slice a1 n1 c1]] ++ cb) w fun e w' => e = .returned (.bool (p x)) ∧ Only Nil w w'
theorem Pred_sta.keep {w0 w : World} {fv : Value} {p : Sta → Bool} (h : Pred_sta w0 fv p) (o : Only Nil w0 w) : Pred_sta w fv p := by
  obtain ⟨g, cs, cb, h1, h2, h3⟩ := h; exact ⟨g, cs, cb, h1, h2, fun w' x a1 n1 c1 o' => h3 w' x a1 n1 c1 (o.trans o')⟩
set_option maxHeartbeats 2000000 in
set_option maxRecDepth 100000 in
theorem idx_sta {D : Nat} {w : World} {a : Option Addr} {n c : Nat} {L : List Sta} (hx : XS D w (.slice a n c) L) (hn : L.length = n) (hb : n ≤ 140737488355328) {fv : Value} {p : Sta → Bool} (h : Pred_sta w fv p) (z : Bool) (hz : L.any p = z) :
    Calls Tryz.prog 230 #[.slice a n c, fv] w fun e w' => Hid ((z = true ∧ ∃ i : Nat, e = .returned (.int .i64 (i : Int))) ∨ (z = false ∧ e = .returned (.int .i64 (-1)))) ∧ Only Nil w w' := by
  have HZ := Lib.hid hz
  clear hz
  obtain ⟨g, cs, cb, rfl, eg, hcl⟩ := h
  have HX := Lib.hid hx
  have HC := Lib.hid hcl
  have HN := Lib.hid hn
  have hb' : (n : Int) ≤ 140737488355328 := by omega
  clear hx hcl hn hb
  go_enter Tryz.func230, Tryz.ntmps230
  go_wp2
  go_loopw [8] (fun s8 wr => ∃ (i : Nat), i ≤ n ∧ s8 = .int .i64 (i : Int) ∧ Hid (∀ j, j < i → ∀ y, L[j]? = some y → p y = false) ∧ Hid (Only Nil w wr))
    (fun s8 _ => n - (intOf s8).toNat)
  case atStart => exact ⟨0, Nat.zero_le _, rfl, Lib.hid (fun j hj => absurd hj (Nat.not_lt_zero j)), Lib.hid (Only.refl _ _)⟩
  case round =>
    obtain ⟨i, hi, rfl, hE, hO⟩ := hrel
    by_cases hin : i < n
    · obtain ⟨s1, ⟨q, off, rfl, hlt, hc⟩, g1⟩ := (HX.out.keep hO.out (nilS · D)).at_ HN.out i hin
      have hil : i < L.length := by rw [HN.out]; exact hin
      have HL := Lib.hid (List.getElem?_eq_getElem hil)
      have HM := Lib.hid (List.getElem_mem hil)
      generalize L[i] = x at *
      have e0 : wr.cell? ⟨q, off + i * 2, none⟩ = some (.string (bs x.name)) := hc 0 (by decide)
      obtain ⟨a1, c1, rfl⟩ := g1.slice
      have e1 : wr.cell? ⟨q, off + i * 2 + 1, none⟩ = some (.slice a1 (x.rows.length) c1) := hc 1 (by decide)
      clear hc
      have hin' : (i : Int) < (n : Int) := by omega
      have HF := Lib.hid (HC.out wr x a1 (x.rows.length) c1 hO.out)
      cases hp : p x with
      | false =>
        rw [hp] at HF
        have HP := Lib.hid hp
        clear hp
        go_wp2_with (go_at_fn g; refine HF.out.mono ?_; rintro e w1 ⟨rfl, o1⟩; have O1 := Lib.hid (hO.out.trans o1))
        go_roundw
        case rel => exact ⟨i + 1, by omega, by go_num, Lib.hid (fun j hj y hy => by
          rcases Nat.lt_or_ge j i with h | h
          · exact hE.out j h y hy
          · obtain rfl : j = i := by omega
            rw [HL.out] at hy; rw [← Option.some.inj hy]; exact HP.out), O1⟩
        case measure => simp [intOf]; omega
      | true =>
        rw [hp] at HF
        have HP := Lib.hid hp
        clear hp
        go_wp2_with (go_at_fn g; refine HF.out.mono ?_; rintro e w1 ⟨rfl, o1⟩; have O1 := Lib.hid (hO.out.trans o1))
        go_ret
        exact ⟨Lib.hid (Or.inl ⟨HZ.out.symm.trans (List.any_eq_true.2 ⟨x, HM.out, HP.out⟩), i, rfl⟩), O1.out⟩
    · obtain rfl : i = n := by omega
      have hk0 : ¬ (i : Int) < (i : Int) := by omega
      have HF := Lib.hid (show L.any p = false from by
        rw [List.any_eq_false]
        intro y hy
        obtain ⟨j, hj, rfl⟩ := List.mem_iff_getElem.1 hy
        rw [hE.out j (by rw [← HN.out]; exact hj) _ (List.getElem?_eq_getElem hj)]
        exact Bool.false_ne_true)
      clear hin
      go_wp2
      go_ret
      exact ⟨Lib.hid (Or.inr ⟨HZ.out.symm.trans HF.out, rfl⟩), hO.out⟩
theorem con_sta {D : Nat} {w : World} {a : Option Addr} {n c : Nat} {L : List Sta} (hx : XS D w (.slice a n c) L) (hn : L.length = n) (hb : n ≤ 140737488355328) {fv : Value} {p : Sta → Bool} (h : Pred_sta w fv p) :
    Calls Tryz.prog 209 #[.slice a n c, fv] w fun e w' => e = .returned (.bool (L.any p)) ∧ Only Nil w w' := by
  have HI := Lib.hid (idx_sta hx hn hb h _ rfl)
  obtain ⟨g, cs, cb, rfl, eg, hcl⟩ := h
  clear hx hcl hn hb
  cases hp : L.any p with
  | true =>
    have HJ : Hid (Calls Tryz.prog 230 #[.slice a n c, .func (.func g) cs cb] w fun e w' => ∃ i : Nat, e = .returned (.int .i64 (i : Int)) ∧ Only Nil w w') := Lib.hid (HI.out.mono (fun e w' ⟨h, o⟩ => by
      rcases h.out with ⟨_, i, hi⟩ | ⟨h, _⟩
      · exact ⟨i, hi, o⟩
      · rw [hp] at h; cases h))
    clear HI
    go_enter Tryz.func209, Tryz.ntmps209
    go_wp2_with (go_at_call 230; refine HJ.out.mono ?_; rintro e w1 ⟨i, rfl, o1⟩; have h0 : (0 : Int) ≤ (i : Int) := Int.natCast_nonneg i)
    go_ret
    exact ⟨by first | rfl | (simp; done), o1⟩
  | false =>
    have HJ : Hid (Calls Tryz.prog 230 #[.slice a n c, .func (.func g) cs cb] w fun e w' => e = .returned (.int .i64 (-1)) ∧ Only Nil w w') := Lib.hid (HI.out.mono (fun e w' ⟨h, o⟩ => by
      rcases h.out with ⟨h, _⟩ | ⟨_, hi⟩
      · rw [hp] at h; cases h
      · exact ⟨hi, o⟩))
    clear HI
    go_enter Tryz.func209, Tryz.ntmps209
    go_wp2_with (go_at_call 230; refine HJ.out.mono ?_; rintro e w1 ⟨rfl, o1⟩)
    go_ret
    exact ⟨by first | rfl | (simp; done), o1⟩
theorem key_sta (x : Sta) (a1 : Option Addr) (n1 c1 : Nat) (w : World) : Calls Tryz.prog 146 #[.agg #[.string (bs x.name), .slice a1 n1 c1]] w fun e w' => e = .returned (.string (bs x.name)) ∧ Only Nil w w' := by
  have o1 : Only Nil w (w.alloc (.cells #[.string (bs x.name), .slice a1 n1 c1] 59)) := (Only.refl Nil w).alloc _
  go_enter Tryz.func146, Tryz.ntmps146
  go_wp2
  go_ret
  exact ⟨rfl, o1⟩
set_option maxHeartbeats 1000000 in
set_option maxRecDepth 100000 in
theorem holds1_sta (k : Wd) (q1 q2 : Nat) {w : World} (k1 : w.cell? ⟨q1, 0, none⟩ = some (.func (.func 146) #[] #[])) (k2 : w.cell? ⟨q2, 0, none⟩ = some (.string (bs k))) (x : Sta) (a1 : Option Addr) (n1 c1 : Nat) :
    Calls Tryz.prog 210 #[.agg #[.string (bs x.name), .slice a1 n1 c1], .pointer (some ⟨q1, 0, none⟩), .pointer (some ⟨q2, 0, none⟩)] w fun e w' => e = .returned (.bool (decide (x.name = k))) ∧ Only Nil w w' := by
  have HB := Lib.hid (bx_new w [.string (bs x.name), .slice a1 n1 c1] 59)
  have O1 := Lib.hid ((Only.refl Nil w).alloc (.cells #[.string (bs x.name), .slice a1 n1 c1] 59))
  have hq : ((bs (x.name)).toList == (bs k).toList) = decide (x.name = k) := bs_beq _ _
  have d1 := only_cell0 O1.out k1
  have d2 := only_cell0 O1.out k2
  have HK := Lib.hid (key_sta x a1 n1 c1)
  generalize decide (x.name = k) = z at *
  clear k1 k2
  go_enter Tryz.func210, Tryz.ntmps210
  go_upto_region 1 with (fail)
  change Hid (Bx (w.alloc (.cells #[.string (bs x.name), .slice a1 n1 c1] 59)) w.heap.size _ _) at HB
  generalize w.alloc (.cells #[.string (bs x.name), .slice a1 n1 c1] 59) = w1 at *
  generalize w.heap.size = B at *
  have b0 := HB.out.cell 0 (v := .string (bs x.name)) rfl
  have b1 := HB.out.cell 1 (v := .slice a1 n1 c1) rfl
  go_region_held3 (fun w' => w'.cell? ⟨q1, 0, none⟩ = some (.func (.func 146) #[] #[]) ∧ w'.cell? ⟨B, 0, none⟩ = some (.string (bs x.name)) ∧ w'.cell? ⟨B, 1, none⟩ = some (.slice a1 n1 c1) ∧ w'.cell? ⟨q2, 0, none⟩ = some (.string (bs k)))
    (first | exact ⟨d1, b0, b1, d2⟩ | exact ⟨only_cell0 o2 d1, only_cell0 o2 b0, only_cell0 o2 b1, only_cell0 o2 d2⟩ | go_keep)
    ((go_at_call 146; refine (HK.out _).mono ?_; rintro e w2 ⟨rfl, o2⟩; have O2 := Lib.hid o2))
  go_wp2
  go_ret
  exact ⟨by first | rfl | (rw [hq]; done) | (rw [hq]; rfl), O1.out.trans (by first | exact O2.out | exact (Only.refl Nil w1).drew.trans O2.out)⟩
theorem holds_sta (k : Wd) {D : Nat} {w : World} {a : Option Addr} {n c : Nat} {L : List Sta} (hx : XS D w (.slice a n c) L) (hn : L.length = n) (hb : n ≤ 140737488355328) :
    Calls Tryz.prog 175 #[.slice a n c, .func (.func 146) #[] #[], .string (bs k)] w fun e w' => e = .returned (.bool (memB k (L.map Sta.name))) ∧ Only Nil w w' := by
  obtain ⟨W, hW⟩ : ∃ W, W = (w.alloc (.cells #[.func (.func 146) #[] #[]] 209)).alloc (.cells #[.string (bs k)] 9) := ⟨_, rfl⟩
  have o : Only Nil w W := hW ▸ ((Only.refl Nil w).alloc _).alloc _
  have h1 := heap_new w (.cells #[.func (.func 146) #[] #[]] 209)
  have h2 := heap_new (w.alloc (.cells #[.func (.func 146) #[] #[]] 209)) (.cells #[.string (bs k)] 9)
  have e1 : (w.alloc (.cells #[.func (.func 146) #[] #[]] 209)).heap.size = w.heap.size + 1 := by simp
  rw [e1, ← hW] at h2
  have k0 : (w.alloc (.cells #[.func (.func 146) #[] #[]] 209)).cell? ⟨w.heap.size, 0, none⟩ = some (.func (.func 146) #[] #[]) := by simp only [World.cell?, h1]; rfl
  have k1 : W.cell? ⟨w.heap.size, 0, none⟩ = some (.func (.func 146) #[] #[]) := hW ▸ only_cell0 ((Only.refl Nil (w.alloc (.cells #[.func (.func 146) #[] #[]] 209))).alloc _) k0
  have k2 : W.cell? ⟨w.heap.size + 1, 0, none⟩ = some (.string (bs k)) := by simp only [World.cell?, h2]; rfl
  have HC := Lib.hid (con_sta (hx.keep o (nilS · D)) hn hb (p := fun x => decide (x.name = k)) ⟨210, #[], #[.pointer (some ⟨w.heap.size, 0, none⟩), .pointer (some ⟨w.heap.size + 1, 0, none⟩)], rfl, enters_of Tryz.func210 (by kernel_rfl) rfl,
    fun w' x a1 n1 c1 o' => holds1_sta k w.heap.size (w.heap.size + 1) (only_cell0 o' k1) (only_cell0 o' k2) x a1 n1 c1⟩)
  have e2 : (L.any fun x => decide (x.name = k)) = memB k (L.map Sta.name) := any_mem L Sta.name k
  rw [e2] at HC
  have O := Lib.hid o
  generalize memB k (L.map Sta.name) = z at *
  clear hx hn hb o h1 h2 k0 k1 k2 e2
  go_enter Tryz.func175, Tryz.ntmps175
  go_upto_region 1 with (fail)
  (try simp only [World.size_alloc]); rw [← hW]; clear hW e1
  go_wp2_with (go_at_call 209; refine HC.out.mono ?_; rintro e w3 ⟨rfl, o3⟩)
  go_ret
  exact ⟨rfl, O.out.trans o3⟩
theorem pre_sta {D : Nat} {w : World} {a : Option Addr} {n c : Nat} {L : List Sta} (hx : XS D w (.slice a n c) L) (hn : L.length = n) (i : Nat) (hi : i ≤ n) : XS D w (.slice a i c) (L.take i) := by
  obtain ⟨Z, hz, hc, hi2⟩ := hx
  have hl : Z.length = n := by rw [← hn, ← hz, List.length_map]
  rw [hn] at hc
  have := cin_pre (f := staCs) (s := 2) (fun _ => rfl) hc hl i hi
  have hlen : (L.take i).length = i := by rw [List.length_take]; omega
  refine ⟨Z.take i, by rw [List.map_take, hz], by rw [hlen]; exact this, fun x hx => hi2 x (List.mem_of_mem_take hx)⟩
theorem cap_sta {D : Nat} {w : World} {a : Option Addr} {n c : Nat} {L : List Sta} (hx : XS D w (.slice a n c) L) : n ≤ c := by
  obtain ⟨Z, hz, hc, _⟩ := hx
  exact hc.cap
set_option maxHeartbeats 1000000 in
set_option maxRecDepth 100000 in
theorem isNew_sta {D : Nat} {w : World} {a : Option Addr} {n c : Nat} {L : List Sta} (hx : XS D w (.slice a n c) L) (hn : L.length = n) (hb : n ≤ 140737488355328) (i : Nat) (hi : i < n) :
    Calls Tryz.prog 145 #[.slice a n c, .int .i64 (i : Int), .func (.func 146) #[] #[]] w fun e w' => e = .returned (.bool (isNew (L.map Sta.name) i)) ∧ Only Nil w w' := by
  have hcap := cap_sta hx
  have hil : i < L.length := by omega
  have hnew := new_eq (f := Sta.name) (List.getElem?_eq_getElem hil)
  have HP := Lib.hid (fun w' (o : Only Nil w w') => (pre_sta hx hn i (by omega)).keep o (nilS · D))
  have hlen : (L.take i).length = i := by rw [List.length_take]; omega
  have HH := Lib.hid (fun (k : Wd) w' (o : Only Nil w w') => holds_sta k (HP.out w' o) hlen (by omega))
  obtain ⟨s1, ⟨q, off, rfl, hlt, hc⟩, g1⟩ := hx.at_ hn i hi
  generalize L[i] = x at *
  have e0 : w.cell? ⟨q, off + i * 2, none⟩ = some (.string (bs x.name)) := hc 0 (by decide)
  obtain ⟨a1, c1, rfl⟩ := g1.slice
  have e1 : w.cell? ⟨q, off + i * 2 + 1, none⟩ = some (.slice a1 (x.rows.length) c1) := hc 1 (by decide)
  clear hc
  have hsl : ∀ W : World, (Instr.slice 54 (.slice (some ⟨q, off, none⟩) n c) none (some (.int .i64 (i : Int))) none).run Tryz.prog W = .ok (.slice (some ⟨q, off, none⟩) i c) W := fun W => run_cut Tryz.underlying54 Tryz.sizeOf59 W q off n c i (by omega) hcap
  have h0 : (0 : Int) ≤ (i : Int) := Int.natCast_nonneg i
  have h1 : (i : Int) < (n : Int) := by omega
  have HK := Lib.hid (fun w' => key_sta x a1 (x.rows.length) c1 w')
  have HG := Lib.hid (fun w' (o : Only Nil w w') => HH.out x.name w' o)
  rw [hnew]
  change Hid (∀ w', Only Nil w w' → Calls Tryz.prog 175 #[_, _, _] w' fun e w'' => e = .returned (.bool (memB (Sta.name x) ((L.take i).map Sta.name))) ∧ Only Nil w' w'') at HG
  generalize memB (Sta.name x) ((L.take i).map Sta.name) = z at *
  have OO := Lib.hid (show Only Nil w w.drew from (Only.refl Nil w).drew)
  clear HH HP hnew hx hlen hil hb hn hcap
  go_enter Tryz.func145, Tryz.ntmps145
  go_wp2
  go_region_held3 (fun w' => w'.cell? ⟨q, off + i * 2, none⟩ = some (.string (bs x.name)) ∧ w'.cell? ⟨q, off + i * 2 + 1, none⟩ = some (.slice a1 (x.rows.length) c1))
    (first | exact ⟨e0, e1⟩ | exact ⟨only_cell0 OO.out e0, only_cell0 OO.out e1⟩ | go_keep)
    (first
      | (go_at_call 146; refine (HK.out _).mono ?_; rintro e wn ⟨rfl, on⟩; have O9 := Lib.hid (OO.out.trans on); clear OO on; have OO := O9; clear O9)
      | (go_at_call 175; refine (HG.out _ OO.out).mono ?_; rintro e wn ⟨rfl, on⟩; have O9 := Lib.hid (OO.out.trans on); clear OO on; have OO := O9; clear O9))
  go_wp2
  go_ret
  exact ⟨rfl, OO.out⟩

/-! ### api.Case -/
def Pred_cs (w0 : World) (fv : Value) (p : Cs → Bool) : Prop :=
  ∃ g cs cb, fv = .func (.func g) cs cb ∧ (∀ args w, (callFunc g args).run Tryz.prog w = .ok (.enter g args) w) ∧ ∀ (w : World) (x : Cs) , Only Nil w0 w → Calls Tryz.prog g (cs ++ #[.agg #[.string (bs x.reason), .int .i64 x.act]] ++ cb) w fun e w' => e = .returned (.bool (p x)) ∧ Only Nil w w'
theorem Pred_cs.keep {w0 w : World} {fv : Value} {p : Cs → Bool} (h : Pred_cs w0 fv p) (o : Only Nil w0 w) : Pred_cs w fv p := by
  obtain ⟨g, cs, cb, h1, h2, h3⟩ := h; exact ⟨g, cs, cb, h1, h2, fun w' x  o' => h3 w' x  (o.trans o')⟩
set_option maxHeartbeats 2000000 in
set_option maxRecDepth 100000 in
theorem idx_cs {D : Nat} {w : World} {a : Option Addr} {n c : Nat} {L : List Cs} (hx : XC D w (.slice a n c) L) (hn : L.length = n) (hb : n ≤ 140737488355328) {fv : Value} {p : Cs → Bool} (h : Pred_cs w fv p) (z : Bool) (hz : L.any p = z) :
    Calls Tryz.prog 229 #[.slice a n c, fv] w fun e w' => Hid ((z = true ∧ ∃ i : Nat, e = .returned (.int .i64 (i : Int))) ∨ (z = false ∧ e = .returned (.int .i64 (-1)))) ∧ Only Nil w w' := by
  have HZ := Lib.hid hz
  clear hz
  obtain ⟨g, cs, cb, rfl, eg, hcl⟩ := h
  have HX := Lib.hid hx
  have HC := Lib.hid hcl
  have HN := Lib.hid hn
  have hb' : (n : Int) ≤ 140737488355328 := by omega
  clear hx hcl hn hb
  go_enter Tryz.func229, Tryz.ntmps229
  go_wp2
  go_loopw [8] (fun s8 wr => ∃ (i : Nat), i ≤ n ∧ s8 = .int .i64 (i : Int) ∧ Hid (∀ j, j < i → ∀ y, L[j]? = some y → p y = false) ∧ Hid (Only Nil w wr))
    (fun s8 _ => n - (intOf s8).toNat)
  case atStart => exact ⟨0, Nat.zero_le _, rfl, Lib.hid (fun j hj => absurd hj (Nat.not_lt_zero j)), Lib.hid (Only.refl _ _)⟩
  case round =>
    obtain ⟨i, hi, rfl, hE, hO⟩ := hrel
    by_cases hin : i < n
    · obtain ⟨q, off, rfl, hlt, hc⟩ := (HX.out.keep hO.out (nilS · D)).at_ HN.out i hin
      have hil : i < L.length := by rw [HN.out]; exact hin
      have HL := Lib.hid (List.getElem?_eq_getElem hil)
      have HM := Lib.hid (List.getElem_mem hil)
      generalize L[i] = x at *
      have e0 : wr.cell? ⟨q, off + i * 2, none⟩ = some (.string (bs x.reason)) := hc 0 (by decide)
      have e1 : wr.cell? ⟨q, off + i * 2 + 1, none⟩ = some (.int .i64 x.act) := hc 1 (by decide)
      clear hc
      have hin' : (i : Int) < (n : Int) := by omega
      have HF := Lib.hid (HC.out wr x  hO.out)
      cases hp : p x with
      | false =>
        rw [hp] at HF
        have HP := Lib.hid hp
        clear hp
        go_wp2_with (go_at_fn g; refine HF.out.mono ?_; rintro e w1 ⟨rfl, o1⟩; have O1 := Lib.hid (hO.out.trans o1))
        go_roundw
        case rel => exact ⟨i + 1, by omega, by go_num, Lib.hid (fun j hj y hy => by
          rcases Nat.lt_or_ge j i with h | h
          · exact hE.out j h y hy
          · obtain rfl : j = i := by omega
            rw [HL.out] at hy; rw [← Option.some.inj hy]; exact HP.out), O1⟩
        case measure => simp [intOf]; omega
      | true =>
        rw [hp] at HF
        have HP := Lib.hid hp
        clear hp
        go_wp2_with (go_at_fn g; refine HF.out.mono ?_; rintro e w1 ⟨rfl, o1⟩; have O1 := Lib.hid (hO.out.trans o1))
        go_ret
        exact ⟨Lib.hid (Or.inl ⟨HZ.out.symm.trans (List.any_eq_true.2 ⟨x, HM.out, HP.out⟩), i, rfl⟩), O1.out⟩
    · obtain rfl : i = n := by omega
      have hk0 : ¬ (i : Int) < (i : Int) := by omega
      have HF := Lib.hid (show L.any p = false from by
        rw [List.any_eq_false]
        intro y hy
        obtain ⟨j, hj, rfl⟩ := List.mem_iff_getElem.1 hy
        rw [hE.out j (by rw [← HN.out]; exact hj) _ (List.getElem?_eq_getElem hj)]
        exact Bool.false_ne_true)
      clear hin
      go_wp2
      go_ret
      exact ⟨Lib.hid (Or.inr ⟨HZ.out.symm.trans HF.out, rfl⟩), hO.out⟩
theorem con_cs {D : Nat} {w : World} {a : Option Addr} {n c : Nat} {L : List Cs} (hx : XC D w (.slice a n c) L) (hn : L.length = n) (hb : n ≤ 140737488355328) {fv : Value} {p : Cs → Bool} (h : Pred_cs w fv p) :
    Calls Tryz.prog 207 #[.slice a n c, fv] w fun e w' => e = .returned (.bool (L.any p)) ∧ Only Nil w w' := by
  have HI := Lib.hid (idx_cs hx hn hb h _ rfl)
  obtain ⟨g, cs, cb, rfl, eg, hcl⟩ := h
  clear hx hcl hn hb
  cases hp : L.any p with
  | true =>
    have HJ : Hid (Calls Tryz.prog 229 #[.slice a n c, .func (.func g) cs cb] w fun e w' => ∃ i : Nat, e = .returned (.int .i64 (i : Int)) ∧ Only Nil w w') := Lib.hid (HI.out.mono (fun e w' ⟨h, o⟩ => by
      rcases h.out with ⟨_, i, hi⟩ | ⟨h, _⟩
      · exact ⟨i, hi, o⟩
      · rw [hp] at h; cases h))
    clear HI
    go_enter Tryz.func207, Tryz.ntmps207
    go_wp2_with (go_at_call 229; refine HJ.out.mono ?_; rintro e w1 ⟨i, rfl, o1⟩; have h0 : (0 : Int) ≤ (i : Int) := Int.natCast_nonneg i)
    go_ret
    exact ⟨by first | rfl | (simp; done), o1⟩
  | false =>
    have HJ : Hid (Calls Tryz.prog 229 #[.slice a n c, .func (.func g) cs cb] w fun e w' => e = .returned (.int .i64 (-1)) ∧ Only Nil w w') := Lib.hid (HI.out.mono (fun e w' ⟨h, o⟩ => by
      rcases h.out with ⟨h, _⟩ | ⟨_, hi⟩
      · rw [hp] at h; cases h
      · exact ⟨hi, o⟩))
    clear HI
    go_enter Tryz.func207, Tryz.ntmps207
    go_wp2_with (go_at_call 229; refine HJ.out.mono ?_; rintro e w1 ⟨rfl, o1⟩)
    go_ret
    exact ⟨by first | rfl | (simp; done), o1⟩
theorem key_cs (x : Cs)  (w : World) : Calls Tryz.prog 142 #[.agg #[.string (bs x.reason), .int .i64 x.act]] w fun e w' => e = .returned (.string (bs x.reason)) ∧ Only Nil w w' := by
  have o1 : Only Nil w (w.alloc (.cells #[.string (bs x.reason), .int .i64 x.act] 89)) := (Only.refl Nil w).alloc _
  go_enter Tryz.func142, Tryz.ntmps142
  go_wp2
  go_ret
  exact ⟨rfl, o1⟩
set_option maxHeartbeats 1000000 in
set_option maxRecDepth 100000 in
theorem holds1_cs (k : Wd) (q1 q2 : Nat) {w : World} (k1 : w.cell? ⟨q1, 0, none⟩ = some (.func (.func 142) #[] #[])) (k2 : w.cell? ⟨q2, 0, none⟩ = some (.string (bs k))) (x : Cs)  :
    Calls Tryz.prog 208 #[.agg #[.string (bs x.reason), .int .i64 x.act], .pointer (some ⟨q1, 0, none⟩), .pointer (some ⟨q2, 0, none⟩)] w fun e w' => e = .returned (.bool (decide (x.reason = k))) ∧ Only Nil w w' := by
  have HB := Lib.hid (bx_new w [.string (bs x.reason), .int .i64 x.act] 89)
  have O1 := Lib.hid ((Only.refl Nil w).alloc (.cells #[.string (bs x.reason), .int .i64 x.act] 89))
  have hq : ((bs (x.reason)).toList == (bs k).toList) = decide (x.reason = k) := bs_beq _ _
  have d1 := only_cell0 O1.out k1
  have d2 := only_cell0 O1.out k2
  have HK := Lib.hid (key_cs x )
  generalize decide (x.reason = k) = z at *
  clear k1 k2
  go_enter Tryz.func208, Tryz.ntmps208
  go_upto_region 1 with (fail)
  change Hid (Bx (w.alloc (.cells #[.string (bs x.reason), .int .i64 x.act] 89)) w.heap.size _ _) at HB
  generalize w.alloc (.cells #[.string (bs x.reason), .int .i64 x.act] 89) = w1 at *
  generalize w.heap.size = B at *
  have b0 := HB.out.cell 0 (v := .string (bs x.reason)) rfl
  have b1 := HB.out.cell 1 (v := .int .i64 x.act) rfl
  go_region_held3 (fun w' => w'.cell? ⟨q1, 0, none⟩ = some (.func (.func 142) #[] #[]) ∧ w'.cell? ⟨B, 0, none⟩ = some (.string (bs x.reason)) ∧ w'.cell? ⟨B, 1, none⟩ = some (.int .i64 x.act) ∧ w'.cell? ⟨q2, 0, none⟩ = some (.string (bs k)))
    (first | exact ⟨d1, b0, b1, d2⟩ | exact ⟨only_cell0 o2 d1, only_cell0 o2 b0, only_cell0 o2 b1, only_cell0 o2 d2⟩ | go_keep)
    ((go_at_call 142; refine (HK.out _).mono ?_; rintro e w2 ⟨rfl, o2⟩; have O2 := Lib.hid o2))
  go_wp2
  go_ret
  exact ⟨by first | rfl | (rw [hq]; done) | (rw [hq]; rfl), O1.out.trans (by first | exact O2.out | exact (Only.refl Nil w1).drew.trans O2.out)⟩
theorem holds_cs (k : Wd) {D : Nat} {w : World} {a : Option Addr} {n c : Nat} {L : List Cs} (hx : XC D w (.slice a n c) L) (hn : L.length = n) (hb : n ≤ 140737488355328) :
    Calls Tryz.prog 174 #[.slice a n c, .func (.func 142) #[] #[], .string (bs k)] w fun e w' => e = .returned (.bool (memB k (L.map Cs.reason))) ∧ Only Nil w w' := by
  obtain ⟨W, hW⟩ : ∃ W, W = (w.alloc (.cells #[.func (.func 142) #[] #[]] 207)).alloc (.cells #[.string (bs k)] 9) := ⟨_, rfl⟩
  have o : Only Nil w W := hW ▸ ((Only.refl Nil w).alloc _).alloc _
  have h1 := heap_new w (.cells #[.func (.func 142) #[] #[]] 207)
  have h2 := heap_new (w.alloc (.cells #[.func (.func 142) #[] #[]] 207)) (.cells #[.string (bs k)] 9)
  have e1 : (w.alloc (.cells #[.func (.func 142) #[] #[]] 207)).heap.size = w.heap.size + 1 := by simp
  rw [e1, ← hW] at h2
  have k0 : (w.alloc (.cells #[.func (.func 142) #[] #[]] 207)).cell? ⟨w.heap.size, 0, none⟩ = some (.func (.func 142) #[] #[]) := by simp only [World.cell?, h1]; rfl
  have k1 : W.cell? ⟨w.heap.size, 0, none⟩ = some (.func (.func 142) #[] #[]) := hW ▸ only_cell0 ((Only.refl Nil (w.alloc (.cells #[.func (.func 142) #[] #[]] 207))).alloc _) k0
  have k2 : W.cell? ⟨w.heap.size + 1, 0, none⟩ = some (.string (bs k)) := by simp only [World.cell?, h2]; rfl
  have HC := Lib.hid (con_cs (hx.keep o (nilS · D)) hn hb (p := fun x => decide (x.reason = k)) ⟨208, #[], #[.pointer (some ⟨w.heap.size, 0, none⟩), .pointer (some ⟨w.heap.size + 1, 0, none⟩)], rfl, enters_of Tryz.func208 (by kernel_rfl) rfl,
    fun w' x  o' => holds1_cs k w.heap.size (w.heap.size + 1) (only_cell0 o' k1) (only_cell0 o' k2) x ⟩)
  have e2 : (L.any fun x => decide (x.reason = k)) = memB k (L.map Cs.reason) := any_mem L Cs.reason k
  rw [e2] at HC
  have O := Lib.hid o
  generalize memB k (L.map Cs.reason) = z at *
  clear hx hn hb o h1 h2 k0 k1 k2 e2
  go_enter Tryz.func174, Tryz.ntmps174
  go_upto_region 1 with (fail)
  (try simp only [World.size_alloc]); rw [← hW]; clear hW e1
  go_wp2_with (go_at_call 207; refine HC.out.mono ?_; rintro e w3 ⟨rfl, o3⟩)
  go_ret
  exact ⟨rfl, O.out.trans o3⟩
theorem pre_cs {D : Nat} {w : World} {a : Option Addr} {n c : Nat} {L : List Cs} (hx : XC D w (.slice a n c) L) (hn : L.length = n) (i : Nat) (hi : i ≤ n) : XC D w (.slice a i c) (L.take i) := by
  have hlen : (L.take i).length = i := by rw [List.length_take]; omega
  unfold XC at hx ⊢
  rw [hn] at hx
  rw [hlen]
  exact cin_pre (f := csC) (s := 2) (fun _ => rfl) hx hn i hi
theorem cap_cs {D : Nat} {w : World} {a : Option Addr} {n c : Nat} {L : List Cs} (hx : XC D w (.slice a n c) L) : n ≤ c := by
  exact CIn.cap hx
set_option maxHeartbeats 1000000 in
set_option maxRecDepth 100000 in
theorem isNew_cs {D : Nat} {w : World} {a : Option Addr} {n c : Nat} {L : List Cs} (hx : XC D w (.slice a n c) L) (hn : L.length = n) (hb : n ≤ 140737488355328) (i : Nat) (hi : i < n) :
    Calls Tryz.prog 141 #[.slice a n c, .int .i64 (i : Int), .func (.func 142) #[] #[]] w fun e w' => e = .returned (.bool (isNew (L.map Cs.reason) i)) ∧ Only Nil w w' := by
  have hcap := cap_cs hx
  have hil : i < L.length := by omega
  have hnew := new_eq (f := Cs.reason) (List.getElem?_eq_getElem hil)
  have HP := Lib.hid (fun w' (o : Only Nil w w') => (pre_cs hx hn i (by omega)).keep o (nilS · D))
  have hlen : (L.take i).length = i := by rw [List.length_take]; omega
  have HH := Lib.hid (fun (k : Wd) w' (o : Only Nil w w') => holds_cs k (HP.out w' o) hlen (by omega))
  obtain ⟨q, off, rfl, hlt, hc⟩ := hx.at_ hn i hi
  generalize L[i] = x at *
  have e0 : w.cell? ⟨q, off + i * 2, none⟩ = some (.string (bs x.reason)) := hc 0 (by decide)
  have e1 : w.cell? ⟨q, off + i * 2 + 1, none⟩ = some (.int .i64 x.act) := hc 1 (by decide)
  clear hc
  have hsl : ∀ W : World, (Instr.slice 53 (.slice (some ⟨q, off, none⟩) n c) none (some (.int .i64 (i : Int))) none).run Tryz.prog W = .ok (.slice (some ⟨q, off, none⟩) i c) W := fun W => run_cut Tryz.underlying53 Tryz.sizeOf89 W q off n c i (by omega) hcap
  have h0 : (0 : Int) ≤ (i : Int) := Int.natCast_nonneg i
  have h1 : (i : Int) < (n : Int) := by omega
  have HK := Lib.hid (fun w' => key_cs x  w')
  have HG := Lib.hid (fun w' (o : Only Nil w w') => HH.out x.reason w' o)
  rw [hnew]
  change Hid (∀ w', Only Nil w w' → Calls Tryz.prog 174 #[_, _, _] w' fun e w'' => e = .returned (.bool (memB (Cs.reason x) ((L.take i).map Cs.reason))) ∧ Only Nil w' w'') at HG
  generalize memB (Cs.reason x) ((L.take i).map Cs.reason) = z at *
  have OO := Lib.hid (show Only Nil w w.drew from (Only.refl Nil w).drew)
  clear HH HP hnew hx hlen hil hb hn hcap
  go_enter Tryz.func141, Tryz.ntmps141
  go_wp2
  go_region_held3 (fun w' => w'.cell? ⟨q, off + i * 2, none⟩ = some (.string (bs x.reason)) ∧ w'.cell? ⟨q, off + i * 2 + 1, none⟩ = some (.int .i64 x.act))
    (first | exact ⟨e0, e1⟩ | exact ⟨only_cell0 OO.out e0, only_cell0 OO.out e1⟩ | go_keep)
    (first
      | (go_at_call 142; refine (HK.out _).mono ?_; rintro e wn ⟨rfl, on⟩; have O9 := Lib.hid (OO.out.trans on); clear OO on; have OO := O9; clear O9)
      | (go_at_call 174; refine (HG.out _ OO.out).mono ?_; rintro e wn ⟨rfl, on⟩; have O9 := Lib.hid (OO.out.trans on); clear OO on; have OO := O9; clear O9))
  go_wp2
  go_ret
  exact ⟨rfl, OO.out⟩

/-! ### api.Row -/
def Pred_rw (w0 : World) (fv : Value) (p : Rw → Bool) : Prop :=
  ∃ g cs cb, fv = .func (.func g) cs cb ∧ (∀ args w, (callFunc g args).run Tryz.prog w = .ok (.enter g args) w) ∧ ∀ (w : World) (x : Rw) (a1 : Option Addr) (n1 c1 : Nat), Only Nil w0 w → Calls Tryz.prog g (cs ++ #[.agg #[.string (bs x.tag), .bool x.only, .int .i64 x.n, .slice a1 n1 c1]] ++ cb) w fun e w' => e = .returned (.bool (p x)) ∧ Only Nil w w'
theorem Pred_rw.keep {w0 w : World} {fv : Value} {p : Rw → Bool} (h : Pred_rw w0 fv p) (o : Only Nil w0 w) : Pred_rw w fv p := by
  obtain ⟨g, cs, cb, h1, h2, h3⟩ := h; exact ⟨g, cs, cb, h1, h2, fun w' x a1 n1 c1 o' => h3 w' x a1 n1 c1 (o.trans o')⟩
set_option maxHeartbeats 2000000 in
set_option maxRecDepth 100000 in
theorem idx_rw {D : Nat} {w : World} {a : Option Addr} {n c : Nat} {L : List Rw} (hx : XR D w (.slice a n c) L) (hn : L.length = n) (hb : n ≤ 140737488355328) {fv : Value} {p : Rw → Bool} (h : Pred_rw w fv p) (z : Bool) (hz : L.any p = z) :
    Calls Tryz.prog 239 #[.slice a n c, fv] w fun e w' => Hid ((z = true ∧ ∃ i : Nat, e = .returned (.int .i64 (i : Int))) ∨ (z = false ∧ e = .returned (.int .i64 (-1)))) ∧ Only Nil w w' := by
  have HZ := Lib.hid hz
  clear hz
  obtain ⟨g, cs, cb, rfl, eg, hcl⟩ := h
  have HX := Lib.hid hx
  have HC := Lib.hid hcl
  have HN := Lib.hid hn
  have hb' : (n : Int) ≤ 140737488355328 := by omega
  clear hx hcl hn hb
  go_enter Tryz.func239, Tryz.ntmps239
  go_wp2
  go_loopw [8] (fun s8 wr => ∃ (i : Nat), i ≤ n ∧ s8 = .int .i64 (i : Int) ∧ Hid (∀ j, j < i → ∀ y, L[j]? = some y → p y = false) ∧ Hid (Only Nil w wr))
    (fun s8 _ => n - (intOf s8).toNat)
  case atStart => exact ⟨0, Nat.zero_le _, rfl, Lib.hid (fun j hj => absurd hj (Nat.not_lt_zero j)), Lib.hid (Only.refl _ _)⟩
  case round =>
    obtain ⟨i, hi, rfl, hE, hO⟩ := hrel
    by_cases hin : i < n
    · obtain ⟨s1, ⟨q, off, rfl, hlt, hc⟩, g1⟩ := (HX.out.keep hO.out (nilS · D)).at_ HN.out i hin
      have hil : i < L.length := by rw [HN.out]; exact hin
      have HL := Lib.hid (List.getElem?_eq_getElem hil)
      have HM := Lib.hid (List.getElem_mem hil)
      generalize L[i] = x at *
      have e0 : wr.cell? ⟨q, off + i * 4, none⟩ = some (.string (bs x.tag)) := hc 0 (by decide)
      have e1 : wr.cell? ⟨q, off + i * 4 + 1, none⟩ = some (.bool x.only) := hc 1 (by decide)
      have e2 : wr.cell? ⟨q, off + i * 4 + 2, none⟩ = some (.int .i64 x.n) := hc 2 (by decide)
      obtain ⟨a1, c1, rfl⟩ := g1.slice
      have e3 : wr.cell? ⟨q, off + i * 4 + 3, none⟩ = some (.slice a1 (x.effs.length) c1) := hc 3 (by decide)
      clear hc
      have hin' : (i : Int) < (n : Int) := by omega
      have HF := Lib.hid (HC.out wr x a1 (x.effs.length) c1 hO.out)
      cases hp : p x with
      | false =>
        rw [hp] at HF
        have HP := Lib.hid hp
        clear hp
        go_wp2_with (go_at_fn g; refine HF.out.mono ?_; rintro e w1 ⟨rfl, o1⟩; have O1 := Lib.hid (hO.out.trans o1))
        go_roundw
        case rel => exact ⟨i + 1, by omega, by go_num, Lib.hid (fun j hj y hy => by
          rcases Nat.lt_or_ge j i with h | h
          · exact hE.out j h y hy
          · obtain rfl : j = i := by omega
            rw [HL.out] at hy; rw [← Option.some.inj hy]; exact HP.out), O1⟩
        case measure => simp [intOf]; omega
      | true =>
        rw [hp] at HF
        have HP := Lib.hid hp
        clear hp
        go_wp2_with (go_at_fn g; refine HF.out.mono ?_; rintro e w1 ⟨rfl, o1⟩; have O1 := Lib.hid (hO.out.trans o1))
        go_ret
        exact ⟨Lib.hid (Or.inl ⟨HZ.out.symm.trans (List.any_eq_true.2 ⟨x, HM.out, HP.out⟩), i, rfl⟩), O1.out⟩
    · obtain rfl : i = n := by omega
      have hk0 : ¬ (i : Int) < (i : Int) := by omega
      have HF := Lib.hid (show L.any p = false from by
        rw [List.any_eq_false]
        intro y hy
        obtain ⟨j, hj, rfl⟩ := List.mem_iff_getElem.1 hy
        rw [hE.out j (by rw [← HN.out]; exact hj) _ (List.getElem?_eq_getElem hj)]
        exact Bool.false_ne_true)
      clear hin
      go_wp2
      go_ret
      exact ⟨Lib.hid (Or.inr ⟨HZ.out.symm.trans HF.out, rfl⟩), hO.out⟩
theorem con_rw {D : Nat} {w : World} {a : Option Addr} {n c : Nat} {L : List Rw} (hx : XR D w (.slice a n c) L) (hn : L.length = n) (hb : n ≤ 140737488355328) {fv : Value} {p : Rw → Bool} (h : Pred_rw w fv p) :
    Calls Tryz.prog 231 #[.slice a n c, fv] w fun e w' => e = .returned (.bool (L.any p)) ∧ Only Nil w w' := by
  have HI := Lib.hid (idx_rw hx hn hb h _ rfl)
  obtain ⟨g, cs, cb, rfl, eg, hcl⟩ := h
  clear hx hcl hn hb
  cases hp : L.any p with
  | true =>
    have HJ : Hid (Calls Tryz.prog 239 #[.slice a n c, .func (.func g) cs cb] w fun e w' => ∃ i : Nat, e = .returned (.int .i64 (i : Int)) ∧ Only Nil w w') := Lib.hid (HI.out.mono (fun e w' ⟨h, o⟩ => by
      rcases h.out with ⟨_, i, hi⟩ | ⟨h, _⟩
      · exact ⟨i, hi, o⟩
      · rw [hp] at h; cases h))
    clear HI
    go_enter Tryz.func231, Tryz.ntmps231
    go_wp2_with (go_at_call 239; refine HJ.out.mono ?_; rintro e w1 ⟨i, rfl, o1⟩; have h0 : (0 : Int) ≤ (i : Int) := Int.natCast_nonneg i)
    go_ret
    exact ⟨by first | rfl | (simp; done), o1⟩
  | false =>
    have HJ : Hid (Calls Tryz.prog 239 #[.slice a n c, .func (.func g) cs cb] w fun e w' => e = .returned (.int .i64 (-1)) ∧ Only Nil w w') := Lib.hid (HI.out.mono (fun e w' ⟨h, o⟩ => by
      rcases h.out with ⟨h, _⟩ | ⟨_, hi⟩
      · rw [hp] at h; cases h
      · exact ⟨hi, o⟩))
    clear HI
    go_enter Tryz.func231, Tryz.ntmps231
    go_wp2_with (go_at_call 239; refine HJ.out.mono ?_; rintro e w1 ⟨rfl, o1⟩)
    go_ret
    exact ⟨by first | rfl | (simp; done), o1⟩
theorem key_rw (x : Rw) (a1 : Option Addr) (n1 c1 : Nat) (w : World) : Calls Tryz.prog 179 #[.agg #[.string (bs x.tag), .bool x.only, .int .i64 x.n, .slice a1 n1 c1]] w fun e w' => e = .returned (.agg #[.string (bs x.tag), .bool x.only, .int .i64 x.n]) ∧ Only Nil w w' := by
  have o1 : Only Nil w (w.alloc (.cells #[.string (bs x.tag), .bool x.only, .int .i64 x.n, .slice a1 n1 c1] 62)) := (Only.refl Nil w).alloc _
  go_enter Tryz.func179, Tryz.ntmps179
  go_wp2
  have hb := heap_new (w.alloc (.cells #[.string (bs x.tag), .bool x.only, .int .i64 x.n, .slice a1 n1 c1] 62)) (.cells #[.string (bs x.tag), .bool x.only, .int .i64 x.n] 234)
  refine bodyPost_ret (results_agg rfl _ _ _ [.string (bs x.tag), .bool x.only, .int .i64 x.n] Tryz.isAgg234 Tryz.sizeOf234 rfl (by simpa using hb)) rfl ?_
  exact ⟨rfl, o1.alloc _⟩
set_option maxHeartbeats 1000000 in
set_option maxRecDepth 100000 in
theorem holds1_rw (k : (Wd × Bool × Int)) (q1 q2 : Nat) {w : World} (k1 : w.cell? ⟨q1, 0, none⟩ = some (.func (.func 179) #[] #[])) (k2 : Bx w q2 [.string (bs k.1), .bool k.2.1, .int .i64 k.2.2] 234) (x : Rw) (a1 : Option Addr) (n1 c1 : Nat) :
    Calls Tryz.prog 232 #[.agg #[.string (bs x.tag), .bool x.only, .int .i64 x.n, .slice a1 n1 c1], .pointer (some ⟨q1, 0, none⟩), .pointer (some ⟨q2, 0, none⟩)] w fun e w' => e = .returned (.bool (decide ((x.tag, x.only, x.n) = k))) ∧ Only Nil w w' := by
  have HB := Lib.hid (bx_new w [.string (bs x.tag), .bool x.only, .int .i64 x.n, .slice a1 n1 c1] 62)
  have O1 := Lib.hid ((Only.refl Nil w).alloc (.cells #[.string (bs x.tag), .bool x.only, .int .i64 x.n, .slice a1 n1 c1] 62))
  have hq := eql_head (x.tag, x.only, x.n) k
  have hgd := guard_head
  have d1 := only_cell0 O1.out k1
  have d2 := (k2.keep O1.out).cell 0 (v := .string (bs k.1)) rfl
  have d3 := (k2.keep O1.out).cell 1 (v := .bool k.2.1) rfl
  have d4 := (k2.keep O1.out).cell 2 (v := .int .i64 k.2.2) rfl
  have HK := Lib.hid (key_rw x a1 n1 c1)
  generalize decide ((x.tag, x.only, x.n) = k) = z at *
  clear k1 k2
  go_enter Tryz.func232, Tryz.ntmps232
  go_upto_region 1 with (fail)
  change Hid (Bx (w.alloc (.cells #[.string (bs x.tag), .bool x.only, .int .i64 x.n, .slice a1 n1 c1] 62)) w.heap.size _ _) at HB
  generalize w.alloc (.cells #[.string (bs x.tag), .bool x.only, .int .i64 x.n, .slice a1 n1 c1] 62) = w1 at *
  generalize w.heap.size = B at *
  have b0 := HB.out.cell 0 (v := .string (bs x.tag)) rfl
  have b1 := HB.out.cell 1 (v := .bool x.only) rfl
  have b2 := HB.out.cell 2 (v := .int .i64 x.n) rfl
  have b3 := HB.out.cell 3 (v := .slice a1 n1 c1) rfl
  go_region_held3 (fun w' => w'.cell? ⟨q1, 0, none⟩ = some (.func (.func 179) #[] #[]) ∧ w'.cell? ⟨B, 0, none⟩ = some (.string (bs x.tag)) ∧ w'.cell? ⟨B, 1, none⟩ = some (.bool x.only) ∧ w'.cell? ⟨B, 2, none⟩ = some (.int .i64 x.n) ∧ w'.cell? ⟨B, 3, none⟩ = some (.slice a1 n1 c1) ∧ w'.cell? ⟨q2, 0, none⟩ = some (.string (bs k.1)) ∧ w'.cell? ⟨q2, 1, none⟩ = some (.bool k.2.1) ∧ w'.cell? ⟨q2, 2, none⟩ = some (.int .i64 k.2.2))
    (first | exact ⟨d1, b0, b1, b2, b3, d2, d3, d4⟩ | exact ⟨only_cell0 o2 d1, only_cell0 o2 b0, only_cell0 o2 b1, only_cell0 o2 b2, only_cell0 o2 b3, only_cell0 o2 d2, only_cell0 o2 d3, only_cell0 o2 d4⟩ | go_keep)
    ((go_at_call 179; refine (HK.out _).mono ?_; rintro e w2 ⟨rfl, o2⟩; have O2 := Lib.hid o2))
  go_wp2
  go_ret
  exact ⟨by first | rfl | (rw [hq]; done) | (rw [hq]; rfl), O1.out.trans (by first | exact O2.out | exact (Only.refl Nil w1).drew.trans O2.out)⟩
theorem holds_rw (k : (Wd × Bool × Int)) {D : Nat} {w : World} {a : Option Addr} {n c : Nat} {L : List Rw} (hx : XR D w (.slice a n c) L) (hn : L.length = n) (hb : n ≤ 140737488355328) :
    Calls Tryz.prog 212 #[.slice a n c, .func (.func 179) #[] #[], .agg #[.string (bs k.1), .bool k.2.1, .int .i64 k.2.2]] w fun e w' => e = .returned (.bool (memB k (L.map headR))) ∧ Only Nil w w' := by
  obtain ⟨W, hW⟩ : ∃ W, W = (w.alloc (.cells #[.func (.func 179) #[] #[]] 235)).alloc (.cells #[.string (bs k.1), .bool k.2.1, .int .i64 k.2.2] 234) := ⟨_, rfl⟩
  have o : Only Nil w W := hW ▸ ((Only.refl Nil w).alloc _).alloc _
  have h1 := heap_new w (.cells #[.func (.func 179) #[] #[]] 235)
  have h2 := heap_new (w.alloc (.cells #[.func (.func 179) #[] #[]] 235)) (.cells #[.string (bs k.1), .bool k.2.1, .int .i64 k.2.2] 234)
  have e1 : (w.alloc (.cells #[.func (.func 179) #[] #[]] 235)).heap.size = w.heap.size + 1 := by simp
  rw [e1, ← hW] at h2
  have k0 : (w.alloc (.cells #[.func (.func 179) #[] #[]] 235)).cell? ⟨w.heap.size, 0, none⟩ = some (.func (.func 179) #[] #[]) := by simp only [World.cell?, h1]; rfl
  have k1 : W.cell? ⟨w.heap.size, 0, none⟩ = some (.func (.func 179) #[] #[]) := hW ▸ only_cell0 ((Only.refl Nil (w.alloc (.cells #[.func (.func 179) #[] #[]] 235))).alloc _) k0
  have k2 : Bx W (w.heap.size + 1) [.string (bs k.1), .bool k.2.1, .int .i64 k.2.2] 234 := h2
  have HC := Lib.hid (con_rw (hx.keep o (nilS · D)) hn hb (p := fun x => decide ((x.tag, x.only, x.n) = k)) ⟨232, #[], #[.pointer (some ⟨w.heap.size, 0, none⟩), .pointer (some ⟨w.heap.size + 1, 0, none⟩)], rfl, enters_of Tryz.func232 (by kernel_rfl) rfl,
    fun w' x a1 n1 c1 o' => holds1_rw k w.heap.size (w.heap.size + 1) (only_cell0 o' k1) (k2.keep o') x a1 n1 c1⟩)
  have e2 : (L.any fun x => decide ((x.tag, x.only, x.n) = k)) = memB k (L.map headR) := any_mem L headR k
  rw [e2] at HC
  have O := Lib.hid o
  generalize memB k (L.map headR) = z at *
  clear hx hn hb o h1 h2 k0 k1 k2 e2
  go_enter Tryz.func212, Tryz.ntmps212
  go_upto_region 1 with (fail)
  (try simp only [World.size_alloc]); rw [← hW]; clear hW e1
  go_wp2_with (go_at_call 231; refine HC.out.mono ?_; rintro e w3 ⟨rfl, o3⟩)
  go_ret
  exact ⟨rfl, O.out.trans o3⟩
theorem pre_rw {D : Nat} {w : World} {a : Option Addr} {n c : Nat} {L : List Rw} (hx : XR D w (.slice a n c) L) (hn : L.length = n) (i : Nat) (hi : i ≤ n) : XR D w (.slice a i c) (L.take i) := by
  obtain ⟨Z, hz, hc, hi2⟩ := hx
  have hl : Z.length = n := by rw [← hn, ← hz, List.length_map]
  rw [hn] at hc
  have := cin_pre (f := rowCs) (s := 4) (fun _ => rfl) hc hl i hi
  have hlen : (L.take i).length = i := by rw [List.length_take]; omega
  refine ⟨Z.take i, by rw [List.map_take, hz], by rw [hlen]; exact this, fun x hx => hi2 x (List.mem_of_mem_take hx)⟩
theorem cap_rw {D : Nat} {w : World} {a : Option Addr} {n c : Nat} {L : List Rw} (hx : XR D w (.slice a n c) L) : n ≤ c := by
  obtain ⟨Z, hz, hc, _⟩ := hx
  exact hc.cap
set_option maxHeartbeats 1000000 in
set_option maxRecDepth 100000 in
theorem isNew_rw {D : Nat} {w : World} {a : Option Addr} {n c : Nat} {L : List Rw} (hx : XR D w (.slice a n c) L) (hn : L.length = n) (hb : n ≤ 140737488355328) (i : Nat) (hi : i < n) :
    Calls Tryz.prog 178 #[.slice a n c, .int .i64 (i : Int), .func (.func 179) #[] #[]] w fun e w' => e = .returned (.bool (isNew (L.map headR) i)) ∧ Only Nil w w' := by
  have hcap := cap_rw hx
  have hil : i < L.length := by omega
  have hnew := new_eq (f := headR) (List.getElem?_eq_getElem hil)
  have HP := Lib.hid (fun w' (o : Only Nil w w') => (pre_rw hx hn i (by omega)).keep o (nilS · D))
  have hlen : (L.take i).length = i := by rw [List.length_take]; omega
  have HH := Lib.hid (fun (k : (Wd × Bool × Int)) w' (o : Only Nil w w') => holds_rw k (HP.out w' o) hlen (by omega))
  obtain ⟨s1, ⟨q, off, rfl, hlt, hc⟩, g1⟩ := hx.at_ hn i hi
  generalize L[i] = x at *
  have e0 : w.cell? ⟨q, off + i * 4, none⟩ = some (.string (bs x.tag)) := hc 0 (by decide)
  have e1 : w.cell? ⟨q, off + i * 4 + 1, none⟩ = some (.bool x.only) := hc 1 (by decide)
  have e2 : w.cell? ⟨q, off + i * 4 + 2, none⟩ = some (.int .i64 x.n) := hc 2 (by decide)
  obtain ⟨a1, c1, rfl⟩ := g1.slice
  have e3 : w.cell? ⟨q, off + i * 4 + 3, none⟩ = some (.slice a1 (x.effs.length) c1) := hc 3 (by decide)
  clear hc
  have hsl : ∀ W : World, (Instr.slice 57 (.slice (some ⟨q, off, none⟩) n c) none (some (.int .i64 (i : Int))) none).run Tryz.prog W = .ok (.slice (some ⟨q, off, none⟩) i c) W := fun W => run_cut Tryz.underlying57 Tryz.sizeOf62 W q off n c i (by omega) hcap
  have h0 : (0 : Int) ≤ (i : Int) := Int.natCast_nonneg i
  have h1 : (i : Int) < (n : Int) := by omega
  have HK := Lib.hid (fun w' => key_rw x a1 (x.effs.length) c1 w')
  have HG := Lib.hid (fun w' (o : Only Nil w w') => HH.out (x.tag, x.only, x.n) w' o)
  rw [hnew]
  change Hid (∀ w', Only Nil w w' → Calls Tryz.prog 212 #[_, _, _] w' fun e w'' => e = .returned (.bool (memB (headR x) ((L.take i).map headR))) ∧ Only Nil w' w'') at HG
  generalize memB (headR x) ((L.take i).map headR) = z at *
  have OO := Lib.hid (show Only Nil w w.drew from (Only.refl Nil w).drew)
  clear HH HP hnew hx hlen hil hb hn hcap
  go_enter Tryz.func178, Tryz.ntmps178
  go_wp2
  go_region_held3 (fun w' => w'.cell? ⟨q, off + i * 4, none⟩ = some (.string (bs x.tag)) ∧ w'.cell? ⟨q, off + i * 4 + 1, none⟩ = some (.bool x.only) ∧ w'.cell? ⟨q, off + i * 4 + 2, none⟩ = some (.int .i64 x.n) ∧ w'.cell? ⟨q, off + i * 4 + 3, none⟩ = some (.slice a1 (x.effs.length) c1))
    (first | exact ⟨e0, e1, e2, e3⟩ | exact ⟨only_cell0 OO.out e0, only_cell0 OO.out e1, only_cell0 OO.out e2, only_cell0 OO.out e3⟩ | go_keep)
    (first
      | (go_at_call 179; refine (HK.out _).mono ?_; rintro e wn ⟨rfl, on⟩; have O9 := Lib.hid (OO.out.trans on); clear OO on; have OO := O9; clear O9)
      | (go_at_call 212; refine (HG.out _ OO.out).mono ?_; rintro e wn ⟨rfl, on⟩; have O9 := Lib.hid (OO.out.trans on); clear OO on; have OO := O9; clear O9))
  go_wp2
  go_ret
  exact ⟨rfl, OO.out⟩

/-! ### api.Effect -/
def Pred_eff (w0 : World) (fv : Value) (p : Eff → Bool) : Prop :=
  ∃ g cs cb, fv = .func (.func g) cs cb ∧ (∀ args w, (callFunc g args).run Tryz.prog w = .ok (.enter g args) w) ∧ ∀ (w : World) (x : Eff) , Only Nil w0 w → Calls Tryz.prog g (cs ++ #[.agg #[.int .i64 x.act, .string (bs x.ref), .string (bs x.slot), .string (bs x.name), .int .i64 x.val, .int .i64 x.n, .int .i64 x.delay]] ++ cb) w fun e w' => e = .returned (.bool (p x)) ∧ Only Nil w w'
theorem Pred_eff.keep {w0 w : World} {fv : Value} {p : Eff → Bool} (h : Pred_eff w0 fv p) (o : Only Nil w0 w) : Pred_eff w fv p := by
  obtain ⟨g, cs, cb, h1, h2, h3⟩ := h; exact ⟨g, cs, cb, h1, h2, fun w' x  o' => h3 w' x  (o.trans o')⟩
set_option maxHeartbeats 2000000 in
set_option maxRecDepth 100000 in
theorem idx_eff {D : Nat} {w : World} {a : Option Addr} {n c : Nat} {L : List Eff} (hx : XE D w (.slice a n c) L) (hn : L.length = n) (hb : n ≤ 140737488355328) {fv : Value} {p : Eff → Bool} (h : Pred_eff w fv p) (z : Bool) (hz : L.any p = z) :
    Calls Tryz.prog 233 #[.slice a n c, fv] w fun e w' => Hid ((z = true ∧ ∃ i : Nat, e = .returned (.int .i64 (i : Int))) ∨ (z = false ∧ e = .returned (.int .i64 (-1)))) ∧ Only Nil w w' := by
  have HZ := Lib.hid hz
  clear hz
  obtain ⟨g, cs, cb, rfl, eg, hcl⟩ := h
  have HX := Lib.hid hx
  have HC := Lib.hid hcl
  have HN := Lib.hid hn
  have hb' : (n : Int) ≤ 140737488355328 := by omega
  clear hx hcl hn hb
  go_enter Tryz.func233, Tryz.ntmps233
  go_wp2
  go_loopw [8] (fun s8 wr => ∃ (i : Nat), i ≤ n ∧ s8 = .int .i64 (i : Int) ∧ Hid (∀ j, j < i → ∀ y, L[j]? = some y → p y = false) ∧ Hid (Only Nil w wr))
    (fun s8 _ => n - (intOf s8).toNat)
  case atStart => exact ⟨0, Nat.zero_le _, rfl, Lib.hid (fun j hj => absurd hj (Nat.not_lt_zero j)), Lib.hid (Only.refl _ _)⟩
  case round =>
    obtain ⟨i, hi, rfl, hE, hO⟩ := hrel
    by_cases hin : i < n
    · obtain ⟨q, off, rfl, hlt, hc⟩ := (HX.out.keep hO.out (nilS · D)).at_ HN.out i hin
      have hil : i < L.length := by rw [HN.out]; exact hin
      have HL := Lib.hid (List.getElem?_eq_getElem hil)
      have HM := Lib.hid (List.getElem_mem hil)
      generalize L[i] = x at *
      have e0 : wr.cell? ⟨q, off + i * 7, none⟩ = some (.int .i64 x.act) := hc 0 (by decide)
      have e1 : wr.cell? ⟨q, off + i * 7 + 1, none⟩ = some (.string (bs x.ref)) := hc 1 (by decide)
      have e2 : wr.cell? ⟨q, off + i * 7 + 2, none⟩ = some (.string (bs x.slot)) := hc 2 (by decide)
      have e3 : wr.cell? ⟨q, off + i * 7 + 3, none⟩ = some (.string (bs x.name)) := hc 3 (by decide)
      have e4 : wr.cell? ⟨q, off + i * 7 + 4, none⟩ = some (.int .i64 x.val) := hc 4 (by decide)
      have e5 : wr.cell? ⟨q, off + i * 7 + 5, none⟩ = some (.int .i64 x.n) := hc 5 (by decide)
      have e6 : wr.cell? ⟨q, off + i * 7 + 6, none⟩ = some (.int .i64 x.delay) := hc 6 (by decide)
      clear hc
      have hin' : (i : Int) < (n : Int) := by omega
      have HF := Lib.hid (HC.out wr x  hO.out)
      cases hp : p x with
      | false =>
        rw [hp] at HF
        have HP := Lib.hid hp
        clear hp
        go_wp2_with (go_at_fn g; refine HF.out.mono ?_; rintro e w1 ⟨rfl, o1⟩; have O1 := Lib.hid (hO.out.trans o1))
        go_roundw
        case rel => exact ⟨i + 1, by omega, by go_num, Lib.hid (fun j hj y hy => by
          rcases Nat.lt_or_ge j i with h | h
          · exact hE.out j h y hy
          · obtain rfl : j = i := by omega
            rw [HL.out] at hy; rw [← Option.some.inj hy]; exact HP.out), O1⟩
        case measure => simp [intOf]; omega
      | true =>
        rw [hp] at HF
        have HP := Lib.hid hp
        clear hp
        go_wp2_with (go_at_fn g; refine HF.out.mono ?_; rintro e w1 ⟨rfl, o1⟩; have O1 := Lib.hid (hO.out.trans o1))
        go_ret
        exact ⟨Lib.hid (Or.inl ⟨HZ.out.symm.trans (List.any_eq_true.2 ⟨x, HM.out, HP.out⟩), i, rfl⟩), O1.out⟩
    · obtain rfl : i = n := by omega
      have hk0 : ¬ (i : Int) < (i : Int) := by omega
      have HF := Lib.hid (show L.any p = false from by
        rw [List.any_eq_false]
        intro y hy
        obtain ⟨j, hj, rfl⟩ := List.mem_iff_getElem.1 hy
        rw [hE.out j (by rw [← HN.out]; exact hj) _ (List.getElem?_eq_getElem hj)]
        exact Bool.false_ne_true)
      clear hin
      go_wp2
      go_ret
      exact ⟨Lib.hid (Or.inr ⟨HZ.out.symm.trans HF.out, rfl⟩), hO.out⟩
theorem con_eff {D : Nat} {w : World} {a : Option Addr} {n c : Nat} {L : List Eff} (hx : XE D w (.slice a n c) L) (hn : L.length = n) (hb : n ≤ 140737488355328) {fv : Value} {p : Eff → Bool} (h : Pred_eff w fv p) :
    Calls Tryz.prog 214 #[.slice a n c, fv] w fun e w' => e = .returned (.bool (L.any p)) ∧ Only Nil w w' := by
  have HI := Lib.hid (idx_eff hx hn hb h _ rfl)
  obtain ⟨g, cs, cb, rfl, eg, hcl⟩ := h
  clear hx hcl hn hb
  cases hp : L.any p with
  | true =>
    have HJ : Hid (Calls Tryz.prog 233 #[.slice a n c, .func (.func g) cs cb] w fun e w' => ∃ i : Nat, e = .returned (.int .i64 (i : Int)) ∧ Only Nil w w') := Lib.hid (HI.out.mono (fun e w' ⟨h, o⟩ => by
      rcases h.out with ⟨_, i, hi⟩ | ⟨h, _⟩
      · exact ⟨i, hi, o⟩
      · rw [hp] at h; cases h))
    clear HI
    go_enter Tryz.func214, Tryz.ntmps214
    go_wp2_with (go_at_call 233; refine HJ.out.mono ?_; rintro e w1 ⟨i, rfl, o1⟩; have h0 : (0 : Int) ≤ (i : Int) := Int.natCast_nonneg i)
    go_ret
    exact ⟨by first | rfl | (simp; done), o1⟩
  | false =>
    have HJ : Hid (Calls Tryz.prog 233 #[.slice a n c, .func (.func g) cs cb] w fun e w' => e = .returned (.int .i64 (-1)) ∧ Only Nil w w') := Lib.hid (HI.out.mono (fun e w' ⟨h, o⟩ => by
      rcases h.out with ⟨h, _⟩ | ⟨_, hi⟩
      · rw [hp] at h; cases h
      · exact ⟨hi, o⟩))
    clear HI
    go_enter Tryz.func214, Tryz.ntmps214
    go_wp2_with (go_at_call 233; refine HJ.out.mono ?_; rintro e w1 ⟨rfl, o1⟩)
    go_ret
    exact ⟨by first | rfl | (simp; done), o1⟩
end Go.Proofs.YthanclicnkjmiaaGreatDoor.Ch
