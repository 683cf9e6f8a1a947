/- act: ActNamed. -/
import Derived.Test.YtimnaiahokafaaaAcQ
import Derived.Laws.Concat
set_option linter.unusedVariables false
set_option linter.unusedSimpArgs false
namespace Go.Proofs.Ytimnaiahokafaaa.Ac
open Go Go.RowKit Go.Proofs.Ytimnaiahokafaaa Lx Ps Ch

theorem add_q (s : Wd) (h : s.length ≤ 140737488355328) (w : World) : (Op.stringOp .add ⟨#[113]⟩ (bs s)).run Try.prog w = .ok (.string (bs (113 :: s))) w := by
  have hs : (bs s).size = s.length := by simp [bs, ByteArray.size]
  have h1 : (bs [113]).size = 1 := rfl
  have := run_string_add_sum (P := Try.prog) w (bs [113]) (bs s) (by rw [hs, h1]; omega)
  have e : bs [113] ++ bs s = bs (113 :: s) := by
    apply ByteArray.ext
    simp [bs, ByteArray.data_append]
  rw [e] at this
  exact this
theorem anew_bz {S : List Sta} (h : ∀ s ∈ S, bzS s) : ∀ s ∈ S.map anewS, bzS s := fun s hs => by
  obtain ⟨y, hy, rfl⟩ := List.mem_map.1 hs
  refine ⟨by have := (h y hy).1; simp [anewS]; omega, fun r hr => ?_⟩
  obtain ⟨r0, hr0, rfl⟩ := List.mem_map.1 hr
  have := (h y hy).2 r0 hr0
  unfold bzR at *
  simpa [anewR] using this
theorem runE_state (n : Int) (E A : List Eff) (s : Wd) (hE : ∀ e ∈ E, e.name.length ≤ 140737488355328) (hs : s.length ≤ 140737488355328) : (runE n E A s).state.length ≤ 140737488355328 := by
  induction E generalizing A s with
  | nil => exact hs
  | cons e r ih =>
    have hr : ∀ x ∈ r, x.name.length ≤ 140737488355328 := fun x hx => hE x (List.mem_cons_of_mem _ hx)
    have he := hE e (List.mem_cons_self ..)
    simp only [runE]
    (repeat' split) <;> first | exact hs | exact ih _ _ hr hs | exact ih _ _ hr he
theorem plan_state {S : List Sta} (h : ∀ s ∈ S, wfS s) {s : Wd} (hs : s.length ≤ 140737488355328) (t : Wd) (n : Int) : (planOf S s t n).state.length ≤ 140737488355328 := by
  unfold planOf doE
  split
  · exact hs
  · exact runE_state n _ _ _ (fun e he => (row_wf h s t n e he).name) hs
theorem take_map_succ {α β : Type} (f : α → β) {L : List α} {i : Nat} {x : α} (h : L[i]? = some x) : (L.take (i + 1)).map f = (L.take i).map f ++ [f x] := by
  obtain ⟨hi, rfl⟩ := List.getElem?_eq_some_iff.1 h
  rw [List.take_succ_eq_append_getElem hi, List.map_append]; rfl
set_option maxHeartbeats 16000000 in
set_option maxRecDepth 100000 in
theorem named_all {w : World} (k : Kd) {v1 : Value} {a2 : Option Addr} {n2 c2 : Nat} (hS : SIn w.heap.size w a2 n2 c2 k.states) (s t : Wd) (hs : s.length ≤ 140737488355328) (n : Int) (hn : inW n) (h40 : n2 * 40 ≤ 140737488355328) :
    Calls Try.prog 6 #[.agg #[.string (bs k.name), .int .i64 k.limit, .int .i64 k.within, v1, .slice a2 n2 c2], .string (bs s), .string (bs t), .int .i64 n] w fun e w' => e = .returned (.bool true) ∧ Below w.heap.size w w' := by
  obtain ⟨W1, hW1⟩ : ∃ W, W = w.alloc (.cells #[.string (bs k.name), .int .i64 k.limit, .int .i64 k.within, v1, .slice a2 n2 c2] 25) := ⟨_, rfl⟩
  have s1 : W1.heap.size = w.heap.size + 1 := by rw [hW1]; simp
  have o1 : Only Nil w W1 := hW1 ▸ (Only.refl Nil w).alloc _
  have b1 : Bx W1 (w.heap.size) [.string (bs k.name), .int .i64 k.limit, .int .i64 k.within, v1, .slice a2 n2 c2] 25 := hW1 ▸ bx_new w _ _
  have X1 := Lib.hid b1
  have O := Lib.hid o1
  have SZ := Lib.hid s1
  have HA := Lib.hid (alive_any W1)
  have HS1 := Lib.hid (hS.keep O.out)
  have HN := Lib.hid hn
  have HSL := Lib.hid hs
  have hb2 : (n2 : Int) ≤ 140737488355328 := by have := hS.hb; omega
  have hsz : (planOf k.states s t n).effs.length ≤ 140737488355328 := by
    have h1 := doE_len n (rowOf k.states s t n).effs s
    have h2 := row_bz hS.bz s t n
    unfold planOf; omega
  have HPZ := Lib.hid hsz
  have HN2 := Lib.hid hS.hn
  have HW := Lib.hid hS.wf
  have HBZ := Lib.hid hS.bz
  have HB40 := Lib.hid h40
  have HST := Lib.hid (plan_state hS.wf hs t n)
  clear hS hn hs hsz h40
  go_enter Try.func6, Try.ntmps6
  go_upto_region 1 with (fail)
  (try simp only [World.size_alloc])
  rw [← hW1]
  clear hW1 s1 o1 b1
  generalize hB1 : w.heap.size = B1 at *
  have HB1 := Lib.hid hB1
  clear hB1
  go_wp2_with fail
  refine HA.out.mono ?_
  rintro e wA ⟨rfl, o1⟩
  have OA := Lib.hid (O.out.trans o1)
  have XA := Lib.hid (X1.out.keep o1)
  have HSA := Lib.hid (HS1.out.keep o1)
  have ka := XA.out.cell 0 (v := .string (bs k.name)) rfl
  clear o1 HA X1 HS1
  obtain ⟨w2, hw2⟩ : ∃ w2, w2 = wA.alloc (.cells #[.string (bs k.name), .int .i64 0, .int .i64 0, .slice none 0 0, .slice none 0 0] 25) := ⟨_, rfl⟩
  have o2 : Only Nil wA w2 := hw2 ▸ (Only.refl Nil wA).alloc _
  have BT := Lib.hid (show Bx w2 wA.heap.size [.string (bs k.name), .int .i64 0, .int .i64 0, .slice none 0 0, .slice none 0 0] 25 from hw2 ▸ bx_new wA [.string (bs k.name), .int .i64 0, .int .i64 0, .slice none 0 0, .slice none 0 0] _)
  have O2 := Lib.hid o2
  clear o2
  go_upto_region 4 with (fail)
  rw [← hw2]; clear hw2 ka
  have HB2 := Lib.hid (show wA.heap.size = wA.heap.size from rfl)
  generalize hB2 : wA.heap.size = B2 at BT HB2
  have HBA := Lib.hid hB2
  clear hB2 HB2
  go_wp2
  go_loopw [10] (fun s10 wr => ∃ (i : Nat) (va : Option Addr) (vc : Nat), i ≤ n2 ∧ s10 = .int .i64 (i : Int) ∧ Hid (Bx wr B2 [.string (bs k.name), .int .i64 0, .int .i64 0, .slice none 0 0, .slice va i vc] 25) ∧ Hid (FS wA wr (.slice va i vc) ((k.states.take i).map anewS)) ∧ Hid (Only Nil wA wr)) (fun s10 _ => n2 - (intOf s10).toNat)
  case atStart => exact ⟨0, none, 0, Nat.zero_le _, rfl, BT, Lib.hid (FS.nil _ _), O2⟩
  case round =>
    obtain ⟨i, va, vc, hi, rfl, hT, hF, hO⟩ := hrel
    have xk := XA.out.keep hO.out
    have k4 := xk.cell 4 (v := .slice a2 n2 c2) rfl
    by_cases him : i < n2
    · obtain ⟨s1, ⟨q, off, hq, hlt, hc⟩, g1⟩ := (HSA.out.x.keep hO.out (nilS · _)).at_ HN2.out i him
      have hil : i < k.states.length := by rw [HN2.out]; exact him
      have HL := Lib.hid (List.getElem?_eq_getElem hil)
      have HYB := Lib.hid (HBZ.out _ (List.getElem_mem hil))
      have HYW := Lib.hid (HW.out _ (List.getElem_mem hil))
      generalize k.states[i] = y at *
      subst hq
      obtain ⟨a1, c1, rfl⟩ := g1.slice
      have e0 : wr.cell? ⟨q, off + i * 2, none⟩ = some (.string (bs y.name)) := hc 0 (by decide)
      have e1 : wr.cell? ⟨q, off + i * 2 + 1, none⟩ = some (.slice a1 y.rows.length c1) := hc 1 (by decide)
      have hmi : (y.rows.length : Int) ≤ 140737488355328 := by have := HYB.out.1; omega
      generalize hm : y.rows.length = m at *
      have HM := Lib.hid hm
      have himi : (i : Int) < (n2 : Int) := by omega
      have h0i : (0 : Int) ≤ (i : Int) := Int.natCast_nonneg i
      have HI := Lib.hid him
      have hadd := fun w => add_q y.name HYW.out.name w
      obtain ⟨w3, hw3⟩ : ∃ w3, w3 = wr.alloc (.cells #[.string (bs (113 :: y.name)), .slice none 0 0] 48) := ⟨_, rfl⟩
      have o3 : Only Nil wr w3 := hw3 ▸ (Only.refl Nil wr).alloc _
      have BS := Lib.hid (show Bx w3 wr.heap.size [.string (bs (113 :: y.name)), .slice none 0 0] 48 from hw3 ▸ bx_new wr [.string (bs (113 :: y.name)), .slice none 0 0] _)
      have O3 := Lib.hid o3
      have XK0 := Lib.hid xk
      have HG := Lib.hid g1
      have E1 := Lib.hid e1
      obtain ⟨B3, hB3⟩ : ∃ B, B = wr.heap.size := ⟨_, rfl⟩
      rw [← hB3] at BS
      have HB3 := Lib.hid (show wr.heap.size ≤ B3 from by omega)
      clear hc g1 o3 xk hlt him hi
      go_upto_region 8 with (fail)
      rw [← hw3, ← hB3]; clear hw3 e0 e1 k4 hadd hm hB3
      generalize hwo : wr = wo at *
      clear hwo
      go_wp2
      go_loopw [12] (fun s12 wr => ∃ (j : Nat) (ra : Option Addr) (rc : Nat), j ≤ m ∧ s12 = .int .i64 (j : Int) ∧ Hid (Bx wr B3 [.string (bs (113 :: y.name)), .slice ra j rc] 48) ∧ Hid (FR wo wr (.slice ra j rc) ((y.rows.take j).map anewR)) ∧ Hid (Only Nil wo wr)) (fun s12 _ => m - (intOf s12).toNat)
      case atStart => exact ⟨0, none, 0, Nat.zero_le _, rfl, BS, Lib.hid (FR.nil _ _), O3⟩
      case round =>
        obtain ⟨j, ra, rc, hj, rfl, hB, hR, hOj⟩ := hrel
        have k4 := (XK0.out.keep hOj.out).cell 4 (v := .slice (some ⟨q, off, none⟩) n2 c2) rfl
        have e1 := only_cell0 hOj.out E1.out
        by_cases hjm : j < m
        · obtain ⟨s2, ⟨q2, off2, hq2, hlt2, hc2⟩, g2⟩ := (HG.out.keep hOj.out (nilS · _)).at_ HM.out j hjm
          have hjl : j < y.rows.length := by rw [HM.out]; exact hjm
          have HLj := Lib.hid (List.getElem?_eq_getElem hjl)
          have HRB := Lib.hid (HYB.out.2 _ (List.getElem_mem hjl))
          have HRW := Lib.hid (HYW.out.rows _ (List.getElem_mem hjl))
          generalize y.rows[j] = r at *
          subst hq2
          obtain ⟨a3, c3, rfl⟩ := g2.slice
          have d0 : wr.cell? ⟨q2, off2 + j * 4, none⟩ = some (.string (bs r.tag)) := hc2 0 (by decide)
          have d1 : wr.cell? ⟨q2, off2 + j * 4 + 1, none⟩ = some (.bool r.only) := hc2 1 (by decide)
          have d2 : wr.cell? ⟨q2, off2 + j * 4 + 2, none⟩ = some (.int .i64 r.n) := hc2 2 (by decide)
          have d3 : wr.cell? ⟨q2, off2 + j * 4 + 3, none⟩ = some (.slice a3 r.effs.length c3) := hc2 3 (by decide)
          have hrb : r.effs.length * 80 ≤ 140737488355328 := HRB.out
          generalize hz : r.effs.length = z at *
          have HZ := Lib.hid hz
          have HZB := Lib.hid hrb
          have hzi : (z : Int) ≤ 140737488355328 := by omega
          have hjmi : (j : Int) < (m : Int) := by omega
          have h0j : (0 : Int) ≤ (j : Int) := Int.natCast_nonneg j
          have HJ := Lib.hid hjm
          obtain ⟨w4, hw4⟩ : ∃ w4, w4 = wr.alloc (.cells #[.string (bs r.tag), .bool r.only, .int .i64 r.n, .slice a3 z c3] 40) := ⟨_, rfl⟩
          have o4 : Only Nil wr w4 := hw4 ▸ (Only.refl Nil wr).alloc _
          have b4 : Bx w4 wr.heap.size [.string (bs r.tag), .bool r.only, .int .i64 r.n, .slice a3 z c3] 40 := hw4 ▸ bx_new wr _ _
          have s4 : w4.heap.size = wr.heap.size + 1 := by rw [hw4]; simp
          obtain ⟨w5, hw5⟩ : ∃ w5, w5 = w4.alloc (.cells #[.string (bs r.tag), .bool r.only, .int .i64 r.n, .slice none 0 0] 40) := ⟨_, rfl⟩
          have o5 : Only Nil w4 w5 := hw5 ▸ (Only.refl Nil w4).alloc _
          have b5 : Bx w5 (wr.heap.size + 1) [.string (bs r.tag), .bool r.only, .int .i64 r.n, .slice none 0 0] 40 := by have h := bx_new w4 [.string (bs r.tag), .bool r.only, .int .i64 r.n, .slice none 0 0] 40; rw [s4] at h; rw [hw5]; exact h
          have Q4 := Lib.hid (b4.keep o5)
          have Q5 := Lib.hid b5
          have O5 := Lib.hid (o4.trans o5)
          have HE2 := Lib.hid g2
          have K4 := Lib.hid k4
          have E1j := Lib.hid e1
          have z0 := b4.cell 0 (v := .string (bs r.tag)) rfl
          have z1 := b4.cell 1 (v := .bool r.only) rfl
          have z2 := b4.cell 2 (v := .int .i64 r.n) rfl
          have HNE := Lib.hid (show wr.heap.size ≠ wr.heap.size + 1 from by omega)
          obtain ⟨B5, hB5⟩ : ∃ B, B = wr.heap.size + 1 := ⟨_, rfl⟩
          obtain ⟨B4, hB4⟩ : ∃ B, B = wr.heap.size := ⟨_, rfl⟩
          have HB5 := Lib.hid (show wr.heap.size ≤ B5 from by omega)
          rw [← hB5, ← hB4] at HNE
          rw [← hB5] at Q5
          rw [← hB4] at Q4
          clear hc2 g2 hrb hjm hj hlt2 hz b4 b5
          go_upto_region 12 with (fail)
          rw [← hw4]; clear hw4
          clear d0 d1 d2 d3 k4 e1
          go_upto_region 13 with (fail)
          (try rw [s4]); rw [← hw5, ← hB5, ← hB4]; clear hw5 s4 o4 o5 z0 z1 z2 hB5 hB4
          generalize hwm : wr = wm at *
          clear hwm
          go_wp2
          go_loopw [15] (fun s15 wr => ∃ (l : Nat) (ea : Option Addr) (ec : Nat), l ≤ z ∧ s15 = .int .i64 (l : Int) ∧ Hid (Bx wr B4 [.string (bs r.tag), .bool r.only, .int .i64 r.n, .slice a3 z c3] 40) ∧ Hid (Bx wr B5 [.string (bs r.tag), .bool r.only, .int .i64 r.n, .slice ea l ec] 40) ∧ Hid (MEff wr (.slice ea l ec) ((r.effs.take l).map anew)) ∧ Hid (New wm (.slice ea l ec)) ∧ Hid (Only Nil wm wr)) (fun s15 _ => z - (intOf s15).toNat)
          case atStart => exact ⟨0, none, 0, Nat.zero_le _, rfl, Q4, Q5, Lib.hid (MEff.nil _), Lib.hid (new_none _), O5⟩
          case round =>
            obtain ⟨l, ea, ec, hl, rfl, h4, h5, hME, hNE, hOl⟩ := hrel
            have p3 := h4.out.cell 3 (v := .slice a3 z c3) rfl
            by_cases hlz : l < z
            · obtain ⟨q3, off3, hq3, hlt3, hc3⟩ := (HE2.out.keep hOl.out (nilS · _)).at_ HZ.out l hlz
              have hll : l < r.effs.length := by rw [HZ.out]; exact hlz
              have HLl := Lib.hid (List.getElem?_eq_getElem hll)
              have HEW := Lib.hid (HRW.out.effs _ (List.getElem_mem hll))
              generalize r.effs[l] = e at *
              subst hq3
              have f0 : wr.cell? ⟨q3, off3 + l * 7, none⟩ = some (.int .i64 e.act) := hc3 0 (by decide)
              have f1 : wr.cell? ⟨q3, off3 + l * 7 + 1, none⟩ = some (.string (bs e.ref)) := hc3 1 (by decide)
              have f2 : wr.cell? ⟨q3, off3 + l * 7 + 2, none⟩ = some (.string (bs e.slot)) := hc3 2 (by decide)
              have f3 : wr.cell? ⟨q3, off3 + l * 7 + 3, none⟩ = some (.string (bs e.name)) := hc3 3 (by decide)
              have f4 : wr.cell? ⟨q3, off3 + l * 7 + 4, none⟩ = some (.int .i64 e.val) := hc3 4 (by decide)
              have f5 : wr.cell? ⟨q3, off3 + l * 7 + 5, none⟩ = some (.int .i64 e.n) := hc3 5 (by decide)
              have f6 : wr.cell? ⟨q3, off3 + l * 7 + 6, none⟩ = some (.int .i64 e.delay) := hc3 6 (by decide)
              have hlzi : (l : Int) < (z : Int) := by omega
              have h0l : (0 : Int) ≤ (l : Int) := Int.natCast_nonneg l
              have HLZ := Lib.hid hlz
              obtain ⟨w6, hw6⟩ : ∃ w6, w6 = wr.alloc (.cells #[.int .i64 e.act, .string (bs e.ref), .string (bs e.slot), .string (bs e.name), .int .i64 e.val, .int .i64 e.n, .int .i64 e.delay] 50) := ⟨_, rfl⟩
              have o6 : Only Nil wr w6 := hw6 ▸ (Only.refl Nil wr).alloc _
              have BE := Lib.hid (show Bx w6 wr.heap.size [.int .i64 e.act, .string (bs e.ref), .string (bs e.slot), .string (bs e.name), .int .i64 e.val, .int .i64 e.n, .int .i64 e.delay] 50 from hw6 ▸ bx_new wr [.int .i64 e.act, .string (bs e.ref), .string (bs e.slot), .string (bs e.name), .int .i64 e.val, .int .i64 e.n, .int .i64 e.delay] _)
              have P4 := Lib.hid (h4.out.keep o6)
              have P5 := Lib.hid (h5.out.keep o6)
              have M6 := Lib.hid (MEff.keep (t := 30) hME.out o6 (ofT_nil _ _) (by decide))
              have O6 := Lib.hid (hOl.out.trans o6)
              have HL6 := Lib.hid (fun g (hg : RowOf ea g) => show g < wr.heap.size from row_lt hME.out hg)
              have HB6 := Lib.hid (show wm.heap.size ≤ wr.heap.size from hOl.out.size)
              have few : (l + 1) * 80 ≤ 140737488355328 := Nat.le_trans (Nat.mul_le_mul_right 80 HLZ.out) HZB.out
              have FEW := Lib.hid few
              have htl : ((r.effs.take l).map anew).length = l := by rw [List.length_map, List.length_take, HZ.out]; omega
              have HTL := Lib.hid htl
              have HTS := Lib.hid (take_map_succ anew HLl.out)
              clear hc3 o6 h4 h5 hME hOl hlz hl few htl hlt3 hll
              go_upto_region 17 with (fail)
              rw [← hw6]; clear hw6 f0 f1 f2 f3 f4 f5 f6 p3
              generalize wr.heap.size = B6 at *
              have k0 := BE.out.cell 0 (v := .int .i64 e.act) rfl
              by_cases h3 : e.act = 3
              · have g3 : (e.act == 3) = true := by simpa using h3
                have ean : anew e = ⟨e.act, e.ref, e.slot, 113 :: e.name, e.val, e.n, e.delay⟩ := by unfold anew; rw [if_pos h3]
                have hadd := fun w => add_q e.name HEW.out.name w
                have k3 := BE.out.cell 3 (v := .string (bs e.name)) rfl
                have f3 := BE.out.free 3
                clear h3
                go_upto_region 19 with (fail)
                have bx := bx_set BE.out 3 (.string (bs (113 :: e.name)))
                simp only [List.set_cons_succ, List.set_cons_zero] at bx
                have BX := Lib.hid bx
                have oA := (Only.refl (At B6) w6).setCell (p := ⟨B6, 3, none⟩) rfl (.string (bs (113 :: e.name)))
                have PX4 := Lib.hid (P4.out.at_ oA (blk_ne P4.out BE.out (by decide)))
                have PX5 := Lib.hid (P5.out.at_ oA (blk_ne P5.out BE.out (by decide)))
                have MX := Lib.hid (show MEff _ (.slice ea l ec) ((r.effs.take l).map anew) from own_keep M6.out oA (fun g hg h => by
                  have e1 : g = B6 := h
                  cases ea with
                  | none => simp [Value.ownBlock] at hg
                  | some ad => simp [Value.ownBlock] at hg; have := HL6.out g ⟨ad, rfl, hg⟩; omega))
                have OX := Lib.hid (O6.out.then oA (fun g hg hlt => by have e1 : g = B6 := hg; have := HB6.out; omega))
                generalize w6.setCell ⟨B6, 3, none⟩ (.string (bs (113 :: e.name))) = wx at *
                clear k0 k3 f3 bx oA hadd
                obtain ⟨a6, c6, w8, hr, M8, N8, o8⟩ := eff_pushed MX.out HTL.out hNE.out OX.out.size FEW.out (anew e)
                have hr : (Builtin.append_ #[28, 28] 28 #[.slice ea l ec, .slice (some ⟨wx.heap.size, 0, none⟩) 1 1]).run Try.prog (wx.alloc (.cells #[.int .i64 e.act, .string (bs e.ref), .string (bs e.slot), .string (bs (113 :: e.name)), .int .i64 e.val, .int .i64 e.n, .int .i64 e.delay] 50)) = .ok (.slice a6 (l + 1) c6) w8 := by rw [ean] at hr; exact hr
                have b4 := Lib.hid (bx_row PX4.out MX.out o8 (by decide))
                have b5 := bx_row PX5.out MX.out o8 (by decide)
                have p5 := PX5.out.cell 3 (v := .slice ea l ec) rfl
                have p58 := b5.cell 3 (v := .slice ea l ec) rfl
                have f58 := b5.free 3
                have b9 := bx_set b5 3 (.slice a6 (l + 1) c6)
                simp only [List.set_cons_succ, List.set_cons_zero] at b9
                have B9 := Lib.hid b9
                have oT := (Only.refl (At B5) w8).setCell (p := ⟨B5, 3, none⟩) rfl (.slice a6 (l + 1) c6)
                have B49 := Lib.hid (b4.out.at_ oT HNE.out)
                have M9 := Lib.hid (MEff.keep (t := 40) M8.out oT (ofT_at (show w8.heap[B5]? = _ from b5)) (by decide))
                have O8 : Only Nil wm w8 := OX.out.then o8 (fun g hg hlt => by obtain ⟨x, rfl, rfl⟩ := hg; have := hNE.out x.block rfl; omega)
                have O9 := Lib.hid (O8.then oT (fun g hg hlt => by have e1 : g = B5 := hg; have := HB5.out; omega))
                have hr' := Lib.hid hr
                clear hr b9 oT O8 o8 b4 b5 ean
                have k0 := BX.out.cell 0 (v := .int .i64 e.act) rfl
                have k1 := BX.out.cell 1 (v := .string (bs e.ref)) rfl
                have k2 := BX.out.cell 2 (v := .string (bs e.slot)) rfl
                have k3 := BX.out.cell 3 (v := .string (bs (113 :: e.name))) rfl
                have k4 := BX.out.cell 4 (v := .int .i64 e.val) rfl
                have k5 := BX.out.cell 5 (v := .int .i64 e.n) rfl
                have k6 := BX.out.cell 6 (v := .int .i64 e.delay) rfl
                go_wp2_with (at_builtin; refine Lib.wpList_append_run _ rfl (.tmp 85) (.tmp 87) 28 28 rfl _ _ rfl rfl _ _ hr'.out ?_)
                go_roundw
                case rel => exact ⟨l + 1, a6, c6, HLZ.out, by go_num, B49, B9, Lib.hid (by rw [HTS.out]; exact M9.out), N8, O9⟩
                case measure => have := HLZ.out; simp [intOf]; omega
              have g3 : (e.act == 3) = false := by simpa using h3
              have ean : anew e = ⟨e.act, e.ref, e.slot, e.name, e.val, e.n, e.delay⟩ := by rw [anew_settle h3]
              have BX := BE
              have PX4 := P4
              have PX5 := P5
              have MX := M6
              have OX := O6
              generalize w6 = wx at *
              clear h3 BE P4 P5 M6 O6 k0
              obtain ⟨a6, c6, w8, hr, M8, N8, o8⟩ := eff_pushed MX.out HTL.out hNE.out OX.out.size FEW.out (anew e)
              have hr : (Builtin.append_ #[28, 28] 28 #[.slice ea l ec, .slice (some ⟨wx.heap.size, 0, none⟩) 1 1]).run Try.prog (wx.alloc (.cells #[.int .i64 e.act, .string (bs e.ref), .string (bs e.slot), .string (bs e.name), .int .i64 e.val, .int .i64 e.n, .int .i64 e.delay] 50)) = .ok (.slice a6 (l + 1) c6) w8 := by rw [ean] at hr; exact hr
              have b4 := Lib.hid (bx_row PX4.out MX.out o8 (by decide))
              have b5 := bx_row PX5.out MX.out o8 (by decide)
              have p5 := PX5.out.cell 3 (v := .slice ea l ec) rfl
              have p58 := b5.cell 3 (v := .slice ea l ec) rfl
              have f58 := b5.free 3
              have b9 := bx_set b5 3 (.slice a6 (l + 1) c6)
              simp only [List.set_cons_succ, List.set_cons_zero] at b9
              have B9 := Lib.hid b9
              have oT := (Only.refl (At B5) w8).setCell (p := ⟨B5, 3, none⟩) rfl (.slice a6 (l + 1) c6)
              have B49 := Lib.hid (b4.out.at_ oT HNE.out)
              have M9 := Lib.hid (MEff.keep (t := 40) M8.out oT (ofT_at (show w8.heap[B5]? = _ from b5)) (by decide))
              have O8 : Only Nil wm w8 := OX.out.then o8 (fun g hg hlt => by obtain ⟨x, rfl, rfl⟩ := hg; have := hNE.out x.block rfl; omega)
              have O9 := Lib.hid (O8.then oT (fun g hg hlt => by have e1 : g = B5 := hg; have := HB5.out; omega))
              have hr' := Lib.hid hr
              clear hr b9 oT O8 o8 b4 b5 ean
              have k0 := BX.out.cell 0 (v := .int .i64 e.act) rfl
              have k1 := BX.out.cell 1 (v := .string (bs e.ref)) rfl
              have k2 := BX.out.cell 2 (v := .string (bs e.slot)) rfl
              have k3 := BX.out.cell 3 (v := .string (bs e.name)) rfl
              have k4 := BX.out.cell 4 (v := .int .i64 e.val) rfl
              have k5 := BX.out.cell 5 (v := .int .i64 e.n) rfl
              have k6 := BX.out.cell 6 (v := .int .i64 e.delay) rfl
              go_wp2_with (at_builtin; refine Lib.wpList_append_run _ rfl (.tmp 85) (.tmp 87) 28 28 rfl _ _ rfl rfl _ _ hr'.out ?_)
              go_roundw
              case rel => exact ⟨l + 1, a6, c6, HLZ.out, by go_num, B49, B9, Lib.hid (by rw [HTS.out]; exact M9.out), N8, O9⟩
              case measure => have := HLZ.out; simp [intOf]; omega
            · obtain rfl : z = l := by omega
              have hk0 : ¬ (z : Int) < (z : Int) := by omega
              have hfull : (r.effs.take z).map anew = r.effs.map anew := by rw [List.take_of_length_le (by rw [HZ.out]; exact Nat.le_refl _)]
              have MF : MEff wr (.slice ea z ec) (anewR r).effs := by have := hME.out; rw [hfull] at this; exact this
              have O6 := hOj.out.trans hOl.out
              have FR6 := FR.keep (t := 30) hR.out hOl.out (ofT_nil _ _) (by decide) (by decide)
              have hnew : New wo (.slice ea z ec) := new_mono hNE.out hOj.out.size
              have few : (j + 1) * 56 ≤ 140737488355328 := Nat.le_trans (Nat.mul_le_mul_right 56 HJ.out) (by rw [← HM.out]; exact HYB.out.1)
              have htj : ((y.rows.take j).map anewR).length = j := by have := HJ.out; rw [List.length_map, List.length_take, HM.out]; omega
              obtain ⟨a6, c6, w7, hr, F7, o7⟩ := frow_pushed FR6 htj O6.size few (anewR r) (.slice ea z ec) MF hnew
              have hr : (Builtin.append_ #[46, 46] 46 #[.slice ra j rc, .slice (some ⟨wr.heap.size, 0, none⟩) 1 1]).run Try.prog (wr.alloc (.cells #[.string (bs r.tag), .bool r.only, .int .i64 r.n, .slice ea z ec] 40)) = .ok (.slice a6 (j + 1) c6) w7 := hr
              have bS := hB.out.keep hOl.out
              have pS := bS.cell 1 (v := .slice ra j rc) rfl
              obtain ⟨Z6, _, zo, zn, _⟩ := FR6
              have bS7 := bx_row bS zo o7 (by decide)
              have pS7 := bS7.cell 1 (v := .slice ra j rc) rfl
              have fS7 := bS7.free 1
              have hr' := Lib.hid hr
              have y0 := h5.out.cell 0 (v := .string (bs r.tag)) rfl
              have y1 := h5.out.cell 1 (v := .bool r.only) rfl
              have y2 := h5.out.cell 2 (v := .int .i64 r.n) rfl
              have y3 := h5.out.cell 3 (v := .slice ea z ec) rfl
              have bS8 := bx_set bS7 1 (.slice a6 (j + 1) c6)
              simp only [List.set_cons_succ, List.set_cons_zero] at bS8
              have BS8 := Lib.hid bS8
              have oT := (Only.refl (At B3) w7).setCell (p := ⟨B3, 1, none⟩) rfl (.slice a6 (j + 1) c6)
              have F8 := Lib.hid (FR.keep (t := 48) F7.out oT (ofT_at (show w7.heap[B3]? = _ from bS7)) (by decide) (by decide))
              have O7 : Only Nil wo w7 := O6.then o7 (fun g hg hlt => by obtain ⟨x, rfl, rfl⟩ := hg; have := zn x.block rfl; omega)
              have O8 := Lib.hid (O7.then oT (fun g hg hlt => by have e1 : g = B3 := hg; have := HB3.out; omega))
              have HTS := Lib.hid (take_map_succ anewR HLj.out)
              clear hlz hr bS8 oT O7 o7 O6 MF hnew few htj hfull zo zn bS
              go_wp2_with (at_builtin; refine Lib.wpList_append_run _ rfl (.tmp 91) (.tmp 93) 46 46 rfl _ _ rfl rfl _ _ hr'.out ?_)
              go_roundw
              case rel => exact ⟨j + 1, a6, c6, HJ.out, by go_num, BS8, Lib.hid (by rw [HTS.out]; exact F8.out), O8⟩
              case measure => have := HJ.out; simp [intOf]; omega
        · obtain rfl : m = j := by omega
          have hk0 : ¬ (m : Int) < (m : Int) := by omega
          have hfull : (y.rows.take m).map anewR = y.rows.map anewR := by rw [List.take_of_length_le (by rw [HM.out]; exact Nat.le_refl _)]
          have MF : FR wA wr (.slice ra m rc) (anewS y).rows := by have := hR.out.mono hO.out.size; rw [hfull] at this; exact this
          have O6 := hO.out.trans hOj.out
          have FS6 := FS.keep (t := 30) hF.out hOj.out (ofT_nil _ _) (by decide) (by decide) (by decide)
          have few : (i + 1) * 40 ≤ 140737488355328 := Nat.le_trans (Nat.mul_le_mul_right 40 HI.out) HB40.out
          have hti : ((k.states.take i).map anewS).length = i := by have := HI.out; rw [List.length_map, List.length_take, HN2.out]; omega
          obtain ⟨a6, c6, w7, hr, F7, o7⟩ := fsta_pushed FS6 hti O6.size few (anewS y) (.slice ra m rc) MF
          have hr : (Builtin.append_ #[23, 23] 23 #[.slice va i vc, .slice (some ⟨wr.heap.size, 0, none⟩) 1 1]).run Try.prog (wr.alloc (.cells #[.string (bs (113 :: y.name)), .slice ra m rc] 48)) = .ok (.slice a6 (i + 1) c6) w7 := hr
          have bS := hT.out.keep hOj.out
          have pS := bS.cell 4 (v := .slice va i vc) rfl
          obtain ⟨Z6, _, zo, zn, _⟩ := FS6
          have bS7 := bx_row bS zo o7 (by decide)
          have pS7 := bS7.cell 4 (v := .slice va i vc) rfl
          have fS7 := bS7.free 4
          have hr' := Lib.hid hr
          have y0 := hB.out.cell 0 (v := .string (bs (113 :: y.name))) rfl
          have y1 := hB.out.cell 1 (v := .slice ra m rc) rfl
          have bS8 := bx_set bS7 4 (.slice a6 (i + 1) c6)
          simp only [List.set_cons_succ, List.set_cons_zero] at bS8
          have BS8 := Lib.hid bS8
          have oT := (Only.refl (At B2) w7).setCell (p := ⟨B2, 4, none⟩) rfl (.slice a6 (i + 1) c6)
          have F8 := Lib.hid (FS.keep (t := 25) F7.out oT (ofT_at (show w7.heap[B2]? = _ from bS7)) (by decide) (by decide) (by decide))
          have O7 : Only Nil wA w7 := O6.then o7 (fun g hg hlt => by obtain ⟨x, rfl, rfl⟩ := hg; have := zn x.block rfl; omega)
          have O8 := Lib.hid (O7.then oT (fun g hg hlt => by have e1 : g = B2 := hg; have := HBA.out; omega))
          have HTS := Lib.hid (take_map_succ anewS HL.out)
          clear hjm hr bS8 oT O7 o7 O6 MF few hti hfull zo zn bS
          go_wp2_with (at_builtin; refine Lib.wpList_append_run _ rfl (.tmp 97) (.tmp 99) 23 23 rfl _ _ rfl rfl _ _ hr'.out ?_)
          go_roundw
          case rel => exact ⟨i + 1, a6, c6, HI.out, by go_num, BS8, Lib.hid (by rw [HTS.out]; exact F8.out), O8⟩
          case measure => have := HI.out; simp [intOf]; omega
    · obtain rfl : n2 = i := by omega
      have hk0 : ¬ (n2 : Int) < (n2 : Int) := by omega
      have hfull : (k.states.take n2).map anewS = k.states.map anewS := by rw [List.take_of_length_le (by rw [HN2.out]; exact Nat.le_refl _)]
      have FT := hF.out
      rw [hfull] at FT
      have HTW := Lib.hid (show SIn2 wr.heap.size wr va n2 vc (k.states.map anewS) from ⟨FT.x, by rw [List.length_map]; exact HN2.out, by omega, anew_bz HBZ.out, Nat.le_refl _⟩)
      have HD := Lib.hid (do_any (nm := k.name) (lim := k.limit) (wi := k.within) (v1 := v1) (HSA.out.keep hO.out) s t n HN.out)
      have x0 := xk.cell 0 (v := .string (bs k.name)) rfl
      have x1 := xk.cell 1 (v := .int .i64 k.limit) rfl
      have x2 := xk.cell 2 (v := .int .i64 k.within) rfl
      have x3 := xk.cell 3 (v := v1) rfl
      have x4 := xk.cell 4 (v := .slice a2 n2 c2) rfl
      have hpn := plan_anew k.states s t n
      generalize hp : planOf k.states s t n = p at *
      have HPN := Lib.hid hpn
      clear him hi hfull FT hpn hF k4
      go_wp2_with fail
      refine HD.out.mono ?_
      rintro e w3 ⟨hr, o3⟩
      obtain ⟨v, rfl, hM, hNw⟩ := hr.out
      obtain ⟨ua, uc, rfl⟩ := own_slice_n hM
      clear hr x0 x1 x2 x3 x4 xk
      obtain ⟨w4, hw4⟩ : ∃ w4, w4 = w3.alloc (.cells #[.bool p.stash, .slice ua p.effs.length uc, .string (bs p.state), .bool p.stop, .string (bs p.fail)] 30) := ⟨_, rfl⟩
      have o4 : Only Nil w3 w4 := hw4 ▸ (Only.refl Nil w3).alloc _
      have BP := Lib.hid (show Bx w4 w3.heap.size [.bool p.stash, .slice ua p.effs.length uc, .string (bs p.state), .bool p.stop, .string (bs p.fail)] 30 from hw4 ▸ bx_new w3 [.bool p.stash, .slice ua p.effs.length uc, .string (bs p.state), .bool p.stop, .string (bs p.fail)] _)
      have M4 := Lib.hid (MEff.keep (t := 25) hM o4 (ofT_nil _ _) (by decide))
      have O4 := Lib.hid (OA.out.trans (hO.out.trans (o3.trans o4)))
      have T4 := Lib.hid (hT.out.keep (o3.trans o4))
      have HTW4 := Lib.hid (HTW.out.keep (o3.trans o4))
      have HP3 := Lib.hid (show w.heap.size ≤ w3.heap.size from (OA.out.trans (hO.out.trans o3)).size)
      have HTD := Lib.hid (show wr.heap.size ≤ w3.heap.size from o3.size)
      have HP4 := Lib.hid (show B2 < w3.heap.size from lt_of_block (hT.out.keep o3))
      simp only [plC]
      clear hM hNw o3 o4 HD HTW hT hO
      go_upto_region 23 with (fail)
      rw [← hw4]; clear hw4
      generalize w3.heap.size = B7 at *
      have hadd := fun w => add_q p.state HST.out w
      have p2 := BP.out.cell 2 (v := .string (bs p.state)) rfl
      have f2 := BP.out.free 2
      go_upto_region 24 with (fail)
      have q2 := bx_set BP.out 2 (.string (bs (113 :: p.state)))
      simp only [List.set_cons_succ, List.set_cons_zero] at q2
      have BQ := Lib.hid q2
      have oT := (Only.refl (At B7) w4).setCell (p := ⟨B7, 2, none⟩) rfl (.string (bs (113 :: p.state)))
      have hTP : OfT 30 (At B7) w4 := ofT_at (show w4.heap[B7]? = _ from BP.out)
      have M5 := Lib.hid (MEff.keep (t := 30) M4.out oT hTP (by decide))
      have T5 := Lib.hid (T4.out.at_ oT (by have := HP4.out; omega))
      have O5 := Lib.hid (O4.out.then oT (fun g hg hlt => by have e1 : g = B7 := hg; have := HP3.out; omega))
      have HTW5 := Lib.hid (show SIn2 _ _ va n2 vc (k.states.map anewS) from ⟨HTW4.out.x.keep oT (fun b hb h => by have e1 : b = B7 := h; have := HTD.out; omega), HTW4.out.hn, HTW4.out.hb, HTW4.out.bz, Nat.le_trans HTW4.out.hD oT.size⟩)
      generalize w4.setCell ⟨B7, 2, none⟩ (.string (bs (113 :: p.state))) = w5 at *
      clear p2 f2 q2 oT hTP hadd M4 T4 O4 HTW4 BP
      have HD2 : Hid (∀ w', Only Nil w5 w' → Calls Try.prog 13 #[.agg #[.string (bs k.name), .int .i64 0, .int .i64 0, .slice none 0 0, .slice va n2 vc], .string (bs (113 :: s)), .string (bs t), .int .i64 n] w' fun e w'' => (∃ vb vd, e = .returned (.agg #[.bool p.stash, .slice vb p.effs.length vd, .string (bs (113 :: p.state)), .bool p.stop, .string (bs p.fail)]) ∧ MEff w'' (.slice vb p.effs.length vd) p.effs) ∧ Only Nil w' w'') := Lib.hid fun w' o => (do2_any (nm := k.name) (lim := 0) (wi := 0) (v1 := .slice none 0 0) (HTW5.out.keep o) (113 :: s) t n HN.out).mono fun e w'' hh => by
        obtain ⟨v, h1, h2, _⟩ := hh.1.out
        rw [HPN.out] at h1 h2
        obtain ⟨vb, vd, rfl⟩ := own_slice_n h2
        exact ⟨⟨vb, vd, h1, h2⟩, hh.2⟩
      have hadd := fun w => add_q s HSL.out w
      have CC := Lib.hid (show ∀ w', Only Nil w5 w' → (fun w' : World => w'.cell? ⟨B7, 0, none⟩ = some (.bool p.stash) ∧ w'.cell? ⟨B7, 1, none⟩ = some (.slice ua p.effs.length uc) ∧ w'.cell? ⟨B7, 2, none⟩ = some (.string (bs (113 :: p.state))) ∧ w'.cell? ⟨B7, 3, none⟩ = some (.bool p.stop) ∧ w'.cell? ⟨B7, 4, none⟩ = some (.string (bs p.fail)) ∧ w'.cell? ⟨B2, 0, none⟩ = some (.string (bs k.name)) ∧ w'.cell? ⟨B2, 1, none⟩ = some (.int .i64 0) ∧ w'.cell? ⟨B2, 2, none⟩ = some (.int .i64 0) ∧ w'.cell? ⟨B2, 3, none⟩ = some (.slice none 0 0) ∧ w'.cell? ⟨B2, 4, none⟩ = some (.slice va n2 vc)) w' from fun w' o => by
        have h1 := BQ.out.keep o
        have h2 := T5.out.keep o
        exact ⟨h1.cell 0 rfl, h1.cell 1 rfl, h1.cell 2 rfl, h1.cell 3 rfl, h1.cell 4 rfl, h2.cell 0 rfl, h2.cell 1 rfl, h2.cell 2 rfl, h2.cell 3 rfl, h2.cell 4 rfl⟩)
      have OO := Lib.hid (show Only Nil w5 w5.drew from (Only.refl Nil w5).drew)
      have M6 := Lib.hid (MEff.keep (t := 25) M5.out OO.out (ofT_nil _ _) (by decide))
      refine wp_region_held_drew (S := fun w' => w'.cell? ⟨B7, 0, none⟩ = some (.bool p.stash) ∧ w'.cell? ⟨B7, 1, none⟩ = some (.slice ua p.effs.length uc) ∧ w'.cell? ⟨B7, 2, none⟩ = some (.string (bs (113 :: p.state))) ∧ w'.cell? ⟨B7, 3, none⟩ = some (.bool p.stop) ∧ w'.cell? ⟨B7, 4, none⟩ = some (.string (bs p.fail)) ∧ w'.cell? ⟨B2, 0, none⟩ = some (.string (bs k.name)) ∧ w'.cell? ⟨B2, 1, none⟩ = some (.int .i64 0) ∧ w'.cell? ⟨B2, 2, none⟩ = some (.int .i64 0) ∧ w'.cell? ⟨B2, 3, none⟩ = some (.slice none 0 0) ∧ w'.cell? ⟨B2, 4, none⟩ = some (.slice va n2 vc)) (by kernel_rfl) (CC.out _ OO.out) (fun hHeld => ?_)
      refine take_dst (some 111) (i := 0) (v := ?vnm1) rfl (by kernel_rfl) (by kernel_rfl) (by kernel_rfl) (by kernel_rfl) (fun _ _ _ h => h) (Or.inl ⟨by kernel_rfl, ?hnm1⟩) (by assumption) ?rnm1
      case hnm1 => (intro w hSw; (try dsimp only at hSw); first | (go_simp; done) | (go_simp; with_reducible rfl))
      try simp only [Act.put, List.setIfInBounds_toArray, List.set_cons_zero, List.set_cons_succ]
      refine take_dst (some 112) (i := 1) (v := ?vnm2) rfl (by kernel_rfl) (by kernel_rfl) (by kernel_rfl) (by kernel_rfl) (fun _ _ _ h => h) (Or.inl ⟨by kernel_rfl, ?hnm2⟩) (by assumption) ?rnm2
      case hnm2 => (intro w hSw; (try dsimp only at hSw); first | (go_simp; done) | (go_simp; with_reducible rfl))
      try simp only [Act.put, List.setIfInBounds_toArray, List.set_cons_zero, List.set_cons_succ]
      refine take_dst (some 113) (i := 2) (v := ?vnm3) rfl (by kernel_rfl) (by kernel_rfl) (by kernel_rfl) (by kernel_rfl) (fun _ _ _ h => h) (Or.inl ⟨by kernel_rfl, ?hnm3⟩) (by assumption) ?rnm3
      case hnm3 => (intro w hSw; (try dsimp only at hSw); first | (go_simp; done) | (go_simp; with_reducible rfl))
      try simp only [Act.put, List.setIfInBounds_toArray, List.set_cons_zero, List.set_cons_succ]
      refine take_dst (some 114) (i := 3) (v := ?vnm4) rfl (by kernel_rfl) (by kernel_rfl) (by kernel_rfl) (by kernel_rfl) (fun _ _ _ h => h) (Or.inl ⟨by kernel_rfl, ?hnm4⟩) (by assumption) ?rnm4
      case hnm4 => (intro w hSw; (try dsimp only at hSw); first | (go_simp; done) | (go_simp; with_reducible rfl))
      try simp only [Act.put, List.setIfInBounds_toArray, List.set_cons_zero, List.set_cons_succ]
      refine take_dst (some 115) (i := 4) (v := ?vnm5) rfl (by kernel_rfl) (by kernel_rfl) (by kernel_rfl) (by kernel_rfl) (fun _ _ _ h => h) (Or.inl ⟨by kernel_rfl, ?hnm5⟩) (by assumption) ?rnm5
      case hnm5 => (intro w hSw; (try dsimp only at hSw); first | (go_simp; done) | (go_simp; with_reducible rfl))
      try simp only [Act.put, List.setIfInBounds_toArray, List.set_cons_zero, List.set_cons_succ]
      refine take_dst (some 116) (i := 5) (v := ?vnm6) rfl (by kernel_rfl) (by kernel_rfl) (by kernel_rfl) (by kernel_rfl) (fun _ _ _ h => h) (Or.inl ⟨by kernel_rfl, ?hnm6⟩) (by assumption) ?rnm6
      case hnm6 => (intro w hSw; (try dsimp only at hSw); first | (go_simp; done) | (go_simp; with_reducible rfl))
      try simp only [Act.put, List.setIfInBounds_toArray, List.set_cons_zero, List.set_cons_succ]
      refine wpAnyH_ready (rs := [6]) (by kernel_rfl) (by simp) ?_
      refine AllReadyH.cons rfl (fun Knm7 hKnm7 => ?_) AllReadyH.nil
      (go_simp; go_at_call 13; refine (HD2.out _ OO.out).mono ?_; rintro e wn ⟨⟨vb, vd, rfl, hv⟩, on⟩; have M2 := Lib.hid hv; have X := Lib.hid (MEff.keep (t := 25) M6.out on (ofT_nil _ _) (by decide)); clear M6; have M6 := X; clear X; have X := Lib.hid (OO.out.trans on); clear OO; have OO := X; clear X; clear hv on; go_wp2_with fail)
      refine hKnm7.out _ _ ?snm7 (fun hHeldnm7 => ?_)
      case snm7 => exact CC.out _ OO.out
      clear hKnm7 Knm7
      try simp only [Act.put, List.setIfInBounds_toArray, List.set_cons_zero, List.set_cons_succ]
      refine wpAnyH_ready (rs := [7]) (by kernel_rfl) (by simp) ?_
      refine AllReadyH.cons rfl (fun Knm8 hKnm8 => ?_) AllReadyH.nil
      (go_simp; go_at_call 26; refine (lsame15 { p with state := 113 :: p.state } (MEff.x M6.out) (MEff.x M2.out) rfl HPZ.out).mono ?_; rintro e wn ⟨rfl, on⟩; have X := Lib.hid (OO.out.trans on); clear OO; have OO := X; clear X; clear on; go_wp2_with fail)
      refine hKnm8.out _ _ ?snm8 (fun hHeldnm8 => ?_)
      case snm8 => exact CC.out _ OO.out
      clear hKnm8 Knm8
      try simp only [Act.put, List.setIfInBounds_toArray, List.set_cons_zero, List.set_cons_succ]
      refine take_dst (some 8) (i := 8) (v := ?vnm9) rfl (by kernel_rfl) (by kernel_rfl) (by kernel_rfl) (by kernel_rfl) (fun _ _ _ h => h) (Or.inl ⟨by kernel_rfl, ?hnm9⟩) (by assumption) ?rnm9
      case hnm9 => (intro w hSw; (try dsimp only at hSw); first | (go_simp; done) | (go_simp; with_reducible rfl))
      try simp only [Act.put, List.setIfInBounds_toArray, List.set_cons_zero, List.set_cons_succ]
      refine wpAnyH_done (by kernel_rfl) ?_ _
      go_wp2
      go_ret
      exact ⟨rfl, below_of (O5.out.trans OO.out)⟩
theorem named_row (k : Kd) (v1 v2 : Value) (w : World) (x : XC w.heap.size w v1 k.cases ∧ XS w.heap.size w v2 k.states) (wk : wfK k) (zk : bzK k) (s t : ByteArray) (hs : s.data.toList.length ≤ 140737488351232) (n : Int) (hn : inW n) :
    Calls Try.prog 6 #[.agg #[.string (bs k.name), .int .i64 k.limit, .int .i64 k.within, v1, v2], .string s, .string t, .int .i64 n] w fun e w' => e = .returned (.bool true) ∧ Below w.heap.size w w' := by
  obtain ⟨sa, sc, rfl⟩ := x.2.slice
  have h := named_all k (v1 := v1) (sin_of x.2 wk zk) s.data.toList t.data.toList (by omega) n hn zk.2.1
  rw [bs_of, bs_of] at h
  exact h
end Go.Proofs.Ytimnaiahokafaaa.Ac
