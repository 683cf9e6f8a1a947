/- act: ActFalls, ActEnds, ActWords. -/
import Derived.Test.YtimnaiahokafaaaAcI
set_option linter.unusedVariables false
set_option linter.unusedSimpArgs false
namespace Go.Proofs.Ytimnaiahokafaaa.Ac
open Go Go.RowKit Go.Proofs.Ytimnaiahokafaaa Lx Ps Ch

theorem below_of {w w' : World} (o : Only Nil w w') : Below w.heap.size w w' := below_nil o
def exL : Eff := ⟨1, [], [], [], 1, 0, 0⟩
theorem less_of (n : Int) : numOf exL n = if n < 1 then 0 else n - 1 := rfl

set_option maxHeartbeats 2000000 in
theorem falls_all (n : Int) (hn : inW n) (w : World) : Calls Try.prog 9 #[.int .i64 n] w fun e w' => e = .returned (.bool true) ∧ Below w.heap.size w w' := by
  have HA := Lib.hid (alive_any w)
  by_cases hbig : n > 100000
  · clear hn
    go_enter Try.func9, Try.ntmps9
    go_wp2_with fail
    refine HA.out.mono ?_
    rintro e w1 ⟨rfl, o1⟩
    go_wp2
    go_ret
    exact ⟨rfl, below_of o1⟩
  go_enter Try.func9, Try.ntmps9
  go_wp2_with fail
  refine HA.out.mono ?_
  rintro e w1 ⟨rfl, o1⟩
  obtain ⟨w2, hw2⟩ : ∃ w2, w2 = w1.alloc (.cells #[.int .i64 1, .string ⟨#[]⟩, .string ⟨#[]⟩, .string ⟨#[]⟩, .int .i64 1, .int .i64 0, .int .i64 0] 50) := ⟨_, rfl⟩
  have o2 : Only Nil w1 w2 := hw2 ▸ (Only.refl Nil w1).alloc _
  have b : Bx w2 w1.heap.size [.int .i64 1, .string ⟨#[]⟩, .string ⟨#[]⟩, .string ⟨#[]⟩, .int .i64 1, .int .i64 0, .int .i64 0] 50 := hw2 ▸ bx_new w1 [.int .i64 1, .string ⟨#[]⟩, .string ⟨#[]⟩, .string ⟨#[]⟩, .int .i64 1, .int .i64 0, .int .i64 0] _
  have BL := Lib.hid b
  have O2 := Lib.hid (o1.trans o2)
  have HB := Lib.hid hbig
  clear o1 o2 b HA
  go_upto_region 6 with (fail)
  rw [← hw2]; clear hw2
  generalize w1.heap.size = Bl at *
  clear hbig
  go_wp2
  go_loopw [0, 4] (fun s0 s4 wr => ∃ j : Int, s0 = .int .i64 j ∧ s4 = .int .i64 j ∧ Hid (inW j) ∧ Hid (Only Nil w2 wr)) (fun _ s4 _ => (intOf s4).toNat)
  case atStart => exact ⟨n, rfl, rfl, Lib.hid hn, Lib.hid (Only.refl _ _)⟩
  case round =>
    obtain ⟨j, rfl, rfl, hj, hO⟩ := hrel
    have hb := BL.out.keep hO.out
    have k0 := hb.cell 0 (v := .int .i64 1) rfl
    have k1 := hb.cell 1 (v := .string ⟨#[]⟩) rfl
    have k2 := hb.cell 2 (v := .string ⟨#[]⟩) rfl
    have k3 := hb.cell 3 (v := .string ⟨#[]⟩) rfl
    have k4 := hb.cell 4 (v := .int .i64 1) rfl
    have k5 := hb.cell 5 (v := .int .i64 0) rfl
    have k6 := hb.cell 6 (v := .int .i64 0) rfl
    by_cases h : j > 0
    · have HN := Lib.hid (number_any exL j hj.out wr)
      have hl : numOf exL j = j - 1 := by rw [less_of]; rw [if_neg (by omega)]
      rw [hl] at HN
      have hwj : IntKind.i64.wrap (j - 1) = j - 1 := by have := hj.out; unfold inW at this; exact IntWalk.i64_in _ (by omega)
      have hjj : inW (j - 1) := by have := hj.out; unfold inW at *; omega
      have HJ := Lib.hid hjj
      have hne : ((j - 1) != (j - 1)) = false := by simp
      have HH := Lib.hid h
      clear hl hjj hb
      go_wp2_with fail
      refine HN.out.mono ?_
      rintro e w3 ⟨rfl, o3⟩
      have O3 := Lib.hid (hO.out.trans o3)
      clear o3 h
      go_wp2
      go_roundw
      case rel => exact ⟨j - 1, rfl, rfl, HJ, O3⟩
      case measure => have := HH.out; simp [intOf]; omega
    · have hm : min j 0 = j := by omega
      have HN := Lib.hid (number_any exL 0 (by unfold inW; decide) wr)
      rw [show numOf exL 0 = 0 from rfl] at HN
      have HN2 := Lib.hid (fun w' => number_any exL j hj.out w')
      have hl : numOf exL j = 0 := by rw [less_of]; rw [if_pos (by omega)]
      simp only [hl] at HN2
      clear hl
      go_wp2_with fail
      refine HN.out.mono ?_
      rintro e w3 ⟨rfl, o3⟩
      have O3 := Lib.hid (hO.out.trans o3)
      have hb3 := hb.keep o3
      clear o3 k0 k1 k2 k3 k4 k5 k6 hb
      have k0 := hb3.cell 0 (v := .int .i64 1) rfl
      have k1 := hb3.cell 1 (v := .string ⟨#[]⟩) rfl
      have k2 := hb3.cell 2 (v := .string ⟨#[]⟩) rfl
      have k3 := hb3.cell 3 (v := .string ⟨#[]⟩) rfl
      have k4 := hb3.cell 4 (v := .int .i64 1) rfl
      have k5 := hb3.cell 5 (v := .int .i64 0) rfl
      have k6 := hb3.cell 6 (v := .int .i64 0) rfl
      go_wp2_with fail
      refine (HN2.out _).mono ?_
      rintro e w4 ⟨rfl, o4⟩
      go_wp2
      go_ret
      exact ⟨rfl, below_of (O2.out.trans (O3.out.trans o4))⟩

def Sent (x : Eff) : Prop := ¬ x.act = 3 ∧ ¬ x.act = 4 ∧ ¬ x.act = 11 ∧ ¬ x.act = 12 ∧ ((x.act = 1 ∨ x.act = 8) → x.val = 2)
theorem sent_all (n : Int) (E : List Eff) (s : Wd) : ∀ x ∈ (doE n E s).effs, Sent x := by
  unfold doE
  split
  · intro x hx; exact nomatch hx
  · refine runE_mem n E [] s (fun x hx => nomatch hx) (fun e he h3 h4 h11 h12 => ?_)
    have ha : (settle e n).act = e.act := by unfold settle; split <;> rfl
    refine ⟨by rw [ha]; exact h3, by rw [ha]; exact h4, by rw [ha]; exact h11, by rw [ha]; exact h12, fun h => ?_⟩
    rw [ha] at h
    unfold settle
    rw [if_pos h]
theorem doE_kinds (n : Int) (E : List Eff) (s : Wd) : doE n E s = ⟨true, [], s, false, []⟩ ∨ ((doE n E s).stash = false ∧ ((doE n E s).stop = false ∨ ((doE n E s).stop = true ∧ (doE n E s).fail = []))) := by
  unfold doE
  split
  · exact Or.inl rfl
  · refine Or.inr ⟨runE_stash _ _ _ _, ?_⟩
    rcases runE_ends n E [] s with h | h
    · exact Or.inl h
    · cases h2 : (runE n E [] s).stop with
      | false => exact Or.inl rfl
      | true => exact Or.inr ⟨rfl, h⟩
set_option maxHeartbeats 8000000 in
set_option maxRecDepth 100000 in
theorem ends_all {w : World} (k : Kd) {v1 : Value} {a2 : Option Addr} {n2 c2 : Nat} (hS : SIn w.heap.size w a2 n2 c2 k.states) (s t : Wd) (n : Int) (hn : inW n) :
    Calls Try.prog 8 #[.agg #[.string (bs k.name), .int .i64 k.limit, .int .i64 k.within, v1, .slice a2 n2 c2], .string (bs s), .string (bs t), .int .i64 n] w fun e w' => e = .returned (.bool true) ∧ Below w.heap.size w w' := by
  obtain ⟨W1, hW1⟩ : ∃ W, W = w.alloc (.cells #[.string (bs k.name), .int .i64 k.limit, .int .i64 k.within, v1, .slice a2 n2 c2] 25) := ⟨_, rfl⟩
  have s1 : W1.heap.size = w.heap.size + 1 := by rw [hW1]; simp
  have o1 : Only Nil w W1 := hW1 ▸ (Only.refl Nil w).alloc _
  have b1 : Bx W1 (w.heap.size) [.string (bs k.name), .int .i64 k.limit, .int .i64 k.within, v1, .slice a2 n2 c2] 25 := hW1 ▸ bx_new w _ _
  have X1 := Lib.hid b1
  have O := Lib.hid o1
  have SZ := Lib.hid s1
  have HA := Lib.hid (alive_any W1)
  have HS := Lib.hid (hS.keep O.out)
  have HN := Lib.hid hn
  have hsz : (planOf k.states s t n).effs.length ≤ 140737488355328 := by
    have h1 := doE_len n (rowOf k.states s t n).effs s
    have h2 := row_bz hS.bz s t n
    unfold planOf; omega
  have HZ := Lib.hid hsz
  clear hS hn hsz
  go_enter Try.func8, Try.ntmps8
  go_upto_region 1 with (fail)
  (try simp only [World.size_alloc])
  rw [← hW1]
  clear hW1 s1 o1 b1
  generalize hB1 : w.heap.size = B1 at *
  have HB1 := Lib.hid hB1
  clear hB1
  go_wp2_with fail
  refine HA.out.mono ?_
  rintro e w1 ⟨rfl, o1⟩
  have hb := X1.out.keep o1
  have k0 := hb.cell 0 (v := .string (bs k.name)) rfl
  have k1 := hb.cell 1 (v := .int .i64 k.limit) rfl
  have k2 := hb.cell 2 (v := .int .i64 k.within) rfl
  have k3 := hb.cell 3 (v := v1) rfl
  have k4 := hb.cell 4 (v := .slice a2 n2 c2) rfl
  have HD := Lib.hid (do_any (nm := k.name) (lim := k.limit) (wi := k.within) (v1 := v1) (HS.out.keep o1) s t n HN.out)
  have O1 := Lib.hid (O.out.trans o1)
  clear o1 hb HA
  go_wp2_with fail
  refine HD.out.mono ?_
  rintro e w4 ⟨hr, o4⟩
  obtain ⟨v, rfl, hM, hNw⟩ := hr.out
  obtain ⟨va, vc, rfl⟩ := own_slice_n hM
  have hk := doE_kinds n (rowOf k.states s t n).effs s
  have hq := sent_all n (rowOf k.states s t n).effs s
  change planOf k.states s t n = _ ∨ _ at hk
  generalize hp : planOf k.states s t n = p at *
  rw [show doE n (rowOf k.states s t n).effs s = p from hp] at hk hq
  have HP := Lib.hid hp
  obtain ⟨w5, hw5⟩ : ∃ w5, w5 = w4.alloc (.cells #[.bool p.stash, .slice va p.effs.length vc, .string (bs p.state), .bool p.stop, .string (bs p.fail)] 30) := ⟨_, rfl⟩
  have o5 : Only Nil w4 w5 := hw5 ▸ (Only.refl Nil w4).alloc _
  have b : Bx w5 w4.heap.size [.bool p.stash, .slice va p.effs.length vc, .string (bs p.state), .bool p.stop, .string (bs p.fail)] 30 := hw5 ▸ bx_new w4 [.bool p.stash, .slice va p.effs.length vc, .string (bs p.state), .bool p.stop, .string (bs p.fail)] _
  have HXE := Lib.hid ((MEff.x hM).keep o5 (nilS · _))
  have O5 := Lib.hid (O1.out.trans (o4.trans o5))
  simp only [plC]
  clear hr hM hNw k0 k1 k2 k3 k4 hp HD HP o4 o5 O1
  go_upto_region 4 with (fail)
  rw [← hw5]; clear hw5
  generalize w4.heap.size = B4 at *
  obtain ⟨stash, E, st, stop, fl⟩ := p
  dsimp only at *
  have q0 := str_eq s
  generalize hm : E.length = m at *
  have HM := Lib.hid hm
  have HQ := Lib.hid hq
  have hmb : (m : Int) ≤ 140737488355328 := by have := HZ.out; omega
  rcases hk with hk | ⟨rfl, hk⟩
  · simp only [Pl.mk.injEq] at hk
    obtain ⟨rfl, rfl, rfl, rfl, rfl⟩ := hk
    have em : (bs []).toList.isEmpty = true := by rw [emp_bs]; rfl
    obtain rfl : m = 0 := by rw [← hm]; rfl
    have BP := Lib.hid b
    have p0 := BP.out.cell 0 (v := .bool true) rfl
    have p1 := BP.out.cell 1 (v := .slice va 0 vc) rfl
    have p2 := BP.out.cell 2 (v := .string (bs st)) rfl
    have p3 := BP.out.cell 3 (v := .bool false) rfl
    have p4 := BP.out.cell 4 (v := .string (bs [])) rfl
    clear b hm hq
    go_wp2
    go_loopw [10] (fun s10 wr => s10 = .int .i64 0 ∧ w5 = wr) (fun _ _ => 0)
    case atStart => exact ⟨rfl, rfl⟩
    case round =>
      obtain ⟨rfl, rfl⟩ := hrel
      go_wp2
      go_ret
      exact ⟨rfl, below_of O5.out⟩
  rcases hk with rfl | ⟨rfl, rfl⟩
  · have BP := Lib.hid b
    have p0 := BP.out.cell 0 (v := .bool false) rfl
    have p1 := BP.out.cell 1 (v := .slice va m vc) rfl
    have p2 := BP.out.cell 2 (v := .string (bs st)) rfl
    have p3 := BP.out.cell 3 (v := .bool false) rfl
    have p4 := BP.out.cell 4 (v := .string (bs fl)) rfl
    clear b hm hq
    go_wp2
    go_loopw [10, 11] (fun s10 s11 wr => ∃ (i : Nat), i ≤ m ∧ s10 = .int .i64 (i : Int) ∧ Hid (Only Nil w5 wr)) (fun s10 _ _ => m - (intOf s10).toNat)
    case atStart => exact ⟨0, Nat.zero_le _, rfl, Lib.hid (Only.refl _ _)⟩
    case round =>
      obtain ⟨i, hi, rfl, hO⟩ := hrel
      clear p0 p1 p2 p3 p4
      have p1 := (BP.out.keep hO.out).cell 1 (v := .slice va m vc) rfl
      by_cases him : i < m
      · obtain ⟨b, off, rfl, hlt, hc⟩ := XE.at_ (HXE.out.keep hO.out (nilS · _)) HM.out i him
        have hx := HQ.out _ (List.getElem_mem (show i < E.length from by rw [HM.out]; exact him))
        generalize E[i]'(by rw [HM.out]; exact him) = x at *
        have c0 : wr.cell? ⟨b, off + i * 7, none⟩ = some (.int .i64 x.act) := hc 0 (by decide)
        have c4 : wr.cell? ⟨b, off + i * 7 + 4, none⟩ = some (.int .i64 x.val) := hc 4 (by decide)
        obtain ⟨h3, h4, h11, h12, hv⟩ := hx
        have g3 : (x.act == 3) = false := by simpa using h3
        have g4 : (x.act == 4) = false := by simpa using h4
        have g11 : (x.act == 11) = false := by simpa using h11
        have g12 : (x.act == 12) = false := by simpa using h12
        have himi : (i : Int) < (m : Int) := by omega
        have h0i : (0 : Int) ≤ (i : Int) := Int.natCast_nonneg i
        have HI := Lib.hid him
        have hcase : ((x.act == 1) = true ∧ x.val = 2) ∨ ((x.act == 1) = false ∧ (x.act == 8) = true ∧ x.val = 2) ∨ ((x.act == 1) = false ∧ (x.act == 8) = false) := by
          by_cases e1 : x.act = 1
          · exact Or.inl ⟨by simpa using e1, hv (Or.inl e1)⟩
          by_cases e8 : x.act = 8
          · exact Or.inr (Or.inl ⟨by simpa using e1, by simpa using e8, hv (Or.inr e8)⟩)
          · exact Or.inr (Or.inr ⟨by simpa using e1, by simpa using e8⟩)
        clear hc h3 h4 h11 h12 hv him hi
        rcases hcase with ⟨g1, hv⟩ | ⟨g1, g8, hv⟩ | ⟨g1, g8⟩
        · rw [hv] at c4
          clear hv
          go_wp2
          go_roundw
          case rel => exact ⟨i + 1, HI.out, by go_num, hO⟩
          case measure => have := HI.out; simp [intOf]; omega
        · rw [hv] at c4
          clear hv
          go_wp2
          go_roundw
          case rel => exact ⟨i + 1, HI.out, by go_num, hO⟩
          case measure => have := HI.out; simp [intOf]; omega
        · go_wp2
          go_roundw
          case rel => exact ⟨i + 1, HI.out, by go_num, hO⟩
          case measure => have := HI.out; simp [intOf]; omega
      · obtain rfl : i = m := by omega
        have hk0 : ¬ (i : Int) < (i : Int) := by omega
        clear him
        go_wp2
        go_ret
        exact ⟨rfl, below_of (O5.out.trans hO.out)⟩
  · have BP := Lib.hid b
    have em : (bs []).toList.isEmpty = true := by rw [emp_bs]; rfl
    have p0 := BP.out.cell 0 (v := .bool false) rfl
    have p1 := BP.out.cell 1 (v := .slice va m vc) rfl
    have p2 := BP.out.cell 2 (v := .string (bs st)) rfl
    have p3 := BP.out.cell 3 (v := .bool true) rfl
    have p4 := BP.out.cell 4 (v := .string (bs [])) rfl
    clear b hm hq
    go_wp2
    go_loopw [10, 11] (fun s10 s11 wr => ∃ (i : Nat), i ≤ m ∧ s10 = .int .i64 (i : Int) ∧ Hid (Only Nil w5 wr)) (fun s10 _ _ => m - (intOf s10).toNat)
    case atStart => exact ⟨0, Nat.zero_le _, rfl, Lib.hid (Only.refl _ _)⟩
    case round =>
      obtain ⟨i, hi, rfl, hO⟩ := hrel
      clear p0 p1 p2 p3 p4
      have p1 := (BP.out.keep hO.out).cell 1 (v := .slice va m vc) rfl
      by_cases him : i < m
      · obtain ⟨b, off, rfl, hlt, hc⟩ := XE.at_ (HXE.out.keep hO.out (nilS · _)) HM.out i him
        have hx := HQ.out _ (List.getElem_mem (show i < E.length from by rw [HM.out]; exact him))
        generalize E[i]'(by rw [HM.out]; exact him) = x at *
        have c0 : wr.cell? ⟨b, off + i * 7, none⟩ = some (.int .i64 x.act) := hc 0 (by decide)
        have c4 : wr.cell? ⟨b, off + i * 7 + 4, none⟩ = some (.int .i64 x.val) := hc 4 (by decide)
        obtain ⟨h3, h4, h11, h12, hv⟩ := hx
        have g3 : (x.act == 3) = false := by simpa using h3
        have g4 : (x.act == 4) = false := by simpa using h4
        have g11 : (x.act == 11) = false := by simpa using h11
        have g12 : (x.act == 12) = false := by simpa using h12
        have himi : (i : Int) < (m : Int) := by omega
        have h0i : (0 : Int) ≤ (i : Int) := Int.natCast_nonneg i
        have HI := Lib.hid him
        have hcase : ((x.act == 1) = true ∧ x.val = 2) ∨ ((x.act == 1) = false ∧ (x.act == 8) = true ∧ x.val = 2) ∨ ((x.act == 1) = false ∧ (x.act == 8) = false) := by
          by_cases e1 : x.act = 1
          · exact Or.inl ⟨by simpa using e1, hv (Or.inl e1)⟩
          by_cases e8 : x.act = 8
          · exact Or.inr (Or.inl ⟨by simpa using e1, by simpa using e8, hv (Or.inr e8)⟩)
          · exact Or.inr (Or.inr ⟨by simpa using e1, by simpa using e8⟩)
        clear hc h3 h4 h11 h12 hv him hi
        rcases hcase with ⟨g1, hv⟩ | ⟨g1, g8, hv⟩ | ⟨g1, g8⟩
        · rw [hv] at c4
          clear hv
          go_wp2
          go_roundw
          case rel => exact ⟨i + 1, HI.out, by go_num, hO⟩
          case measure => have := HI.out; simp [intOf]; omega
        · rw [hv] at c4
          clear hv
          go_wp2
          go_roundw
          case rel => exact ⟨i + 1, HI.out, by go_num, hO⟩
          case measure => have := HI.out; simp [intOf]; omega
        · go_wp2
          go_roundw
          case rel => exact ⟨i + 1, HI.out, by go_num, hO⟩
          case measure => have := HI.out; simp [intOf]; omega
      · obtain rfl : i = m := by omega
        have hk0 : ¬ (i : Int) < (i : Int) := by omega
        clear him
        go_wp2
        go_ret
        exact ⟨rfl, below_of (O5.out.trans hO.out)⟩

theorem i64_in {n : Int} (h : (Lit.int .i64 n).wf = true) : inW n := inw_of h
set_option maxHeartbeats 8000000 in
set_option maxRecDepth 100000 in
theorem words_all {w : World} (r : Wd) (x y z : Int) {a : Option Addr} {c m : Nat} {L : List Int} (hr : RowK .i64 w a L) (hm : L.length = m) (hb : m ≤ 140737488355328) (e : Eff) (he : wfE e) (n : Int) (hn : inW n) :
    Calls Try.prog 5 #[.string (bs r), .agg #[.int .i64 x, .int .i64 y, .int .i64 z], .slice a m c, .agg #[.int .i64 e.act, .string (bs e.ref), .string (bs e.slot), .string (bs e.name), .int .i64 e.val, .int .i64 e.n, .int .i64 e.delay], .int .i64 n] w fun e w' => e = .returned (.bool true) ∧ Below w.heap.size w w' := by
  obtain ⟨W1, hW1⟩ : ∃ W, W = w.alloc (.cells #[.int .i64 x, .int .i64 y, .int .i64 z] 52) := ⟨_, rfl⟩
  have s1 : W1.heap.size = w.heap.size + 1 := by rw [hW1]; simp
  have o1 : Only Nil w W1 := hW1 ▸ (Only.refl Nil w).alloc _
  have b1 : Bx W1 (w.heap.size) [.int .i64 x, .int .i64 y, .int .i64 z] 52 := hW1 ▸ bx_new w _ _
  obtain ⟨W2, hW2⟩ : ∃ W, W = W1.alloc (.cells #[.int .i64 e.act, .string (bs e.ref), .string (bs e.slot), .string (bs e.name), .int .i64 e.val, .int .i64 e.n, .int .i64 e.delay] 50) := ⟨_, rfl⟩
  have s2 : W2.heap.size = w.heap.size + 1 + 1 := by rw [hW2]; simp [s1]
  have o2 : Only Nil W1 W2 := hW2 ▸ (Only.refl Nil W1).alloc _
  have b2 : Bx W2 (w.heap.size + 1) [.int .i64 e.act, .string (bs e.ref), .string (bs e.slot), .string (bs e.name), .int .i64 e.val, .int .i64 e.n, .int .i64 e.delay] 50 := by have h := bx_new W1 [.int .i64 e.act, .string (bs e.ref), .string (bs e.slot), .string (bs e.name), .int .i64 e.val, .int .i64 e.n, .int .i64 e.delay] 50; rw [s1] at h; rw [hW2]; exact h
  have X1 := Lib.hid (b1.keep o2)
  have X2 := Lib.hid b2
  have O := Lib.hid (o1.trans o2)
  have SZ := Lib.hid s2
  have HA := Lib.hid (alive_any W2)
  have HRK : Hid (∀ w', Only Nil w w' → RowK .i64 w' a L) := Lib.hid fun w' o i hi => by
    obtain ⟨b, off, h1, h2, h3⟩ := hr i hi
    exact ⟨b, off, h1, Nat.lt_of_lt_of_le h2 o.size, fun j hj => only_cell0 o (h3 j hj)⟩
  have HM := Lib.hid hm
  have HB := Lib.hid hb
  have HN := Lib.hid hn
  clear hr hm hb hn he
  go_enter Try.func5, Try.ntmps5
  go_upto_region 1 with (fail)
  (try simp only [World.size_alloc])
  rw [← hW1, ← hW2]
  clear hW1 s1 o1 b1 hW2 s2 o2 b2
  generalize hB2 : w.heap.size + 1 = B2 at *
  generalize hB1 : w.heap.size = B1 at *
  have HB1 := Lib.hid hB1
  have HB2 := Lib.hid hB2
  clear hB1 hB2
  go_wp2_with fail
  refine HA.out.mono ?_
  rintro e1 w1 ⟨rfl, o1⟩
  have O1 := Lib.hid (O.out.trans o1)
  have Y1 := Lib.hid (X1.out.keep o1)
  have Y2 := Lib.hid (X2.out.keep o1)
  clear o1 HA
  have hmx : max (slotI r) 0 = max (slotI r) 0 := rfl
  go_wp2_with fail
  refine (slot_any r w1).mono ?_
  rintro e2 w2 ⟨he2, rfl⟩
  have he2 := he2.out
  subst he2
  go_wp2_with fail
  refine (rslot_any r w1).mono ?_
  rintro e3 w3 ⟨he3, o3⟩
  have he3 := he3.out
  subst he3
  have HWa := Lib.hid (fun w' (o : Only Nil w3 w') => who_any r x y z (c := c) (HRK.out w' ((O1.out.trans o3).trans o)) HM.out HB.out)
  have HWb := Lib.hid (fun w' (o : Only Nil w3 w') => rwho_any r x y z (c := c) (HRK.out w' ((O1.out.trans o3).trans o)) HM.out HB.out)
  have HNa := Lib.hid (fun w' => number_any e n HN.out w')
  have HNb := Lib.hid (fun w' => rnumber_any e n HN.out w')
  simp only [effC] at HNa
  have Z1 := Lib.hid (Y1.out.keep o3)
  have Z2 := Lib.hid (Y2.out.keep o3)
  have CC := Lib.hid (show ∀ w', Only Nil w3 w' → (fun w' : World => w'.cell? ⟨B1, 0, none⟩ = some (.int .i64 x) ∧ w'.cell? ⟨B1, 1, none⟩ = some (.int .i64 y) ∧ w'.cell? ⟨B1, 2, none⟩ = some (.int .i64 z) ∧ w'.cell? ⟨B2, 0, none⟩ = some (.int .i64 e.act) ∧ w'.cell? ⟨B2, 1, none⟩ = some (.string (bs e.ref)) ∧ w'.cell? ⟨B2, 2, none⟩ = some (.string (bs e.slot)) ∧ w'.cell? ⟨B2, 3, none⟩ = some (.string (bs e.name)) ∧ w'.cell? ⟨B2, 4, none⟩ = some (.int .i64 e.val) ∧ w'.cell? ⟨B2, 5, none⟩ = some (.int .i64 e.n) ∧ w'.cell? ⟨B2, 6, none⟩ = some (.int .i64 e.delay)) w' from fun w' o => by
    have h1 := Z1.out.keep o
    have h2 := Z2.out.keep o
    exact ⟨h1.cell 0 rfl, h1.cell 1 rfl, h1.cell 2 rfl, h2.cell 0 rfl, h2.cell 1 rfl, h2.cell 2 rfl, h2.cell 3 rfl, h2.cell 4 rfl, h2.cell 5 rfl, h2.cell 6 rfl⟩)
  have O3 := Lib.hid (O1.out.trans o3)
  generalize whoI r x y z L = u1 at *
  generalize numOf e n = u2 at *
  have q1 : (u1 == u1) = true := by simp
  have q2 : (u2 == u2) = true := by simp
  have q3 : (max (slotI r) 0 == max (slotI r) 0) = true := by simp
  have q4 : (decide (0 ≤ slotI r) == decide (0 ≤ slotI r)) = true := by simp
  have q5 : (decide (slotI r ≥ 0)) = decide (0 ≤ slotI r) := rfl
  clear o3 Y1 Y2 X1 X2 Z1 Z2 HRK hmx
  generalize slotI r = sl at *
  have OO := Lib.hid (show Only Nil w3 w3.drew from (Only.refl Nil w3).drew)
  go_upto_region 5 with (fail)
  refine wp_region_held_drew (S := fun w' => w'.cell? ⟨B1, 0, none⟩ = some (.int .i64 x) ∧ w'.cell? ⟨B1, 1, none⟩ = some (.int .i64 y) ∧ w'.cell? ⟨B1, 2, none⟩ = some (.int .i64 z) ∧ w'.cell? ⟨B2, 0, none⟩ = some (.int .i64 e.act) ∧ w'.cell? ⟨B2, 1, none⟩ = some (.string (bs e.ref)) ∧ w'.cell? ⟨B2, 2, none⟩ = some (.string (bs e.slot)) ∧ w'.cell? ⟨B2, 3, none⟩ = some (.string (bs e.name)) ∧ w'.cell? ⟨B2, 4, none⟩ = some (.int .i64 e.val) ∧ w'.cell? ⟨B2, 5, none⟩ = some (.int .i64 e.n) ∧ w'.cell? ⟨B2, 6, none⟩ = some (.int .i64 e.delay)) (by kernel_rfl) (CC.out _ OO.out) (fun hHeld => ?_)
  refine take_dst (some 23) (i := 0) (v := ?vwd1) rfl (by kernel_rfl) (by kernel_rfl) (by kernel_rfl) (by kernel_rfl) (fun _ _ _ h => h) (Or.inl ⟨by kernel_rfl, ?hwd1⟩) (by assumption) ?rwd1
  case hwd1 => (intro w hSw; (try dsimp only at hSw); first | (go_simp; done) | (go_simp; with_reducible rfl))
  try simp only [Act.put, List.setIfInBounds_toArray, List.set_cons_zero, List.set_cons_succ]
  refine take_dst (some 24) (i := 1) (v := ?vwd2) rfl (by kernel_rfl) (by kernel_rfl) (by kernel_rfl) (by kernel_rfl) (fun _ _ _ h => h) (Or.inl ⟨by kernel_rfl, ?hwd2⟩) (by assumption) ?rwd2
  case hwd2 => (intro w hSw; (try dsimp only at hSw); first | (go_simp; done) | (go_simp; with_reducible rfl))
  try simp only [Act.put, List.setIfInBounds_toArray, List.set_cons_zero, List.set_cons_succ]
  refine take_dst (some 25) (i := 2) (v := ?vwd3) rfl (by kernel_rfl) (by kernel_rfl) (by kernel_rfl) (by kernel_rfl) (fun _ _ _ h => h) (Or.inl ⟨by kernel_rfl, ?hwd3⟩) (by assumption) ?rwd3
  case hwd3 => (intro w hSw; (try dsimp only at hSw); first | (go_simp; done) | (go_simp; with_reducible rfl))
  try simp only [Act.put, List.setIfInBounds_toArray, List.set_cons_zero, List.set_cons_succ]
  refine take_dst (some 26) (i := 3) (v := ?vwd4) rfl (by kernel_rfl) (by kernel_rfl) (by kernel_rfl) (by kernel_rfl) (fun _ _ _ h => h) (Or.inl ⟨by kernel_rfl, ?hwd4⟩) (by assumption) ?rwd4
  case hwd4 => (intro w hSw; (try dsimp only at hSw); first | (go_simp; done) | (go_simp; with_reducible rfl))
  try simp only [Act.put, List.setIfInBounds_toArray, List.set_cons_zero, List.set_cons_succ]
  refine take_dst (some 27) (i := 4) (v := ?vwd5) rfl (by kernel_rfl) (by kernel_rfl) (by kernel_rfl) (by kernel_rfl) (fun _ _ _ h => h) (Or.inl ⟨by kernel_rfl, ?hwd5⟩) (by assumption) ?rwd5
  case hwd5 => (intro w hSw; (try dsimp only at hSw); first | (go_simp; done) | (go_simp; with_reducible rfl))
  try simp only [Act.put, List.setIfInBounds_toArray, List.set_cons_zero, List.set_cons_succ]
  refine take_dst (some 28) (i := 5) (v := ?vwd6) rfl (by kernel_rfl) (by kernel_rfl) (by kernel_rfl) (by kernel_rfl) (fun _ _ _ h => h) (Or.inl ⟨by kernel_rfl, ?hwd6⟩) (by assumption) ?rwd6
  case hwd6 => (intro w hSw; (try dsimp only at hSw); first | (go_simp; done) | (go_simp; with_reducible rfl))
  try simp only [Act.put, List.setIfInBounds_toArray, List.set_cons_zero, List.set_cons_succ]
  refine take_dst (some 29) (i := 6) (v := ?vwd7) rfl (by kernel_rfl) (by kernel_rfl) (by kernel_rfl) (by kernel_rfl) (fun _ _ _ h => h) (Or.inl ⟨by kernel_rfl, ?hwd7⟩) (by assumption) ?rwd7
  case hwd7 => (intro w hSw; (try dsimp only at hSw); first | (go_simp; done) | (go_simp; with_reducible rfl))
  try simp only [Act.put, List.setIfInBounds_toArray, List.set_cons_zero, List.set_cons_succ]
  refine take_dst (some 30) (i := 7) (v := ?vwd8) rfl (by kernel_rfl) (by kernel_rfl) (by kernel_rfl) (by kernel_rfl) (fun _ _ _ h => h) (Or.inl ⟨by kernel_rfl, ?hwd8⟩) (by assumption) ?rwd8
  case hwd8 => (intro w hSw; (try dsimp only at hSw); first | (go_simp; done) | (go_simp; with_reducible rfl))
  try simp only [Act.put, List.setIfInBounds_toArray, List.set_cons_zero, List.set_cons_succ]
  refine take_dst (some 32) (i := 9) (v := ?vwd9) rfl (by kernel_rfl) (by kernel_rfl) (by kernel_rfl) (by kernel_rfl) (fun _ _ _ h => h) (Or.inl ⟨by kernel_rfl, ?hwd9⟩) (by assumption) ?rwd9
  case hwd9 => (intro w hSw; (try dsimp only at hSw); first | (go_simp; done) | (go_simp; with_reducible rfl))
  try simp only [Act.put, List.setIfInBounds_toArray, List.set_cons_zero, List.set_cons_succ]
  refine take_dst (some 33) (i := 10) (v := ?vwd10) rfl (by kernel_rfl) (by kernel_rfl) (by kernel_rfl) (by kernel_rfl) (fun _ _ _ h => h) (Or.inl ⟨by kernel_rfl, ?hwd10⟩) (by assumption) ?rwd10
  case hwd10 => (intro w hSw; (try dsimp only at hSw); first | (go_simp; done) | (go_simp; with_reducible rfl))
  try simp only [Act.put, List.setIfInBounds_toArray, List.set_cons_zero, List.set_cons_succ]
  refine take_dst (some 34) (i := 11) (v := ?vwd11) rfl (by kernel_rfl) (by kernel_rfl) (by kernel_rfl) (by kernel_rfl) (fun _ _ _ h => h) (Or.inl ⟨by kernel_rfl, ?hwd11⟩) (by assumption) ?rwd11
  case hwd11 => (intro w hSw; (try dsimp only at hSw); first | (go_simp; done) | (go_simp; with_reducible rfl))
  try simp only [Act.put, List.setIfInBounds_toArray, List.set_cons_zero, List.set_cons_succ]
  refine take_dst (some 35) (i := 12) (v := ?vwd12) rfl (by kernel_rfl) (by kernel_rfl) (by kernel_rfl) (by kernel_rfl) (fun _ _ _ h => h) (Or.inl ⟨by kernel_rfl, ?hwd12⟩) (by assumption) ?rwd12
  case hwd12 => (intro w hSw; (try dsimp only at hSw); first | (go_simp; done) | (go_simp; with_reducible rfl))
  try simp only [Act.put, List.setIfInBounds_toArray, List.set_cons_zero, List.set_cons_succ]
  refine take_dst (some 36) (i := 13) (v := ?vwd13) rfl (by kernel_rfl) (by kernel_rfl) (by kernel_rfl) (by kernel_rfl) (fun _ _ _ h => h) (Or.inl ⟨by kernel_rfl, ?hwd13⟩) (by assumption) ?rwd13
  case hwd13 => (intro w hSw; (try dsimp only at hSw); first | (go_simp; done) | (go_simp; with_reducible rfl))
  try simp only [Act.put, List.setIfInBounds_toArray, List.set_cons_zero, List.set_cons_succ]
  refine take_dst (some 37) (i := 14) (v := ?vwd14) rfl (by kernel_rfl) (by kernel_rfl) (by kernel_rfl) (by kernel_rfl) (fun _ _ _ h => h) (Or.inl ⟨by kernel_rfl, ?hwd14⟩) (by assumption) ?rwd14
  case hwd14 => (intro w hSw; (try dsimp only at hSw); first | (go_simp; done) | (go_simp; with_reducible rfl))
  try simp only [Act.put, List.setIfInBounds_toArray, List.set_cons_zero, List.set_cons_succ]
  refine take_dst (some 38) (i := 15) (v := ?vwd15) rfl (by kernel_rfl) (by kernel_rfl) (by kernel_rfl) (by kernel_rfl) (fun _ _ _ h => h) (Or.inl ⟨by kernel_rfl, ?hwd15⟩) (by assumption) ?rwd15
  case hwd15 => (intro w hSw; (try dsimp only at hSw); first | (go_simp; done) | (go_simp; with_reducible rfl))
  try simp only [Act.put, List.setIfInBounds_toArray, List.set_cons_zero, List.set_cons_succ]
  refine take_dst (some 39) (i := 16) (v := ?vwd16) rfl (by kernel_rfl) (by kernel_rfl) (by kernel_rfl) (by kernel_rfl) (fun _ _ _ h => h) (Or.inl ⟨by kernel_rfl, ?hwd16⟩) (by assumption) ?rwd16
  case hwd16 => (intro w hSw; (try dsimp only at hSw); first | (go_simp; done) | (go_simp; with_reducible rfl))
  try simp only [Act.put, List.setIfInBounds_toArray, List.set_cons_zero, List.set_cons_succ]
  refine wpAnyH_ready (rs := [8]) (by kernel_rfl) (by simp) ?_
  refine AllReadyH.cons rfl (fun Kwd17 hKwd17 => ?_) AllReadyH.nil
  (go_simp; go_at_call 22; refine (HWa.out _ OO.out).mono ?_; rintro r wn ⟨hr, on⟩; have hr := hr.out; subst hr; have OX := Lib.hid (OO.out.trans on); clear OO on; have OO := OX; clear OX; go_wp2_with fail)
  refine hKwd17.out _ _ ?swd17 (fun hHeldwd17 => ?_)
  case swd17 => exact CC.out _ OO.out
  clear hKwd17 Kwd17
  try simp only [Act.put, List.setIfInBounds_toArray, List.set_cons_zero, List.set_cons_succ]
  refine wpAnyH_ready (rs := [17]) (by kernel_rfl) (by simp) ?_
  refine AllReadyH.cons rfl (fun Kwd18 hKwd18 => ?_) AllReadyH.nil
  (go_simp; go_at_call 23; refine (HWb.out _ OO.out).mono ?_; rintro r wn ⟨hr, on⟩; have hr := hr.out; subst hr; have OX := Lib.hid (OO.out.trans on); clear OO on; have OO := OX; clear OX; go_wp2_with fail)
  refine hKwd18.out _ _ ?swd18 (fun hHeldwd18 => ?_)
  case swd18 => exact CC.out _ OO.out
  clear hKwd18 Kwd18
  try simp only [Act.put, List.setIfInBounds_toArray, List.set_cons_zero, List.set_cons_succ]
  refine take_dst (some 41) (i := 18) (v := ?vwd19) rfl (by kernel_rfl) (by kernel_rfl) (by kernel_rfl) (by kernel_rfl) (fun _ _ _ h => h) (Or.inl ⟨by kernel_rfl, ?hwd19⟩) (by assumption) ?rwd19
  case hwd19 => (intro w hSw; (try dsimp only at hSw); first | (go_simp; done) | (go_simp; with_reducible rfl))
  try simp only [Act.put, List.setIfInBounds_toArray, List.set_cons_zero, List.set_cons_succ]
  refine take_dst (some 42) (i := 19) (v := ?vwd20) rfl (by kernel_rfl) (by kernel_rfl) (by kernel_rfl) (by kernel_rfl) (fun _ _ _ h => h) (Or.inl ⟨by kernel_rfl, ?hwd20⟩) (by assumption) ?rwd20
  case hwd20 => (intro w hSw; (try dsimp only at hSw); first | (go_simp; done) | (go_simp; with_reducible rfl))
  try simp only [Act.put, List.setIfInBounds_toArray, List.set_cons_zero, List.set_cons_succ]
  refine take_dst (some 43) (i := 20) (v := ?vwd21) rfl (by kernel_rfl) (by kernel_rfl) (by kernel_rfl) (by kernel_rfl) (fun _ _ _ h => h) (Or.inl ⟨by kernel_rfl, ?hwd21⟩) (by assumption) ?rwd21
  case hwd21 => (intro w hSw; (try dsimp only at hSw); first | (go_simp; done) | (go_simp; with_reducible rfl))
  try simp only [Act.put, List.setIfInBounds_toArray, List.set_cons_zero, List.set_cons_succ]
  refine take_dst (some 44) (i := 21) (v := ?vwd22) rfl (by kernel_rfl) (by kernel_rfl) (by kernel_rfl) (by kernel_rfl) (fun _ _ _ h => h) (Or.inl ⟨by kernel_rfl, ?hwd22⟩) (by assumption) ?rwd22
  case hwd22 => (intro w hSw; (try dsimp only at hSw); first | (go_simp; done) | (go_simp; with_reducible rfl))
  try simp only [Act.put, List.setIfInBounds_toArray, List.set_cons_zero, List.set_cons_succ]
  refine take_dst (some 45) (i := 22) (v := ?vwd23) rfl (by kernel_rfl) (by kernel_rfl) (by kernel_rfl) (by kernel_rfl) (fun _ _ _ h => h) (Or.inl ⟨by kernel_rfl, ?hwd23⟩) (by assumption) ?rwd23
  case hwd23 => (intro w hSw; (try dsimp only at hSw); first | (go_simp; done) | (go_simp; with_reducible rfl))
  try simp only [Act.put, List.setIfInBounds_toArray, List.set_cons_zero, List.set_cons_succ]
  refine take_dst (some 46) (i := 23) (v := ?vwd24) rfl (by kernel_rfl) (by kernel_rfl) (by kernel_rfl) (by kernel_rfl) (fun _ _ _ h => h) (Or.inl ⟨by kernel_rfl, ?hwd24⟩) (by assumption) ?rwd24
  case hwd24 => (intro w hSw; (try dsimp only at hSw); first | (go_simp; done) | (go_simp; with_reducible rfl))
  try simp only [Act.put, List.setIfInBounds_toArray, List.set_cons_zero, List.set_cons_succ]
  refine take_dst (some 47) (i := 24) (v := ?vwd25) rfl (by kernel_rfl) (by kernel_rfl) (by kernel_rfl) (by kernel_rfl) (fun _ _ _ h => h) (Or.inl ⟨by kernel_rfl, ?hwd25⟩) (by assumption) ?rwd25
  case hwd25 => (intro w hSw; (try dsimp only at hSw); first | (go_simp; done) | (go_simp; with_reducible rfl))
  try simp only [Act.put, List.setIfInBounds_toArray, List.set_cons_zero, List.set_cons_succ]
  refine take_dst (some 48) (i := 25) (v := ?vwd26) rfl (by kernel_rfl) (by kernel_rfl) (by kernel_rfl) (by kernel_rfl) (fun _ _ _ h => h) (Or.inl ⟨by kernel_rfl, ?hwd26⟩) (by assumption) ?rwd26
  case hwd26 => (intro w hSw; (try dsimp only at hSw); first | (go_simp; done) | (go_simp; with_reducible rfl))
  try simp only [Act.put, List.setIfInBounds_toArray, List.set_cons_zero, List.set_cons_succ]
  refine take_dst (some 49) (i := 26) (v := ?vwd27) rfl (by kernel_rfl) (by kernel_rfl) (by kernel_rfl) (by kernel_rfl) (fun _ _ _ h => h) (Or.inl ⟨by kernel_rfl, ?hwd27⟩) (by assumption) ?rwd27
  case hwd27 => (intro w hSw; (try dsimp only at hSw); first | (go_simp; done) | (go_simp; with_reducible rfl))
  try simp only [Act.put, List.setIfInBounds_toArray, List.set_cons_zero, List.set_cons_succ]
  refine take_dst (some 50) (i := 27) (v := ?vwd28) rfl (by kernel_rfl) (by kernel_rfl) (by kernel_rfl) (by kernel_rfl) (fun _ _ _ h => h) (Or.inl ⟨by kernel_rfl, ?hwd28⟩) (by assumption) ?rwd28
  case hwd28 => (intro w hSw; (try dsimp only at hSw); first | (go_simp; done) | (go_simp; with_reducible rfl))
  try simp only [Act.put, List.setIfInBounds_toArray, List.set_cons_zero, List.set_cons_succ]
  refine take_dst (some 51) (i := 28) (v := ?vwd29) rfl (by kernel_rfl) (by kernel_rfl) (by kernel_rfl) (by kernel_rfl) (fun _ _ _ h => h) (Or.inl ⟨by kernel_rfl, ?hwd29⟩) (by assumption) ?rwd29
  case hwd29 => (intro w hSw; (try dsimp only at hSw); first | (go_simp; done) | (go_simp; with_reducible rfl))
  try simp only [Act.put, List.setIfInBounds_toArray, List.set_cons_zero, List.set_cons_succ]
  refine take_dst (some 52) (i := 29) (v := ?vwd30) rfl (by kernel_rfl) (by kernel_rfl) (by kernel_rfl) (by kernel_rfl) (fun _ _ _ h => h) (Or.inl ⟨by kernel_rfl, ?hwd30⟩) (by assumption) ?rwd30
  case hwd30 => (intro w hSw; (try dsimp only at hSw); first | (go_simp; done) | (go_simp; with_reducible rfl))
  try simp only [Act.put, List.setIfInBounds_toArray, List.set_cons_zero, List.set_cons_succ]
  refine take_dst (some 53) (i := 30) (v := ?vwd31) rfl (by kernel_rfl) (by kernel_rfl) (by kernel_rfl) (by kernel_rfl) (fun _ _ _ h => h) (Or.inl ⟨by kernel_rfl, ?hwd31⟩) (by assumption) ?rwd31
  case hwd31 => (intro w hSw; (try dsimp only at hSw); first | (go_simp; done) | (go_simp; with_reducible rfl))
  try simp only [Act.put, List.setIfInBounds_toArray, List.set_cons_zero, List.set_cons_succ]
  refine take_dst (some 54) (i := 31) (v := ?vwd32) rfl (by kernel_rfl) (by kernel_rfl) (by kernel_rfl) (by kernel_rfl) (fun _ _ _ h => h) (Or.inl ⟨by kernel_rfl, ?hwd32⟩) (by assumption) ?rwd32
  case hwd32 => (intro w hSw; (try dsimp only at hSw); first | (go_simp; done) | (go_simp; with_reducible rfl))
  try simp only [Act.put, List.setIfInBounds_toArray, List.set_cons_zero, List.set_cons_succ]
  refine take_dst (some 55) (i := 32) (v := ?vwd33) rfl (by kernel_rfl) (by kernel_rfl) (by kernel_rfl) (by kernel_rfl) (fun _ _ _ h => h) (Or.inl ⟨by kernel_rfl, ?hwd33⟩) (by assumption) ?rwd33
  case hwd33 => (intro w hSw; (try dsimp only at hSw); first | (go_simp; done) | (go_simp; with_reducible rfl))
  try simp only [Act.put, List.setIfInBounds_toArray, List.set_cons_zero, List.set_cons_succ]
  refine take_dst (some 56) (i := 33) (v := ?vwd34) rfl (by kernel_rfl) (by kernel_rfl) (by kernel_rfl) (by kernel_rfl) (fun _ _ _ h => h) (Or.inl ⟨by kernel_rfl, ?hwd34⟩) (by assumption) ?rwd34
  case hwd34 => (intro w hSw; (try dsimp only at hSw); first | (go_simp; done) | (go_simp; with_reducible rfl))
  try simp only [Act.put, List.setIfInBounds_toArray, List.set_cons_zero, List.set_cons_succ]
  refine take_dst (some 58) (i := 35) (v := ?vwd35) rfl (by kernel_rfl) (by kernel_rfl) (by kernel_rfl) (by kernel_rfl) (fun _ _ _ h => h) (Or.inl ⟨by kernel_rfl, ?hwd35⟩) (by assumption) ?rwd35
  case hwd35 => (intro w hSw; (try dsimp only at hSw); first | (go_simp; done) | (go_simp; with_reducible rfl))
  try simp only [Act.put, List.setIfInBounds_toArray, List.set_cons_zero, List.set_cons_succ]
  refine take_dst (some 59) (i := 36) (v := ?vwd36) rfl (by kernel_rfl) (by kernel_rfl) (by kernel_rfl) (by kernel_rfl) (fun _ _ _ h => h) (Or.inl ⟨by kernel_rfl, ?hwd36⟩) (by assumption) ?rwd36
  case hwd36 => (intro w hSw; (try dsimp only at hSw); first | (go_simp; done) | (go_simp; with_reducible rfl))
  try simp only [Act.put, List.setIfInBounds_toArray, List.set_cons_zero, List.set_cons_succ]
  refine wpAnyH_ready (rs := [34]) (by kernel_rfl) (by simp) ?_
  refine AllReadyH.cons rfl (fun Kwd37 hKwd37 => ?_) AllReadyH.nil
  (go_simp; go_at_call 24; refine (HNa.out _).mono ?_; rintro r wn ⟨hr, on⟩; have hr := hr; subst hr; have OX := Lib.hid (OO.out.trans on); clear OO on; have OO := OX; clear OX; go_wp2_with fail)
  refine hKwd37.out _ _ ?swd37 (fun hHeldwd37 => ?_)
  case swd37 => exact CC.out _ OO.out
  clear hKwd37 Kwd37
  try simp only [Act.put, List.setIfInBounds_toArray, List.set_cons_zero, List.set_cons_succ]
  refine wpAnyH_ready (rs := [37]) (by kernel_rfl) (by simp) ?_
  refine AllReadyH.cons rfl (fun Kwd38 hKwd38 => ?_) AllReadyH.nil
  (go_simp; go_at_call 25; refine (HNb.out _).mono ?_; rintro r wn ⟨hr, on⟩; have hr := hr; subst hr; have OX := Lib.hid (OO.out.trans on); clear OO on; have OO := OX; clear OX; go_wp2_with fail)
  refine hKwd38.out _ _ ?swd38 (fun hHeldwd38 => ?_)
  case swd38 => exact CC.out _ OO.out
  clear hKwd38 Kwd38
  try simp only [Act.put, List.setIfInBounds_toArray, List.set_cons_zero, List.set_cons_succ]
  refine take_dst (some 61) (i := 38) (v := ?vwd39) rfl (by kernel_rfl) (by kernel_rfl) (by kernel_rfl) (by kernel_rfl) (fun _ _ _ h => h) (Or.inl ⟨by kernel_rfl, ?hwd39⟩) (by assumption) ?rwd39
  case hwd39 => (intro w hSw; (try dsimp only at hSw); first | (go_simp; done) | (go_simp; with_reducible rfl))
  try simp only [Act.put, List.setIfInBounds_toArray, List.set_cons_zero, List.set_cons_succ]
  refine take_dst (some 62) (i := 39) (v := ?vwd40) rfl (by kernel_rfl) (by kernel_rfl) (by kernel_rfl) (by kernel_rfl) (fun _ _ _ h => h) (Or.inl ⟨by kernel_rfl, ?hwd40⟩) (by assumption) ?rwd40
  case hwd40 => (intro w hSw; (try dsimp only at hSw); first | (go_simp; done) | (go_simp; with_reducible rfl))
  try simp only [Act.put, List.setIfInBounds_toArray, List.set_cons_zero, List.set_cons_succ]
  refine take_dst (some 10) (i := 40) (v := ?vwd41) rfl (by kernel_rfl) (by kernel_rfl) (by kernel_rfl) (by kernel_rfl) (fun _ _ _ h => h) (Or.inl ⟨by kernel_rfl, ?hwd41⟩) (by assumption) ?rwd41
  case hwd41 => (intro w hSw; (try dsimp only at hSw); first | (go_simp; done) | (go_simp; with_reducible rfl))
  try simp only [Act.put, List.setIfInBounds_toArray, List.set_cons_zero, List.set_cons_succ]
  refine wpAnyH_done (by kernel_rfl) ?_ _
  go_wp2
  go_ret
  exact ⟨rfl, below_of (O3.out.trans OO.out)⟩
end Go.Proofs.Ytimnaiahokafaaa.Ac
