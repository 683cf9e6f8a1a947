/- ledger: Held. -/
import Derived.Test.YtlhdecjpjpnlhaaLgE
namespace Go.Proofs.Ytlhdecjpjpnlhaa.Lg
open Go.RowKit Go.Proofs.Ytlhdecjpjpnlhaa Go.Maps

theorem Try.infoPl : (Try.prog.info? 43).map (fun i => (i.zero, i.size, i.bytes)) = some (some (.agg #[.int .u64 0, .int .i64 0]), 2, 16) := by kernel_rfl

/-- Those of L that have come. -/
def come (left : Lit → Bool) (L : List Ms) : List Ms := (hl L).filter fun m => !left (.int .u64 m.id)
theorem come_start {D1 D2 : DataW Unit} {C : Nat → Int} {L : List Ms} (d : Dat D1 C D2 L) : come (Maps.has D2) L = [] := by
  unfold come
  rw [List.filter_eq_nil_iff]
  intro m hm e
  obtain ⟨h1, h2⟩ := hl_mem.1 hm
  rw [d.has2, whOf_mem d.good h1, h2] at e
  cases e
theorem come_end {left : Lit → Bool} (L : List Ms) (h : ∀ kl, left kl = false) : come left L = hl L := by
  unfold come
  rw [List.filter_eq_self]
  intro m _
  rw [h]
  rfl
theorem come_le (left : Lit → Bool) (L : List Ms) : (come left L).length ≤ (hl L).length := List.length_filter_le _ _
theorem come_step {D1 D2 : DataW Unit} {C : Nat → Int} {L : List Ms} (d : Dat D1 C D2 L) (left : Lit → Bool) (x c : Int) (hl0 : left (.int .u64 x) = true) (hat : ∀ zd, D2.atKey (.int .u64 x) zd = .lit (.int .i64 c)) :
    ∃ m : Ms, m.id = x ∧ m.wh = whOf L x ∧ (come (fun z => left z && !z.sameKey (.int .u64 x)) L).Perm (come left L ++ [m]) := by
  have hh := Maps.has_true_of_atKey hat
  rw [d.has2] at hh
  obtain ⟨m, hm, e1, e2⟩ := whOf_some (L := L) (x := x) (fun h => by rw [h] at hh; cases hh)
  have hmem : m ∈ hl L := hl_mem.2 ⟨hm, by rw [e2]; exact hh⟩
  refine ⟨m, e1, e2, more_perm (hl_apart d.good) hmem (fun m => !left (.int .u64 m.id)) _ (by show (!left (.int .u64 m.id)) = false; rw [e1, hl0]; rfl) (fun a _ => ?_)⟩
  rw [e1]
  by_cases e : a.id = x
  · rw [e]
    simp [Lit.sameKey]
  · simp [Lit.sameKey, e]

theorem nm_rising {D1 D2 : DataW Unit} {C : Nat → Int} {L : List Ms} (d : Dat D1 C D2 L) : (hl L).Pairwise fun a b => nm D2 a.id < nm D2 b.id := by
  refine (hl_rising d.good).imp_of_mem ?_
  intro a b ha hb h
  obtain ⟨a1, a2⟩ := hl_mem.1 ha
  obtain ⟨b1, b2⟩ := hl_mem.1 hb
  have ea : nm D2 a.id = (num L a.id : Nat) := by
    unfold nm
    rw [d.at2 a.id (by rw [whOf_mem d.good a1]; exact a2)]
  have eb : nm D2 b.id = (num L b.id : Nat) := by
    unfold nm
    rw [d.at2 b.id (by rw [whOf_mem d.good b1]; exact b2)]
  omega

theorem own_le {w : World} {base base' size n : Nat} {e : TypeId} {v : Value} {xs : List Value} (h : w.ownsRow base e size v n xs) (hb : base' ≤ base) : w.ownsRow base' e size v n xs :=
  ⟨h.1, h.2.elim Or.inl (fun ⟨g, cap, cur, hv, hg, r⟩ => Or.inr ⟨g, cap, cur, hv, Nat.le_trans hb hg, r⟩)⟩

set_option maxRecDepth 100000 in
set_option maxHeartbeats 4000000 in
theorem held_any {w : World} {S : Nat → Prop} {hb : Nat} {L : List Ms} (h : At w S hb L) (few : L.length ≤ 65000) :
    Calls Try.prog 15 #[.pointer (some ⟨hb, 0, none⟩)] w fun e w' =>
      e = .returned (.slice (some ⟨w.heap.size + 1, 0, none⟩) (hl L).length (hl L).length) ∧ PIn w' (w.heap.size + 1) (hl L) ∧ Only Nil w w' := by
  obtain ⟨m1, m2, D1, C, D2, a, d⟩ := h
  obtain ⟨wb, hwb⟩ : ∃ wb, wb = w.alloc (.cells #[.pointer (some ⟨hb, 0, none⟩)] 24) := ⟨_, rfl⟩
  have ob : Only Nil w wb := by rw [hwb]; exact (Only.refl Nil w).alloc _
  have hbx : wb.heap[w.heap.size]? = some (.cells #[.pointer (some ⟨hb, 0, none⟩)] 24 (0, 0)) := by rw [hwb]; exact heap_new _ _
  have hsz : wb.heap.size = w.heap.size + 1 := by rw [hwb]; simp
  have ab := a.nil ob
  have fewH : (hl L).length ≤ 65000 := Nat.le_trans (cq_le _ _) few
  have factsAt := Lib.hid (fun (wx : World) (o : Only Nil wb wx) => show wx.cell? ⟨w.heap.size, 0, none⟩ = some (.pointer (some ⟨hb, 0, none⟩)) ∧ wx.cell? ⟨hb, 10, none⟩ = some (.map (some m2)) ∧ wx.cell? ⟨hb, 0, none⟩ = some (.map (some m1)) from by
    have e := (o.block _ (lt_of_block hbx) (fun h => h)).trans hbx
    exact ⟨by simp [World.cell?, e], (ab.nil o).c10, (ab.nil o).c0⟩)
  have lookAt := Lib.hid (fun (wx : World) (o : Only Nil wb wx) (x : Int) (hx : (Lit.int .u64 x).wf = true) => (ab.nil o).look hx (d.at1 x))
  have mapAt := Lib.hid (fun (wx : World) (o : Only Nil wb wx) => (ab.nil o).map2)
  have sortAt := Lib.hid (fun (ws : World) (T : Nat) (P : List Ms) (o : Only Nil wb ws) (hT : wb.heap.size ≤ T) (ho : ws.ownsRow 0 43 2 (.slice (some ⟨T, 0, none⟩) P.length (hl L).length) P.length (pls P)) (hp : P.Perm (hl L)) =>
    sort_any (ab.nil o) ((o.block _ (lt_of_block hbx) (fun h => h)).trans hbx) (T := T) (cap := (hl L).length) (fun s => by have := ab.lt _ s; omega) rfl (by rw [hp.length_eq]; exact fewH) ho hp (nm_rising d))
  have stepAt := Lib.hid (come_step d)
  have startAt := Lib.hid (come_start d)
  have endAt := Lib.hid (fun left => come_end (left := left) L)
  have leAt := Lib.hid (fun left => come_le left L)
  have size2 := Lib.hid d.size2
  generalize hl L = H at *
  have hf := factsAt.out wb (Only.refl Nil wb)
  obtain ⟨cb, c10, c0⟩ := hf
  have hmb := Lib.hid (mapAt.out wb (Only.refl Nil wb))
  obtain ⟨i0, hi0, hz0, hz1, hz2⟩ := info_parts Try.infoPl
  have hu := Try.underlying26
  have hHl := Lib.hid fewH
  clear a d ab fewH few hbx
  generalize hB : w.heap.size = B at *
  have hTb : B < wb.heap.size := by omega
  have hsz' := Lib.hid hsz
  clear hsz
  go_enter Try.func15, Try.ntmps15
  go_upto_region 1 with (fail)
  rw [← hwb]
  clear hwb
  go_wp2_with (first
    | (at_len; refine wpList_len_own _ rfl _ 48 rfl 29 3 Try.underlying48 _ m2 L.length D2 rfl hmb.out ?_; rw [size2.out])
    | (at_make; refine wpList_make_own _ rfl _ _ 26 rfl wb.heap.size 43 i0 (.agg #[.int .u64 0, .int .i64 0]) 2 hu hi0 hz0 hz1 .i64 .i64 _ H.length rfl rfl (by rfl) (by rw [hz2]; have := hHl.out; omega) (by have := hHl.out; unfold maxLen; omega) (Nat.le_refl _) ?_; intro w4 hown4 hg4; have h4 := Lib.hid hown4; have q4 := Lib.hid ((Only.ofGrown hg4).mono (T := Nil) (fun k hk => by simp at hk)); obtain ⟨f1, f2, f3⟩ := factsAt.out _ q4.out; have m4 := Lib.hid (mapAt.out _ q4.out); clear hown4 hg4)
    | (at_range; refine wpList_range_own _ rfl _ 48 rfl 29 3 Try.law Try.underlying48 _ m2 L.length D2 rfl m4.out ?_; intro w0 hrg0 hg0 hs0))
  go_frame
  have q0 := Lib.hid (show Only Nil wb w0 from q4.out.trans ((Only.ofGrown hg0).mono (fun q hq => by simp at hq)))
  have hT4 := (h4.out.lt wb.heap.size rfl).2
  have own0 := Lib.hid (own_keep h4.out ((Only.ofGrown hg0).mono (T := Nil) (fun q hq => by simp at hq)) (fun _ _ h => h))
  generalize hR : w4.heap.size = R at *
  have hTR : Hid (wb.heap.size < R) := Lib.hid hT4
  clear hg0 hs0 f1 f2 f3 cb c10 c0 hT4 q4 h4 m4 hR
  go_loopw [3, 4] (fun s3 _ wr => ∃ (P : List Ms) (left : Lit → Bool) (cnt : Nat), s3 = .slice (some ⟨wb.heap.size, 0, none⟩) P.length H.length ∧ Hid (P.Perm (come left L)) ∧ wr.ranges Try.prog 29 (plainElem Try.prog 3) m2 R L.length D2 left cnt ∧
      Hid (wr.ownsRow wb.heap.size 43 2 (.slice (some ⟨wb.heap.size, 0, none⟩) P.length H.length) P.length (pls P)) ∧ Hid (Only Nil wb wr))
    (fun _ _ wr => wr.rangeLeft m2 R)
  case atStart => exact ⟨[], _, _, rfl, Lib.hid (by rw [startAt.out]), hrg0, own0, q0⟩
  case round =>
    obtain ⟨P, left, cn, rfl, hP, hrg, how, ho⟩ := hrel
    obtain ⟨f1, f2, f3⟩ := factsAt.out _ ho.out
    go_wp2_with (first
      | (at_next; refine wpList_next_ranges_ii _ rfl _ rfl 29 3 .u64 .i64 Try.law Try.underlying29 Try.underlying3 m2 R L.length _ _ _ rfl hrg ?_ ?_)
      | go_in)
    · intro _ hl0
      have hP' := Lib.hid (show P.Perm H by have := hP.out; rw [endAt.out left hl0] at this; exact this)
      have st := Lib.hid (sortAt.out wr wb.heap.size P ho.out (Nat.le_refl _) (own_le how.out (Nat.zero_le _)) hP'.out)
      clear hl0 hrg
      go_wp2_with (go_at_call 26; refine (st.out).mono ?_; rintro e w6 ⟨rfl, ht6, o6⟩; have k6 := Lib.hid ht6; have o6' := Lib.hid o6; clear ht6 o6)
      go_ret
      refine ⟨?_, ?_, ?_⟩
      · rw [hP'.out.length_eq, hsz'.out]
        rfl
      · rw [← hsz'.out]; exact k6.out
      · exact (ob.trans ho.out).then (o6'.out) (fun q hq hlt => by have := hsz'.out; have := ob.size; omega)
    · intro x c w1 cnt1 hwx hwc hlx hat hrg1 hlt hg1 hs1 hen
      obtain ⟨m, e1, e2, hp⟩ := stepAt.out left x c hlx hat
      have ho1 := Lib.hid (show Only Nil wb w1 from ho.out.then (Only.ofGrown hg1) (fun q hq hlt => by have := hTR.out; injection hq with hq; omega))
      have how1 := Lib.hid (own_keep how.out (Only.ofGrown hg1) (fun q hq e => by have := hTR.out; simp [Value.ownBlock] at hq; injection e with e; omega))
      obtain ⟨k1, k2, k3⟩ := factsAt.out _ ho1.out
      have lk := lookAt.out _ ho1.out x hwx
      rw [← e2] at lk
      have hp1 := Lib.hid (show (P ++ [m]).Perm (come (fun z => left z && !z.sameKey (.int .u64 x)) L) from (hP.out.append_right [m]).trans hp.symm)
      have hroom := Lib.hid (show P.length + 1 ≤ H.length by
        have h1 := hp1.out.length_eq
        have h2 := leAt.out (fun z => left z && !z.sameKey (.int .u64 x))
        rw [List.length_append, List.length_singleton] at h1
        omega)
      have hm : Hid (pls (P ++ [m]) = pls P ++ [.int .u64 x, .int .i64 m.wh]) := Lib.hid (by rw [pls_append, pls_one, ← e1]; rfl)
      have hlt' := Lib.hid hlt
      have he := Lib.hid (And.intro hrg1.left_eq hrg.left_eq)
      have hrg1' := Lib.hid hrg1
      have hlo : Hid (wb.heap.size < w1.heap.size ∧ R < w1.heap.size) := Lib.hid ⟨by have := how1.out.lt wb.heap.size rfl; omega, hrg1.lt⟩
      clear hat hlx hp hwx hwc hrg hrg1 hlt e1 e2 hg1 hs1 f1 f2 f3
      go_wp2_with (at_builtin; refine wpList_append_fits _ rfl (.tmp 20) (.tmp 29) 26 rfl wb.heap.size 43 i0 2 hu hi0 hz1 wb.heap.size P.length H.length (pls P) rfl (own_keep how1.out ((Only.refl Nil w1).alloc _) (fun _ _ h => h)) ⟨w1.heap.size, 0, none⟩ 1 1 [.int .u64 x, .int .i64 m.wh] rfl rfl (fun j u hj => by
        rw [add_lit0, Nat.zero_add, cell_of_row _ _ _ _ _ _ (heap_new _ _)]; simpa using hj) (by intro u hu; simp at hu; rcases hu with rfl | rfl <;> rfl) hroom.out ?_; intro w5 hown5 hg5; have k5 := Lib.hid (And.intro hown5 hg5); clear hown5 hg5)
      have rg5 := (hrg1'.out.alloc (.cells #[.int .u64 x, .int .i64 m.wh] 43)).kept k5.out.2 (by have := hmb.out.lt; simp; omega) (by have := hTR.out; simp; omega)
      go_roundw
      case rel =>
        refine ⟨P ++ [m], _, cnt1, by rw [List.length_append]; rfl, hp1, rg5, Lib.hid ?_, Lib.hid ?_⟩
        · rw [hm.out, List.length_append]
          exact k5.out.1
        · exact (ho1.out.alloc (.cells #[.int .u64 x, .int .i64 m.wh] 43)).then (Only.ofGrown k5.out.2) (fun q hq hlt => by injection hq with hq; omega)
      case measure => rw [rg5.left_eq, he.out.2]; exact hlt'.out
end Go.Proofs.Ytlhdecjpjpnlhaa.Lg
