/- ledger: the ledger and the document's list, side by side; does. -/
import Derived.Test.YtlhdecjpjpnlhaaLgRh
namespace Go.Proofs.Ytlhdecjpjpnlhaa.Lg
open Go.RowKit Go.Proofs.Ytlhdecjpjpnlhaa

/-- World w holds, at hb, a ledger of L, and in v a row of L; both are newer than w0; nothing that there was in w0 has turned. -/
structure Lw (w0 w : World) (S : Nat → Prop) (hb : Nat) (v : Value) (L : List Ms) : Prop where
  at_ : At w S hb L
  row : Row w v L
  apart : ∀ g, v.ownBlock = some g → ¬ S g
  new : ∀ q, S q → w0.heap.size ≤ q
  only : Only Nil w0 w
theorem Lw.nil {w0 w w' : World} {S : Nat → Prop} {hb : Nat} {v : Value} {L : List Ms} (h : Lw w0 w S hb v L) (o : Only Nil w w') : Lw w0 w' S hb v L := ⟨h.at_.nil o, h.row.nil o, h.apart, h.new, h.only.trans o⟩

def pL (L : List Ms) (o : Op) : List Ms := if o.m 5 = 0 then acL L o.id o.ok o.wh else if o.m 5 = 1 then mvL L o.id o.wh else if o.m 5 = 2 then enL L o.id 7 else if o.m 5 = 3 then enL L o.id 8 else L
theorem pL_le (L : List Ms) (o : Op) : (pL L o).length ≤ L.length + 1 := by
  unfold pL
  split
  · exact acL_le _ _ _ _
  · split
    · rw [mvL_len]; omega
    · split
      · rw [enL_len]; omega
      · split
        · rw [enL_len]; omega
        · omega

/-- Both have done it. -/
theorem Lw.done {w0 w w1 w2 : World} {S : Nat → Prop} {hb : Nat} {v v' : Value} {L L' : List Ms} (h : Lw w0 w S hb v L) (r : Rs w w1 v v' L') (a : At w2 S hb L') (o : Only S w1 w2) : Lw w0 w2 S hb v' L' :=
  have ap : ∀ g, v'.ownBlock = some g → ¬ S g := fun g hg s => (r.fr g hg).elim (fun e => h.apart g e s) (fun e => by have := h.at_.lt g s; omega)
  ⟨a, own_keep r.row o (fun k hk => ap k hk.symm), ap, h.new, (h.only.trans r.only).then o (fun q hq hlt => by have := h.new q hq; omega)⟩

set_option maxRecDepth 100000 in
set_option maxHeartbeats 2000000 in
theorem does_any {w0 w : World} {S : Nat → Prop} {hb : Nat} {v : Value} {L : List Ms} (h : Lw w0 w S hb v L) (o : Op) (few : L.length ≤ 65000) :
    Calls Try.prog 9 #[.pointer (some ⟨hb, 0, none⟩), v, .agg #[.int .u8 o.k, .int .u64 o.id, .int .i64 o.wh]] w fun e w' => ∃ v', e = .returned (.tuple #[v', .bool true]) ∧ Hid (Lw w0 w' S hb v' (pL L o)) := by
  obtain ⟨W, hW⟩ : ∃ W, W = w.alloc (.cells #[.int .u8 o.k, .int .u64 o.id, .int .i64 o.wh] 31) := ⟨_, rfl⟩
  have oW : Only Nil w W := by rw [hW]; exact (Only.refl Nil w).alloc _
  have bW : W.heap[w.heap.size]? = some (.cells #[.int .u8 o.k, .int .u64 o.id, .int .i64 o.wh] 31 (0, 0)) := by rw [hW]; exact heap_new _ _
  have box := Lib.hid (fun (wx : World) (ox : Only Nil W wx) => show wx.cell? ⟨w.heap.size, 0, none⟩ = some (.int .u8 o.k) ∧ wx.cell? ⟨w.heap.size, 1, none⟩ = some (.int .u64 o.id) ∧ wx.cell? ⟨w.heap.size, 2, none⟩ = some (.int .i64 o.wh) from by
    have e := (ox.block _ (lt_of_block bW) (fun h => h)).trans bW
    exact ⟨by simp [World.cell?, e], by simp [World.cell?, e], by simp [World.cell?, e]⟩)
  have hL := h.nil oW
  have dAc := Lib.hid (raccept_any hL.row hL.at_.good o.id o.wh o.ok few)
  have dMv := Lib.hid (rmove_any hL.row o.id o.wh few)
  have d7 := Lib.hid (show Calls Try.prog 24 #[v, .int .u64 o.id, .int .i64 7] W _ from to_any hL.row o.id 7 few)
  have d8 := Lib.hid (show Calls Try.prog 24 #[v, .int .u64 o.id, .int .i64 8] W _ from to_any hL.row o.id 8 few)
  have pAc := Lib.hid (fun (w1 : World) (ox : Only Nil W w1) => accept_any (hL.at_.nil ox) o.id o.wh o.ok few)
  have pMv := Lib.hid (fun (w1 : World) (ox : Only Nil W w1) => move_any (hL.at_.nil ox) o.id o.wh o.ok few)
  have p7 := Lib.hid (fun (w1 : World) (ox : Only Nil W w1) => start_any (hL.at_.nil ox) o.id o.ok few)
  have p8 := Lib.hid (fun (w1 : World) (ox : Only Nil W w1) => kill_any (hL.at_.nil ox) o.id o.ok few)
  have hL' := Lib.hid hL
  obtain ⟨c0, c1, c2⟩ := box.out W (Only.refl Nil W)
  obtain ⟨K, hK⟩ := Int.eq_ofNat_of_zero_le o.k0.1
  have hm : o.m 5 = K % 5 := by unfold Op.m; rw [hK]; rfl
  have hK' := Lib.hid o.k0.2
  unfold pL
  rw [hm, hK]
  rw [hK] at hK' box hW c0
  have mk1 : Int.tmod (K : Int) 5 = ((K % 5 : Nat) : Int) := rfl
  have mk2 : (K : Int) % 5 = ((K % 5 : Nat) : Int) := rfl
  have hk5 := Nat.mod_lt K (show 0 < 5 by decide)
  clear h hL few hm hK oW bW
  generalize acE L o.id o.wh = e0 at *
  generalize acL L o.id o.ok o.wh = L0 at *
  generalize mvE L o.id o.wh = e1 at *
  generalize mvL L o.id o.wh = L1 at *
  generalize enE L o.id = e2 at *
  generalize enL L o.id 7 = L2 at *
  generalize enL L o.id 8 = L3 at *
  generalize o.id = x at *
  generalize o.wh = p at *
  generalize K % 5 = kk at mk1 mk2 hk5 ⊢
  go_enter Try.func9, Try.ntmps9
  go_upto_region 1 with (fail)
  rw [← hW]
  clear hW
  generalize w.heap.size = ob at *
  obtain rfl | rfl | rfl | rfl | rfl : kk = 0 ∨ kk = 1 ∨ kk = 2 ∨ kk = 3 ∨ kk = 4 := by omega
  · go_wp2_with (first
      | (go_at_call 22; go_loud ((with_reducible refine dAc.out.mono ?_); rintro e w1 ⟨v', rfl, hR⟩; obtain ⟨b0, b1, b2⟩ := box.out _ hR.out.only; have pc := Lib.hid (pAc.out _ hR.out.only)))
      | (go_at_call 18; go_loud ((with_reducible refine pc.out.mono ?_); rintro e w2 ⟨rfl, hA, hO⟩; have fin := Lib.hid (hL'.out.done hR.out hA hO); clear hA hO)))
    go_ret2
    exact ⟨v', by simp, fin⟩
  · go_wp2_with (first
      | (go_at_call 23; go_loud ((with_reducible refine dMv.out.mono ?_); rintro e w1 ⟨v', rfl, hR⟩; obtain ⟨b0, b1, b2⟩ := box.out _ hR.out.only; have pc := Lib.hid (pMv.out _ hR.out.only)))
      | (go_at_call 19; go_loud ((with_reducible refine pc.out.mono ?_); rintro e w2 ⟨rfl, hA, hO⟩; have fin := Lib.hid (hL'.out.done hR.out hA hO); clear hA hO)))
    go_ret2
    exact ⟨v', by simp, fin⟩
  · go_wp2_with (first
      | (go_at_call 24; go_loud ((with_reducible refine d7.out.mono ?_); rintro e w1 ⟨v', rfl, hR⟩; obtain ⟨b0, b1, b2⟩ := box.out _ hR.out.only; have pc := Lib.hid (p7.out _ hR.out.only)))
      | (go_at_call 20; go_loud ((with_reducible refine pc.out.mono ?_); rintro e w2 ⟨rfl, hA, hO⟩; have fin := Lib.hid (hL'.out.done hR.out hA hO); clear hA hO)))
    go_ret2
    exact ⟨v', by simp, fin⟩
  · go_wp2_with (first
      | (go_at_call 24; go_loud ((with_reducible refine d8.out.mono ?_); rintro e w1 ⟨v', rfl, hR⟩; obtain ⟨b0, b1, b2⟩ := box.out _ hR.out.only; have pc := Lib.hid (p8.out _ hR.out.only)))
      | (go_at_call 21; go_loud ((with_reducible refine pc.out.mono ?_); rintro e w2 ⟨rfl, hA, hO⟩; have fin := Lib.hid (hL'.out.done hR.out hA hO); clear hA hO)))
    go_ret2
    exact ⟨v', by simp, fin⟩
  · go_wp2
    go_ret2
    exact ⟨v, rfl, hL'⟩
end Go.Proofs.Ytlhdecjpjpnlhaa.Lg
