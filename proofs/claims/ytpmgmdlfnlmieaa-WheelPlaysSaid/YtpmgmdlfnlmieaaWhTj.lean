/- wheel: Ids: the ids of all timers, in the order of their numbers. -/
import Derived.Test.YtpmgmdlfnlmieaaWhTi
namespace Go.Proofs.Ytpmgmdlfnlmieaa.Wh
open Go.RowKit Go.Proofs.Ytpmgmdlfnlmieaa

theorem own_le {w : World} {base base' size n : Nat} {e : TypeId} {v : Value} {xs : List Value} (h : w.ownsRow base e size v n xs) (hb : base' ≤ base) : w.ownsRow base' e size v n xs :=
  ⟨h.1, h.2.elim Or.inl (fun ⟨g, cap, cur, hv, hg, r⟩ => Or.inr ⟨g, cap, cur, hv, Nat.le_trans hb hg, r⟩)⟩

theorem ids_visit {w : World} {S : Nat → Prop} {hb now added : Nat} {V : Nat → Value} {F : Nat → List Tm} (h : At w S hb now added V F) (hs : (all F).length ≤ 64) {T b : Nat} (hT : ¬ S T) (hbS : ¬ S b) (h0 : w.heap[b]? = some (.cells #[.slice (some ⟨T, 0, none⟩) 0 64] 58 (0, 0))) (ho : w.ownsRow 0 67 3 (.slice (some ⟨T, 0, none⟩) 0 64) 0 []) :
    Calls Try.prog 32 #[.pointer (some ⟨hb, 0, none⟩), .func (.func 35) #[] #[.pointer (some ⟨b, 0, none⟩)]] w fun e w' =>
      e = .returned (.tuple #[]) ∧ Only (fun q => q = T ∨ q = b) w w' ∧ w'.heap[b]? = some (.cells #[.slice (some ⟨T, 0, none⟩) (all F).length 64] 58 (0, 0)) ∧ w'.ownsRow 0 67 3 (.slice (some ⟨T, 0, none⟩) (all F).length 64) (all F).length (tms (all F)) := by
  have eg : ∀ args w, (callFunc 35 args).run Try.prog w = .ok (.enter 35 args) w := enters_of Try.func35 (by kernel_rfl) rfl
  have hv := visit_any (S := S) (hb := hb) (now := now) (added := added) (V := V) (F := F) 35 #[.pointer (some ⟨b, 0, none⟩)] eg
    (fun n i wx => Only (fun q => q = T ∨ q = b) w wx ∧ wx.heap[b]? = some (.cells #[.slice (some ⟨T, 0, none⟩) (pre F n i).length 64] 58 (0, 0)) ∧ wx.ownsRow 0 67 3 (.slice (some ⟨T, 0, none⟩) (pre F n i).length 64) (pre F n i).length (tms (pre F n i))) (fun _ => False)
    (fun n i wx hi => h.keep hi.1 (fun k hk hq => by rcases hq with rfl | rfl <;> contradiction)) (fun n hn => by have := slot_le F n hn; omega) (fun n wx _ hi => by rw [pre_next] at hi; exact hi)
    (fun n i wx wy hi o => ⟨hi.1.trans (o.nilTo _), (o.block _ (lt_of_block hi.2.1) (fun h => h.elim)).trans hi.2.1, own_keep hi.2.2 o (fun _ _ h => h)⟩)
    (fun k j i wx hk hj hi hI => by
      have hp := pre_le F (8 * k + j) (i + 1) (by omega)
      have e := pre_step F (8 * k + j) i hi
      rw [e] at hp
      refine (ids1_any (P := pre F (8 * k + j) i) (by simp at hp; omega) hI.2.1 hI.2.2 k j i _).mono ?_
      rintro e' w' ⟨rfl, hb', ho', o⟩
      refine .inl ⟨rfl, hI.1.trans o, ?_⟩
      rw [e]
      simpa using ⟨hb', ho'⟩)
  refine (hv w ⟨Only.refl _ _, by simpa [pre] using h0, by simpa [pre, tms] using ho⟩).mono ?_
  rintro e w' ⟨rfl, hw'⟩
  have hw := hw'.resolve_right (fun h => h)
  rw [pre_all] at hw
  exact ⟨rfl, hw⟩

set_option maxHeartbeats 1000000 in
theorem wids_any {w : World} {S : Nat → Prop} {hb now added : Nat} {L : List Tm} (h : Wl w S hb now added L) (g : Good now added L) :
    Calls Try.prog 22 #[.pointer (some ⟨hb, 0, none⟩)] w fun e w' => ∃ v, e = .returned v ∧ Hid (w'.ownsRow w.heap.size 30 1 v L.length (ids L)) ∧ Only Nil w w' := by
  obtain ⟨V, hA⟩ := h
  have few := all_few g
  have perm := all_perm now L
  have lenL := perm.length_eq
  have hfew := g.few
  have hord := g.order
  have hvis := fun (w4 : World) (T b : Nat) (o : Only Nil w w4) (hT : w.heap.size ≤ T) (hb' : w.heap.size ≤ b) => ids_visit (hA.nil o) few (T := T) (b := b) (fun s => by have := hA.lt _ s; omega) (fun s => by have := hA.lt _ s; omega)
  have hsort := fun (w5 : World) (T : Nat) (ho : w5.ownsRow 0 67 3 (.slice (some ⟨T, 0, none⟩) (all (slots now L)).length 64) (all (slots now L)).length (tms (all (slots now L)))) => sort_any (w := w5) (T := T) (cap := 64) (P := all (slots now L)) rfl (by omega) ho perm hord
  have hids := fun (w6 : World) (T c : Nat) (ht : TIn w6 (some ⟨T, 0, none⟩) L) => idsOf_any (c := c) ht (by omega)
  have hvis' := Lib.hid hvis
  have hsort' := Lib.hid hsort
  have hids' := Lib.hid hids
  clear hvis hsort hids few perm hord g hA
  generalize all (slots now L) = A at *
  generalize hm : A.length = m at *
  rw [← lenL] at hids' hfew ⊢
  clear lenL
  obtain ⟨i0, hi0, hz0, hz1, hz2⟩ := info_parts Try.infoTm
  have hu := Try.underlying58
  go_enter Try.func22, Try.ntmps22
  go_wp2_with first
    | (at_make; refine wpList_make_own _ rfl _ _ 58 rfl w.heap.size 67 i0 (.agg #[.int .u64 0, .int .i64 0, .int .i64 0]) 3 hu hi0 hz0 hz1 .i64 .i64 _ 64 rfl rfl (by rfl) (by rw [hz2]; decide) (by unfold maxLen; decide) (Nat.le_refl _) ?_; intro w4 hown4 hg4; have h4 := Lib.hid hown4; have q4 := Lib.hid ((Only.ofGrown hg4).mono (T := Nil) (fun k hk => by simp at hk)); clear hown4 hg4)
    | (go_at_call 32; refine (hvis'.out _ w.heap.size w4.heap.size (q4.out.alloc _) (Nat.le_refl _) q4.out.size (heap_new _ _) (own_keep (own_le h4.out (Nat.zero_le _)) ((Only.refl Nil w4).alloc _) (fun _ _ h => h))).mono ?_; rintro e w5 ⟨rfl, o5, b5, own5⟩; have c5 := cell_of_heap b5; have o5' := Lib.hid o5; have b5' := Lib.hid b5; have own5' := Lib.hid own5; clear o5 b5 own5)
    | (go_at_call 36; refine (hsort'.out _ _ own5'.out).mono ?_; rintro e w6 ⟨rfl, ht6, o6⟩; have b6 := (o6.block _ (lt_of_block b5'.out) (fun e => by have := (h4.out.lt w.heap.size rfl).2; omega)).trans b5'.out; have c6 := cell_of_heap b6; have ht6' := Lib.hid ht6; have o6' := Lib.hid o6; clear ht6 o6 b6)
    | (go_at_call 31; refine (hids'.out _ _ _ ht6'.out).mono ?_; rintro e w7 ⟨v, rfl, hv, o7⟩; have o7' := Lib.hid o7; clear o7)
  go_ret
  have l4 := h4.out.lt w.heap.size rfl
  have o47 := (((q4.out.nilTo (fun q => w.heap.size ≤ q)).alloc _).trans (o5'.out.mono (fun q hq => by rcases hq with rfl | rfl <;> omega))).trans (o6'.out.mono (fun q hq => by omega))
  refine ⟨v, rfl, Lib.hid (own_le hv.out o47.size), (o47.trans (o7'.out.nilTo _)).fresh (fun k hk => hk)⟩
end Go.Proofs.Ytpmgmdlfnlmieaa.Wh
