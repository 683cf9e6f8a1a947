/- mercy: MercyCases' walk. -/
import Derived.Test.YteafdhpnkgebnaaMeI
set_option linter.unusedSimpArgs false
set_option linter.unusedVariables false
namespace Go.Proofs.Yteafdhpnkgebnaa.Me
open Go.RowKit Go.Proofs.Yteafdhpnkgebnaa

theorem below_of {w w' : World} (o : Only Nil w w') : Below w.heap.size w w' := o.below (Nat.le_refl _) (fun _ h => h.elim)
set_option maxRecDepth 100000 in
set_option maxHeartbeats 4000000 in
theorem cases_all {W : World} {v : Value} {L : List Cs} (hx : XC W.heap.size W v L) (hb : L.length * 24 ≤ 140737488355328) (r : Wd) :
    Calls Try.prog 4 #[v, .string (bs r)] W fun e w' => e = .returned (.bool true) ∧ Below W.heap.size W w' := by
  obtain ⟨a, c, rfl, hin⟩ := cain_of hx
  have HX := Lib.hid hin
  have HA := Lib.hid (alive_any W)
  have hb' : L.length ≤ 140737488355328 := by omega
  have HB := Lib.hid hb'
  clear hx hin hb hb'
  obtain ⟨n, hn⟩ : ∃ n, n = L.length := ⟨_, rfl⟩
  rw [← hn]
  have HN := Lib.hid hn
  clear hn
  go_enter Try.func4, Try.ntmps4
  go_wp2_with fail
  refine HA.out.mono ?_
  rintro e w1 ⟨rfl, o1⟩
  obtain ⟨w2, hw2⟩ : ∃ w2, w2 = w1.alloc (.cells #[.string ⟨#[]⟩, .int .i64 0, .int .i64 0, .slice a n c, .slice none 0 0] 41) := ⟨_, rfl⟩
  have o2 : Only Nil w1 w2 := hw2 ▸ (Only.refl Nil w1).alloc _
  have b : w2.heap[w1.heap.size]? = some (.cells #[.string ⟨#[]⟩, .int .i64 0, .int .i64 0, .slice a n c, .slice none 0 0] 41 (0, 0)) := hw2 ▸ heap_new _ _
  have O2 := Lib.hid (o1.trans o2)
  have hd : ∀ w', Only Nil w2 w' → (w'.cell? ⟨w1.heap.size, 0, none⟩ = some (.string ⟨#[]⟩) ∧ w'.cell? ⟨w1.heap.size, 1, none⟩ = some (.int .i64 0) ∧ w'.cell? ⟨w1.heap.size, 2, none⟩ = some (.int .i64 0) ∧ w'.cell? ⟨w1.heap.size, 3, none⟩ = some (.slice a n c) ∧ w'.cell? ⟨w1.heap.size, 4, none⟩ = some (.slice none 0 0)) := fun w' o => by
    have := (o.block _ (lt_of_block b) (fun h => h)).trans b
    simp [World.cell?, this]
  have hd' := Lib.hid hd
  obtain ⟨s0, s1, s2, s3, s4⟩ := hd w2 (Only.refl Nil w2)
  have HD := Lib.hid (fun (r : Wd) w' (o : Only Nil w2 w') => dir_any (c := c) ((HX.out.nil (o1.trans o2)).nil o) HN.out.symm (by rw [HN.out]; exact HB.out) r (.string ⟨#[]⟩) (.int .i64 0) (.int .i64 0) (.slice none 0 0))
  have RD := Lib.hid (fun (r : Wd) w' (o : Only Nil w2 w') => rdir_any (c := c) ((HX.out.nil (o1.trans o2)).nil o) HN.out.symm (by rw [HN.out]; exact HB.out) r (.string ⟨#[]⟩) (.int .i64 0) (.int .i64 0) (.slice none 0 0))
  clear hd b o1 o2 HA
  go_upto_region 4 with (fail)
  rw [← hw2]; clear hw2
  generalize w1.heap.size = B at *
  have h9 : (dirOf L r == dirOf L r) = true := by simp
  have h8 : (dirOf L [] == dirOf L []) = true := by simp
  generalize hd1 : dirOf L r = d1 at h9
  generalize hd2 : dirOf L [] = d2 at h8
  have H1 := Lib.hid hd1
  have H2 := Lib.hid hd2
  clear hd1 hd2
  go_region_held3 (fun w' => w'.cell? ⟨B, 0, none⟩ = some (.string ⟨#[]⟩) ∧ w'.cell? ⟨B, 1, none⟩ = some (.int .i64 0) ∧ w'.cell? ⟨B, 2, none⟩ = some (.int .i64 0) ∧ w'.cell? ⟨B, 3, none⟩ = some (.slice a n c) ∧ w'.cell? ⟨B, 4, none⟩ = some (.slice none 0 0))
    (first | exact ⟨s0, s1, s2, s3, s4⟩ | exact ks | exact kt | exact ku | exact kv | go_keep)
    (first
      | (go_at_call 16; go_loud ((with_reducible refine (HD.out r _ (Only.refl Nil w2).drew).mono ?_); rintro e w7 ⟨rfl, o7_⟩; have o7 := (Only.refl Nil w2).drew.trans o7_; have ks := hd'.out _ o7))
      | (go_at_call 17; go_loud ((with_reducible refine (RD.out r _ o7).mono ?_); rintro e w8 ⟨rfl, o8_⟩; have o8 := o7.trans o8_; have kt := hd'.out _ o8))
      | (go_at_call 16; go_loud (refine (show Calls Try.prog _ #[_, .string ⟨#[]⟩] _ _ from HD.out [] _ o8).mono ?_; rintro e w9 ⟨rfl, o9_⟩; have o9 := o8.trans o9_; have ku := hd'.out _ o9))
      | (go_at_call 17; go_loud (refine (show Calls Try.prog _ #[_, .string ⟨#[]⟩] _ _ from RD.out [] _ o9).mono ?_; rintro e w10 ⟨rfl, o10_⟩; have o10 := o9.trans o10_; have kv := hd'.out _ o10)))
  all_goals (
    go_wp2
    go_ret
    exact ⟨rfl, below_of (O2.out.trans (by first | exact o10 | exact o10.drew | exact o10.drewN _))⟩)
theorem at_s1 {P : Program} {f : FuncId} {w : World} {Q : Ending → World → Prop} {v : Value} (s : ByteArray) (h : Calls P f #[v, .string (bs s.data.toList)] w Q) : Calls P f #[v, .string s] w Q := by
  rw [bs_of] at h; exact h
end Go.Proofs.Yteafdhpnkgebnaa.Me
