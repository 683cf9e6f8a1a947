/- parse: ParseSame's walk. -/
import Derived.Test.YtdhokkmflccaaaaGreatDoorPsSm
import Derived.Test.YtdhokkmflccaaaaGreatDoorPsRe
set_option linter.unusedVariables false
namespace Go.Proofs.YtdhokkmflccaaaaGreatDoor.Ps
open Go.RowKit Go.Proofs.YtdhokkmflccaaaaGreatDoor Lx

set_option maxRecDepth 100000 in
set_option maxHeartbeats 8000000 in
theorem same_all (P Q : List Kd) (sl sl' : Value) (w : World) (hx : XK w.heap.size w sl P) (hx' : XK w.heap.size w sl' Q) (wf : wfP P) (sz : szP P) (wf' : wfP Q) (sz' : szP Q) (E : Env w ∧ Tab w) :
    Calls Tryz.prog 5 #[.agg #[sl], .agg #[sl']] w fun e w' => e = .returned (.bool true) ∧ Below w.heap.size w w' := by
  obtain ⟨sa, sc, rfl⟩ := hx.slice
  obtain ⟨ta, tc, rfl⟩ := hx'.slice
  obtain ⟨w1, hw1⟩ : ∃ w1, w1 = (w.alloc (.cells #[.slice sa P.length sc] 25)).alloc (.cells #[.slice ta Q.length tc] 25) := ⟨_, rfl⟩
  have o1 : Only Nil w w1 := hw1 ▸ ((Only.refl Nil w).alloc _).alloc _
  obtain ⟨bA, bB⟩ := two_ab w [.slice sa P.length sc] [.slice ta Q.length tc] 25
  have CA := Lib.hid (show ∀ w', Only Nil w1 w' → w'.cell? ⟨w.heap.size, 0, none⟩ = some (.slice sa P.length sc) from fun w' o => only_cell0 o (by rw [hw1]; exact bA.cell 0 rfl))
  have CB := Lib.hid (show ∀ w', Only Nil w1 w' → w'.cell? ⟨w.heap.size + 1, 0, none⟩ = some (.slice ta Q.length tc) from fun w' o => only_cell0 o (by rw [hw1]; exact bB.cell 0 rfl))
  have KE := Lib.hid (show ∀ w', Only Nil w1 w' → Env w' ∧ Tab w' from fun w' o => ⟨E.1.keep (o1.trans o), E.2.keep (o1.trans o)⟩)
  have KX := Lib.hid (show ∀ w', Only Nil w1 w' → XK w.heap.size w' (.slice sa P.length sc) P from fun w' o => hx.keep (o1.trans o) (nilS · _))
  have KY := Lib.hid (show ∀ w', Only Nil w1 w' → XK w.heap.size w' (.slice ta Q.length tc) Q from fun w' o => hx'.keep (o1.trans o) (nilS · _))
  have G1 := Lib.hid (fun w' (o : Only Nil w1 w') => great_any P (.slice sa P.length sc) (KX.out w' o) wf sz)
  have G2 := Lib.hid (fun w' (o : Only Nil w1 w') => great_any Q (.slice ta Q.length tc) (KY.out w' o) wf' sz')
  have O1 := Lib.hid o1
  clear bA bB hx hx' E o1 wf wf' sz sz'
  go_enter Tryz.func5, Tryz.ntmps5
  go_upto_region 1 with (fail)
  rw [← hw1]; clear hw1
  generalize w.heap.size = D at *
  have c0 := CA.out w1 (Only.refl Nil w1)
  have c1 := CB.out w1 (Only.refl Nil w1)
  go_wp2_with fail
  refine (G1.out w1 (Only.refl Nil w1)).mono ?_
  rintro e w2 ⟨g1, rfl, hg1, o2⟩
  have O2 := Lib.hid o2
  clear o2 c0 c1
  cases g1 with
  | true =>
    go_wp2_with fail
    refine (alive_any w2 (KE.out _ O2.out).1 (KE.out _ O2.out).2).mono ?_
    rintro e w3 ⟨rfl, o3⟩
    go_wp2
    go_ret
    exact ⟨rfl, below_nil ((O1.out.trans O2.out).trans o3)⟩
  | false =>
    have HS1 := Lib.hid (hg1 rfl)
    clear hg1
    have c1 := CB.out w2 O2.out
    go_wp2_with fail
    refine (G2.out w2 O2.out).mono ?_
    rintro e w3 ⟨g2, rfl, hg2, o3⟩
    have O3 := Lib.hid (O2.out.trans o3)
    clear o3 c1
    cases g2 with
    | true =>
      go_wp2_with fail
      refine (alive_any w3 (KE.out _ O3.out).1 (KE.out _ O3.out).2).mono ?_
      rintro e w4 ⟨rfl, o4⟩
      go_wp2
      go_ret
      exact ⟨rfl, below_nil ((O1.out.trans O3.out).trans o4)⟩
    | false =>
      have HS2 := Lib.hid (hg2 rfl)
      clear hg2
      have KS := Lib.hid (fun w' (o : Only Nil w1 w') => same_any (KX.out w' o) (KY.out w' o) HS1.out)
      have KR := Lib.hid (fun w' (o : Only Nil w1 w') => rsame_any (KX.out w' o) (KY.out w' o) HS1.out)
      have KP := Lib.hid (fun w' (o : Only Nil w1 w') => same_self (KX.out w' o) (KX.out w' o) HS1.out)
      have KQ := Lib.hid (fun w' (o : Only Nil w1 w') => same_self (KY.out w' o) (KY.out w' o) HS2.out)
      have c0 := CA.out w3 O3.out
      have c1 := CB.out w3 O3.out
      have OO := Lib.hid (show Only Nil w1 w3.drew from O3.out.trans (Only.refl Nil w3).drew)
      generalize decide (P = Q) = z at *
      go_upto_region 3 with (fail)
      go_region_held3 (fun w' => w'.cell? ⟨D, 0, none⟩ = some (.slice sa P.length sc) ∧ w'.cell? ⟨D + 1, 0, none⟩ = some (.slice ta Q.length tc))
        (first | exact ⟨c0, c1⟩ | exact ⟨CA.out _ OO.out, CB.out _ OO.out⟩ | go_keep)
        (first
          | (go_at_call 16; (with_reducible refine (alive_any _ (KE.out _ OO.out).1 (KE.out _ OO.out).2).mono ?_); rintro e wn ⟨rfl, on⟩; have O9 := Lib.hid (OO.out.trans on); clear OO on; have OO := O9; clear O9)
          | (go_at_call 21; (with_reducible refine (KR.out _ OO.out).mono ?_); rintro e wn ⟨rfl, on⟩; have O9 := Lib.hid (OO.out.trans on); clear OO on; have OO := O9; clear O9)
          | (go_at_call 26; (with_reducible refine (KS.out _ OO.out).mono ?_); rintro e wn ⟨rfl, on⟩; have O9 := Lib.hid (OO.out.trans on); clear OO on; have OO := O9; clear O9)
          | (go_at_call 26; (with_reducible refine (KP.out _ OO.out).mono ?_); rintro e wn ⟨rfl, on⟩; have O9 := Lib.hid (OO.out.trans on); clear OO on; have OO := O9; clear O9)
          | (go_at_call 26; (with_reducible refine (KQ.out _ OO.out).mono ?_); rintro e wn ⟨rfl, on⟩; have O9 := Lib.hid (OO.out.trans on); clear OO on; have OO := O9; clear O9))
      all_goals
        go_wp2
        go_ret
        exact ⟨by first | rfl | (simp; done), below_nil (O1.out.trans OO.out)⟩
end Go.Proofs.YtdhokkmflccaaaaGreatDoor.Ps
