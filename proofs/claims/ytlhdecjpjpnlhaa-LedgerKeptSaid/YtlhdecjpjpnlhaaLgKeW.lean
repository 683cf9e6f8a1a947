/- LedgerKept: the walk. -/
import Derived.Test.YtlhdecjpjpnlhaaLgH
import Derived.Deep.RegionHeld3
namespace Go.Proofs.Ytlhdecjpjpnlhaa.Lg
open Go.RowKit Go.Proofs.Ytlhdecjpjpnlhaa

/-- The row at T has n cells that may be written. -/
def WIn (w : World) (T n : Nat) : Prop := ∀ i, i < n → (∃ v, w.cell? ⟨T, i, none⟩ = some v) ∧ w.frozen? ⟨T, i, none⟩ = false
theorem WIn.set {w : World} {T n : Nat} (h : WIn w T n) (j : Nat) (u : Value) : WIn (w.setCell ⟨T, j, none⟩ u) T n := by
  intro i hi
  obtain ⟨⟨v, hv⟩, hf⟩ := h i hi
  refine ⟨?_, by rw [World.frozen?_setCell]; exact hf⟩
  by_cases e : j = i
  · subst e
    exact ⟨u, by apply World.cell?_setCell_same; exact hv⟩
  · exact ⟨v, by rw [World.cell?_setCell_other]; exact hv; intro h; exact e (by injection h)⟩
theorem PIn.win {w : World} {T : Nat} {X : List Ms} (h : PIn w T X) : WIn w T (X.length * 2) := by
  intro i hi
  refine ⟨?_, (h.2.1 i).resolve_right (by omega)⟩
  obtain ⟨c1, c2⟩ := h.2.2 (i / 2) (by omega)
  have h3 : i % 2 = 0 ∨ i % 2 = 1 := by omega
  rcases h3 with h3 | h3
  · rw [show i / 2 * 2 = i by omega] at c1; exact ⟨_, c1⟩
  · rw [show i / 2 * 2 + 1 = i by omega] at c2; exact ⟨_, c2⟩

theorem cl_refused {L : List Ms} {o : Op} (h : clE L o ≠ 0) : clL L o = L := by
  unfold clE at h
  unfold clL
  by_cases h0 : o.m 4 = 0
  · rw [if_pos h0] at h ⊢
    unfold acE at h
    unfold acL
    by_cases hp : held o.wh = true
    · rw [if_pos hp] at h
      by_cases hz : whOf L o.id = 0
      · rw [if_pos hz] at h; exact absurd rfl h
      · rw [if_neg (fun h => hz h.2)]
    · rw [if_neg (fun h => hp h.1)]
  · rw [if_neg h0] at h ⊢
    by_cases h1 : o.m 4 = 1
    · rw [if_pos h1] at h ⊢
      unfold mvE at h
      unfold mvL
      by_cases hp : held o.wh = true
      · rw [if_pos hp] at h
        by_cases hz : held (whOf L o.id) = true
        · rw [if_pos hz] at h; exact absurd rfl h
        · rw [if_neg (fun h => hz h.2)]
      · rw [if_neg (fun h => hp h.1)]
    · rw [if_neg h1] at h ⊢
      have he : ∀ q, enL L o.id q = L := fun q => by
        unfold enE at h
        unfold enL
        by_cases hz : held (whOf L o.id) = true
        · rw [if_pos hz] at h; exact absurd rfl h
        · rw [if_neg hz]
      split <;> exact he _

set_option maxRecDepth 100000 in
set_option maxHeartbeats 8000000 in
theorem kept_all (a : Option Addr) (cap : Nat) (X : List Op) (o : Op) (w : World) (hX : OpsIn w a X) (hr : X.length * 24 ≤ 140737488351232) :
    Calls Try.prog 6 #[.slice a X.length cap, .agg #[.int .u8 o.k, .int .u64 o.id, .int .i64 o.wh]] w fun e w' => e = .returned (.bool true) ∧ Below w.heap.size w w' := by
  have hX' := Lib.hid hX
  clear hX
  generalize hlen : X.length = len at hr ⊢
  have hlen' := Lib.hid hlen
  clear hlen
  have len8 : (len : Int) * 24 ≤ 140737488351232 := by omega
  clear hr
  obtain ⟨wB, hwB⟩ : ∃ wB, wB = w.alloc (.cells #[.int .u8 o.k, .int .u64 o.id, .int .i64 o.wh] 31) := ⟨_, rfl⟩
  have oB := Lib.hid (show Only Nil w wB by rw [hwB]; exact (Only.refl Nil w).alloc _)
  have bB : wB.heap[w.heap.size]? = some (.cells #[.int .u8 o.k, .int .u64 o.id, .int .i64 o.wh] 31 (0, 0)) := by rw [hwB]; exact heap_new _ _
  have box := Lib.hid (fun (wx : World) (ox : Only Nil wB wx) => show wx.cell? ⟨w.heap.size, 0, none⟩ = some (.int .u8 o.k) ∧ wx.cell? ⟨w.heap.size, 1, none⟩ = some (.int .u64 o.id) ∧ wx.cell? ⟨w.heap.size, 2, none⟩ = some (.int .i64 o.wh) from by
    have e := (ox.block _ (lt_of_block bB) (fun h => h)).trans bB
    exact ⟨by simp [World.cell?, e], by simp [World.cell?, e], by simp [World.cell?, e]⟩)
  have obl0 := Lib.hid (lt_of_block bB)
  clear bB
  go_enter Try.func6, Try.ntmps6
  go_upto_region 1 with (fail)
  rw [← hwB]
  clear hwB
  have obl : Hid (w.heap.size < wB.heap.size) := Lib.hid obl0.out
  clear obl0
  obtain ⟨ob, hob⟩ : ∃ ob, ob = w.heap.size := ⟨_, rfl⟩
  rw [← hob] at box ⊢
  have hob' := Lib.hid hob
  clear hob
  go_wp2_with (first
    | (go_at_call 7; (with_reducible refine (alive_any _).mono ?_); rintro e w1 ⟨rfl, h⟩; have o1 := Lib.hid h; clear h)
    | (go_at_call 8; (with_reducible refine (mine_new wB _ o1.out).mono ?_); rintro e w2 ⟨rfl, h⟩; obtain ⟨S, hA, hS, hO⟩ := h; have k2 := Lib.hid hA; have S0 := Lib.hid hS; have n2 := Lib.hid hO; clear hA hS hO; generalize w1.heap.size + 2 = hb at *))
  go_loopw [6] (fun s6 wr => ∃ (i : Nat) (L : List Ms), i ≤ len ∧ i ≤ 300 ∧ s6 = .int .i64 (i : Int) ∧ Hid (L.length ≤ i) ∧ Hid (At wr S hb L) ∧ Hid (Only Nil wB wr))
    (fun s6 _ => 1000 - (intOf s6).toNat)
  case atStart => exact ⟨0, [], Nat.zero_le _, Nat.zero_le _, rfl, Lib.hid (Nat.le_refl _), k2, n2⟩
  case round =>
    obtain ⟨i, L, hil, hi1, rfl, hn, hm, ho⟩ := hrel
    by_cases hin : i < len ∧ i < 300
    · have hli : (i : Int) < (len : Int) := by omega
      have hl3 : (i : Int) < 300 := by omega
      obtain ⟨bS, off, rfl, hb1, hb2⟩ := hX'.out i (by rw [hlen'.out]; exact hin.1)
      obtain ⟨x5, x6, x7⟩ := hb2 i (by rw [hlen'.out]; exact hin.1)
      clear hb2
      generalize X.getD i default = ox at x5 x6 x7
      have owr : Only Nil w wr := oB.out.trans ho.out
      have y5 : wr.cell? ⟨bS, off + i * 3, none⟩ = some (.int .u8 ox.k) := (World.cell?_of_block (a := ⟨bS, off + i * 3, none⟩) (owr.block bS hb1 (fun z => z))).trans x5
      have y6 : wr.cell? ⟨bS, off + i * 3 + 1, none⟩ = some (.int .u64 ox.id) := (World.cell?_of_block (a := ⟨bS, off + i * 3 + 1, none⟩) (owr.block bS hb1 (fun z => z))).trans x6
      have y7 : wr.cell? ⟨bS, off + i * 3 + 2, none⟩ = some (.int .i64 ox.wh) := (World.cell?_of_block (a := ⟨bS, off + i * 3 + 2, none⟩) (owr.block bS hb1 (fun z => z))).trans x7
      have cl' := Lib.hid (call_at hm.out ox (by have := hn.out; omega))
      have fin := Lib.hid (fun (wx : World) (o3 : Only S wr wx) => show Only Nil wB wx from ho.out.then o3 (fun q hq hlt => by have := S0.out q hq; omega))
      have nums := Lib.hid (And.intro hin (Nat.le_trans (clL_le L ox) (Nat.succ_le_succ hn.out)))
      clear x5 x6 x7 hb1 hin hil hi1 owr hn
      go_wp2_with (go_at_call 17; (with_reducible refine cl'.out.mono ?_); rintro e w3 ⟨rfl, h3, o3⟩; have k3 := Lib.hid h3; have f3 := Lib.hid (fin.out _ o3); clear h3 o3)
      go_roundw
      case rel => exact ⟨i + 1, _, by have := nums.out; omega, by have := nums.out; omega, by go_num, Lib.hid nums.out.2, k3, f3⟩
      case measure => have := nums.out; simp [intOf]; omega
    · have hcase : i = len ∨ (i < len ∧ i = 300) := by omega
      have hLl := Lib.hid (show L.length ≤ 300 by have := hn.out; omega)
      clear hin hil hi1 hn
      obtain ⟨W1, hW1⟩ : ∃ W1, W1 = wr := ⟨_, rfl⟩
      rw [← hW1] at hm ho ⊢
      clear hW1
      obtain ⟨T1, hT1⟩ : ∃ T1, T1 = W1.heap.size + 1 := ⟨_, rfl⟩
      have hTS := Lib.hid (show ¬ S T1 ∧ T1 ≠ ob from ⟨fun s => by have := hm.out.lt _ s; omega, by have := obl.out; have := ho.out.size; have := hob'.out; omega⟩)
      have fewC : (hl L).length ≤ L.length := cq_le _ _
      have hH300 := Lib.hid (show (hl L).length ≤ 300 by have := hLl.out; omega)
      have hh := Lib.hid (fun (w' : World) (o' : Only Nil W1 w') (hs : w'.heap.size = W1.heap.size) => show Calls Try.prog 15 #[.pointer (some ⟨hb, 0, none⟩)] w' fun e w'' => e = .returned (.slice (some ⟨T1, 0, none⟩) (hl L).length (hl L).length) ∧ PIn w'' T1 (hl L) ∧ Only Nil w' w'' from by
        have := held_any (hm.out.nil o') (by have := hLl.out; omega)
        rw [hs, ← hT1] at this
        exact this)
      have whq := Lib.hid (fun (w' : World) (o' : Only Nil W1 w') => (where_any (hm.out.nil o') o.id o.ok).mono (fun e w2 (h : _ ∧ w' = w2) => show e = .returned (.int .i64 (whOf L o.id)) ∧ Only Nil w' w2 from ⟨h.1, h.2 ▸ Only.refl _ _⟩))
      have box1 := Lib.hid (fun (w' : World) (o' : Only Nil W1 w') => (box.out w' (ho.out.trans o')).2.1)
      have s1 := box1.out W1 (Only.refl Nil W1)
      have box3 := Lib.hid (fun (w' : World) (o' : Only Nil W1 w') => box.out w' (ho.out.trans o'))
      have cl := Lib.hid (fun (w' : World) (o' : Only Nil W1 w') => call_at (hm.out.nil o') o (by have := hLl.out; omega))
      have refu := Lib.hid (fun (h : clE L o ≠ 0) => cl_refused h)
      have fewN := Lib.hid (show (clL L o).length ≤ 301 by have := clL_le L o; have := hLl.out; omega)
      have goodN := Lib.hid (fun (w' : World) (h : At w' S hb (clL L o)) => h)
      have obt := Lib.hid (show wB.heap.size ≤ T1 by have := ho.out.size; omega)
      clear hT1 fewC
      generalize hHe : hl L = H at *
      generalize hhl : H.length = h1 at *
      generalize hev : clE L o = ev at *
      generalize hLn : clL L o = Ln at *
      generalize hyv : whOf L o.id = y at *
      have hkeep := Lib.hid (And.intro hHe (And.intro hhl (And.intro hev (And.intro hLn hyv))))
      have hn1 : (h1 : Int) ≤ 300 := by have := hH300.out; omega
      clear hHe hhl hev hLn hyv
      obtain rfl | ⟨hlt2, rfl⟩ := hcase
      · have hk : ¬ (i : Int) < (i : Int) := by omega
        go_upto_region 8 with (fail)
        go_region_held3 (fun w' => w'.cell? ⟨ob, 1, none⟩ = some (.int .u64 o.id))
          (first | exact s1 | exact ks | exact kt | go_keep)
          (first
            | (go_at_call 15; go_loud (refine (hh.out _ ((Only.refl Nil W1).drewN _) rfl).mono ?_; rintro e w7 ⟨rfl, p7_, o7_⟩; have o7 := ((Only.refl Nil W1).drewN _).trans o7_; have ks := box1.out _ o7))
            | (go_at_call 10; go_loud (refine (whq.out _ o7).mono ?_; rintro e w8 ⟨rfl, o8_⟩; have o8 := o7.trans o8_; have p8 := p7_.nil o8_; have kt := box1.out _ o8)))
        have oB8 := Lib.hid (ho.out.trans o8)
        have A8 := Lib.hid (hm.out.nil o8)
        have cl8 := Lib.hid (cl.out _ o8)
        obtain ⟨c0, c1, c2⟩ := box3.out _ o8
        have p1 := Lib.hid p8
        have t8 := Lib.hid p8.1
        have callk := Lib.hid (fun (w9 : World) (o9 : Only S w8 w9) => show PIn w9 T1 H ∧ Only Nil wB w9 ∧ w8.heap.size ≤ w9.heap.size from ⟨p8.keep o9 hTS.out.1, (ho.out.trans o8).then o9 (fun q hq hlt => by have := S0.out q hq; omega), o9.size⟩)
        clear p8 kt ks o7 o7_ o8_ o8 p7_ hh whq s1 cl hm ho
        go_upto_region 11 with (first
          | (go_at_call 17; go_loud ((with_reducible refine cl8.out.mono ?_); rintro e w9 ⟨rfl, h9, o9⟩; obtain ⟨p9_, oB9_, t9_⟩ := callk.out _ o9; have p9 := Lib.hid p9_; have oB9 := Lib.hid oB9_; have t9 := Lib.hid t9_; have A9 := Lib.hid h9; have hd9 := Lib.hid (held_any h9 (by have := fewN.out; omega)); clear h9 o9 p9_ oB9_ t9_))
          | (go_at_call 15; go_loud ((with_reducible refine hd9.out.mono ?_); rintro e w10 ⟨rfl, p10_, o10⟩; have p2_ := Lib.hid p10_; have p1a := Lib.hid (p9.out.nil o10); have A10 := Lib.hid (A9.out.nil o10); have oB10 := Lib.hid (oB9.out.trans o10); have wy10 := Lib.hid (where_any (A9.out.nil o10) o.id o.ok); have c10 := (box.out _ (oB9.out.trans o10)).2.1; clear p10_ o10)))
        obtain ⟨T2, hT2⟩ : ∃ T2, T2 = w9.heap.size + 1 := ⟨_, rfl⟩
        rw [← hT2] at p2_ ⊢
        have tt := Lib.hid (show T2 ≠ T1 ∧ ¬ S T2 from ⟨by have := t8.out; have := t9.out; omega, fun s => by have := A9.out.lt _ s; omega⟩)
        clear hT2 c0 c1 c2 hd9 A9 p9 oB9 t9
        obtain ⟨HN, hHN⟩ : ∃ HN, HN = hl Ln := ⟨_, rfl⟩
        rw [← hHN] at p2_ ⊢
        obtain ⟨h2, hh2⟩ : ∃ h2, h2 = HN.length := ⟨_, rfl⟩
        rw [← hh2]
        have same : Hid (ev ≠ 0 → Ln = L ∧ HN = H ∧ h2 = h1) := Lib.hid (fun h => by
          obtain ⟨k1, k2, k3, k4, k5⟩ := hkeep.out
          have e := refu.out h
          refine ⟨e, by rw [hHN, e, k1], by rw [hh2, hHN, e, k1, k2]⟩)
        have h2l := Lib.hid (show h2 ≤ 301 by rw [hh2, hHN]; have := fewN.out; have : (hl Ln).length ≤ Ln.length := cq_le _ _; omega)
        have hh2' := Lib.hid hh2
        have hHN' := Lib.hid hHN
        have hn2 : (h2 : Int) ≤ 301 := by have := h2l.out; omega
        clear hh2 hHN
        go_cut [61] (fun s61 wx => s61 = .bool false ∧ wx = w10)
        case first =>
          by_cases he : ev = 0
          · subst he
            go_wp2_with (fail)
            go_meet
            exact ⟨rfl, rfl⟩
          · obtain ⟨e1, e2, e3⟩ := same.out he
            rw [e1] at wy10
            rw [hkeep.out.2.2.2.2] at wy10
            have e4 : ((h2 : Int) != (h1 : Int)) = false := by rw [e3]; simp
            clear e1 e2 e3
            go_wp2_with (go_at_call 10; go_loud ((with_reducible refine wy10.out.mono ?_); rintro e w' ⟨rfl, rfl⟩))
            go_meet
            exact ⟨rfl, rfl⟩
        case rest =>
          obtain ⟨rfl, hwc⟩ := hcut
          rw [hwc]
          clear hwc wy10 c10 refu cl8 callk
          go_wp2_with fail
          go_loopw [11] (fun s11 wx => ∃ j : Nat, j ≤ h2 ∧ s11 = .int .i64 (j : Int) ∧ Hid (Only Nil w10 wx))
            (fun s11 _ => 1000 - (intOf s11).toNat)
          case atStart => exact ⟨0, Nat.zero_le _, rfl, Lib.hid (Only.refl _ _)⟩
          case round =>
            obtain ⟨j, hj, rfl, oj⟩ := hrel
            by_cases hjn : j < h2
            · have hji : (j : Int) < (h2 : Int) := by omega
              have hjn' := Lib.hid hjn
              have d := (p2_.out.nil oj.out).2.2 j (by rw [← hh2'.out]; exact hjn)
              by_cases he : ev = 0
              · clear hj hjn
                obtain ⟨d0, d1⟩ := d
                go_wp2_with fail
                go_quiet (fail)
                go_wp2_with fail
                have oj2 := Lib.hid (oj.out.drewN nq)
                go_roundw
                case rel => exact ⟨j + 1, hjn'.out, by go_num, oj2⟩
                case measure => have := hjn'.out; have := h2l.out; simp [intOf]; omega
              · obtain ⟨e1, e2, e3⟩ := same.out he
                have f := (p1a.out.nil oj.out).2.2 j (by rw [hkeep.out.2.1, ← e3]; exact hjn)
                rw [e2] at d
                generalize H.getD j default = mj at *
                obtain ⟨d0, d1⟩ := d
                obtain ⟨f0, f1⟩ := f
                have hj1 : (j : Int) < (h1 : Int) := by omega
                clear hj hjn e1 e2 e3
                go_wp2_with fail
                go_quiet (fail)
                go_wp2_with fail
                have oj2 := Lib.hid (oj.out.drewN nq)
                go_roundw
                case rel => exact ⟨j + 1, hjn'.out, by go_num, oj2⟩
                case measure => have := hjn'.out; have := h2l.out; simp [intOf]; omega
            · obtain rfl : j = h2 := by omega
              clear hjn hj
              obtain ⟨W2, hW2⟩ : ∃ W2, W2 = wr := ⟨_, rfl⟩
              rw [← hW2] at oj ⊢
              clear hW2
              have A2 := Lib.hid (A10.out.nil oj.out)
              have q2 := Lib.hid (p2_.out.nil oj.out)
              have v2 := Lib.hid (show WIn W2 T1 (h1 * 2) by have := (p1a.out.nil oj.out).win; rw [hkeep.out.2.1] at this; exact this)
              have oB2 := Lib.hid (oB10.out.trans oj.out)
              clear A10 p2_ p1a oB10 oj
              go_wp2_with fail
              go_loopw [12] (fun s12 wx => ∃ k : Nat, k ≤ h1 ∧ s12 = .int .i64 (k : Int) ∧ Hid (WIn wx T1 (h1 * 2)) ∧ Hid (Only (fun q => q = T1) W2 wx))
                (fun s12 _ => 1000 - (intOf s12).toNat)
              case atStart => exact ⟨0, Nat.zero_le _, rfl, v2, Lib.hid (Only.refl _ _)⟩
              case round =>
                obtain ⟨k, hk1, rfl, vk, ok⟩ := hrel
                by_cases hkn : k < h1
                · have hki : (k : Int) < (h1 : Int) := by omega
                  have hkn' := Lib.hid hkn
                  obtain ⟨⟨z0, x0⟩, f0⟩ := vk.out (k * 2) (by omega)
                  obtain ⟨⟨z1, x1⟩, f1⟩ := vk.out (k * 2 + 1) (by omega)
                  clear hkn hk1
                  go_wp2
                  go_roundw
                  case rel => exact ⟨k + 1, hkn'.out, by go_num, Lib.hid ((vk.out.set _ _).set _ _), Lib.hid ((ok.out.setCell (p := ⟨T1, k * 2, none⟩) rfl _).setCell (p := ⟨T1, k * 2 + 1, none⟩) rfl _)⟩
                  case measure => have := hkn'.out; have := hH300.out; simp [intOf]; omega
                · obtain rfl : k = h1 := by omega
                  clear hkn hk1
                  have A3 := Lib.hid (A2.out.keep ok.out (fun q hq e => hTS.out.1 (e ▸ hq)))
                  have q3 := Lib.hid (q2.out.keep ok.out tt.out.1)
                  have oB3 := Lib.hid (oB2.out.then ok.out (fun q hq hlt => by have := ok.out.size; have := obt.out; omega))
                  have hd3 := Lib.hid (held_any A3.out (by have := fewN.out; omega))
                  rw [← hHN'.out, ← hh2'.out] at hd3
                  clear vk ok A2 q2 oB2 v2
                  generalize wr.heap.size + 1 = T3 at *
                  go_wp2_with (go_at_call 15; go_loud ((with_reducible refine hd3.out.mono ?_); rintro e w12 ⟨rfl, p3_, o12⟩; have p3 := Lib.hid p3_; have q4 := Lib.hid (q3.out.nil o12); have oB4 := Lib.hid (oB3.out.trans o12); clear p3_ o12))
                  go_loopw [14] (fun s14 wx => ∃ m : Nat, m ≤ j ∧ s14 = .int .i64 (m : Int) ∧ Hid (Only Nil w12 wx))
                    (fun s14 _ => 1000 - (intOf s14).toNat)
                  case atStart => exact ⟨0, Nat.zero_le _, rfl, Lib.hid (Only.refl _ _)⟩
                  case round =>
                    obtain ⟨m, hm1, rfl, om⟩ := hrel
                    by_cases hmn : m < j
                    · have hmi : (m : Int) < (j : Int) := by omega
                      have hmn' := Lib.hid hmn
                      have d := (p3.out.nil om.out).2.2 m (by rw [← hh2'.out]; exact hmn)
                      have f := (q4.out.nil om.out).2.2 m (by rw [← hh2'.out]; exact hmn)
                      generalize HN.getD m default = mj at *
                      obtain ⟨d0, d1⟩ := d
                      obtain ⟨f0, f1⟩ := f
                      clear hm1 hmn
                      go_wp2_with fail
                      go_quiet (fail)
                      go_wp2_with fail
                      have om2 := Lib.hid (om.out.drewN nq)
                      go_roundw
                      case rel => exact ⟨m + 1, hmn'.out, by go_num, om2⟩
                      case measure => have := hmn'.out; have := h2l.out; simp [intOf]; omega
                    · obtain rfl : m = j := by omega
                      clear hmn hm1
                      have fin := Lib.hid (oB.out.trans (oB4.out.trans om.out))
                      go_wp2
                      go_ret
                      exact ⟨rfl, fin.out.below (Nat.le_refl _) (fun _ h => h.elim)⟩
      · have hk : (300 : Int) < (len : Int) := by omega
        have hk2 : ¬ (300 : Int) < 300 := by omega
        clear hlt2
        go_upto_region 8 with (fail)
        go_region_held3 (fun w' => w'.cell? ⟨ob, 1, none⟩ = some (.int .u64 o.id))
          (first | exact s1 | exact ks | exact kt | go_keep)
          (first
            | (go_at_call 15; go_loud (refine (hh.out _ ((Only.refl Nil W1).drewN _) rfl).mono ?_; rintro e w7 ⟨rfl, p7_, o7_⟩; have o7 := ((Only.refl Nil W1).drewN _).trans o7_; have ks := box1.out _ o7))
            | (go_at_call 10; go_loud (refine (whq.out _ o7).mono ?_; rintro e w8 ⟨rfl, o8_⟩; have o8 := o7.trans o8_; have p8 := p7_.nil o8_; have kt := box1.out _ o8)))
        have oB8 := Lib.hid (ho.out.trans o8)
        have A8 := Lib.hid (hm.out.nil o8)
        have cl8 := Lib.hid (cl.out _ o8)
        obtain ⟨c0, c1, c2⟩ := box3.out _ o8
        have p1 := Lib.hid p8
        have t8 := Lib.hid p8.1
        have callk := Lib.hid (fun (w9 : World) (o9 : Only S w8 w9) => show PIn w9 T1 H ∧ Only Nil wB w9 ∧ w8.heap.size ≤ w9.heap.size from ⟨p8.keep o9 hTS.out.1, (ho.out.trans o8).then o9 (fun q hq hlt => by have := S0.out q hq; omega), o9.size⟩)
        clear p8 kt ks o7 o7_ o8_ o8 p7_ hh whq s1 cl hm ho
        go_upto_region 11 with (first
          | (go_at_call 17; go_loud ((with_reducible refine cl8.out.mono ?_); rintro e w9 ⟨rfl, h9, o9⟩; obtain ⟨p9_, oB9_, t9_⟩ := callk.out _ o9; have p9 := Lib.hid p9_; have oB9 := Lib.hid oB9_; have t9 := Lib.hid t9_; have A9 := Lib.hid h9; have hd9 := Lib.hid (held_any h9 (by have := fewN.out; omega)); clear h9 o9 p9_ oB9_ t9_))
          | (go_at_call 15; go_loud ((with_reducible refine hd9.out.mono ?_); rintro e w10 ⟨rfl, p10_, o10⟩; have p2_ := Lib.hid p10_; have p1a := Lib.hid (p9.out.nil o10); have A10 := Lib.hid (A9.out.nil o10); have oB10 := Lib.hid (oB9.out.trans o10); have wy10 := Lib.hid (where_any (A9.out.nil o10) o.id o.ok); have c10 := (box.out _ (oB9.out.trans o10)).2.1; clear p10_ o10)))
        obtain ⟨T2, hT2⟩ : ∃ T2, T2 = w9.heap.size + 1 := ⟨_, rfl⟩
        rw [← hT2] at p2_ ⊢
        have tt := Lib.hid (show T2 ≠ T1 ∧ ¬ S T2 from ⟨by have := t8.out; have := t9.out; omega, fun s => by have := A9.out.lt _ s; omega⟩)
        clear hT2 c0 c1 c2 hd9 A9 p9 oB9 t9
        obtain ⟨HN, hHN⟩ : ∃ HN, HN = hl Ln := ⟨_, rfl⟩
        rw [← hHN] at p2_ ⊢
        obtain ⟨h2, hh2⟩ : ∃ h2, h2 = HN.length := ⟨_, rfl⟩
        rw [← hh2]
        have same : Hid (ev ≠ 0 → Ln = L ∧ HN = H ∧ h2 = h1) := Lib.hid (fun h => by
          obtain ⟨k1, k2, k3, k4, k5⟩ := hkeep.out
          have e := refu.out h
          refine ⟨e, by rw [hHN, e, k1], by rw [hh2, hHN, e, k1, k2]⟩)
        have h2l := Lib.hid (show h2 ≤ 301 by rw [hh2, hHN]; have := fewN.out; have : (hl Ln).length ≤ Ln.length := cq_le _ _; omega)
        have hh2' := Lib.hid hh2
        have hHN' := Lib.hid hHN
        have hn2 : (h2 : Int) ≤ 301 := by have := h2l.out; omega
        clear hh2 hHN
        go_cut [61] (fun s61 wx => s61 = .bool false ∧ wx = w10)
        case first =>
          by_cases he : ev = 0
          · subst he
            go_wp2_with (fail)
            go_meet
            exact ⟨rfl, rfl⟩
          · obtain ⟨e1, e2, e3⟩ := same.out he
            rw [e1] at wy10
            rw [hkeep.out.2.2.2.2] at wy10
            have e4 : ((h2 : Int) != (h1 : Int)) = false := by rw [e3]; simp
            clear e1 e2 e3
            go_wp2_with (go_at_call 10; go_loud ((with_reducible refine wy10.out.mono ?_); rintro e w' ⟨rfl, rfl⟩))
            go_meet
            exact ⟨rfl, rfl⟩
        case rest =>
          obtain ⟨rfl, hwc⟩ := hcut
          rw [hwc]
          clear hwc wy10 c10 refu cl8 callk
          go_wp2_with fail
          go_loopw [11] (fun s11 wx => ∃ j : Nat, j ≤ h2 ∧ s11 = .int .i64 (j : Int) ∧ Hid (Only Nil w10 wx))
            (fun s11 _ => 1000 - (intOf s11).toNat)
          case atStart => exact ⟨0, Nat.zero_le _, rfl, Lib.hid (Only.refl _ _)⟩
          case round =>
            obtain ⟨j, hj, rfl, oj⟩ := hrel
            by_cases hjn : j < h2
            · have hji : (j : Int) < (h2 : Int) := by omega
              have hjn' := Lib.hid hjn
              have d := (p2_.out.nil oj.out).2.2 j (by rw [← hh2'.out]; exact hjn)
              by_cases he : ev = 0
              · clear hj hjn
                obtain ⟨d0, d1⟩ := d
                go_wp2_with fail
                go_quiet (fail)
                go_wp2_with fail
                have oj2 := Lib.hid (oj.out.drewN nq)
                go_roundw
                case rel => exact ⟨j + 1, hjn'.out, by go_num, oj2⟩
                case measure => have := hjn'.out; have := h2l.out; simp [intOf]; omega
              · obtain ⟨e1, e2, e3⟩ := same.out he
                have f := (p1a.out.nil oj.out).2.2 j (by rw [hkeep.out.2.1, ← e3]; exact hjn)
                rw [e2] at d
                generalize H.getD j default = mj at *
                obtain ⟨d0, d1⟩ := d
                obtain ⟨f0, f1⟩ := f
                have hj1 : (j : Int) < (h1 : Int) := by omega
                clear hj hjn e1 e2 e3
                go_wp2_with fail
                go_quiet (fail)
                go_wp2_with fail
                have oj2 := Lib.hid (oj.out.drewN nq)
                go_roundw
                case rel => exact ⟨j + 1, hjn'.out, by go_num, oj2⟩
                case measure => have := hjn'.out; have := h2l.out; simp [intOf]; omega
            · obtain rfl : j = h2 := by omega
              clear hjn hj
              obtain ⟨W2, hW2⟩ : ∃ W2, W2 = wr := ⟨_, rfl⟩
              rw [← hW2] at oj ⊢
              clear hW2
              have A2 := Lib.hid (A10.out.nil oj.out)
              have q2 := Lib.hid (p2_.out.nil oj.out)
              have v2 := Lib.hid (show WIn W2 T1 (h1 * 2) by have := (p1a.out.nil oj.out).win; rw [hkeep.out.2.1] at this; exact this)
              have oB2 := Lib.hid (oB10.out.trans oj.out)
              clear A10 p2_ p1a oB10 oj
              go_wp2_with fail
              go_loopw [12] (fun s12 wx => ∃ k : Nat, k ≤ h1 ∧ s12 = .int .i64 (k : Int) ∧ Hid (WIn wx T1 (h1 * 2)) ∧ Hid (Only (fun q => q = T1) W2 wx))
                (fun s12 _ => 1000 - (intOf s12).toNat)
              case atStart => exact ⟨0, Nat.zero_le _, rfl, v2, Lib.hid (Only.refl _ _)⟩
              case round =>
                obtain ⟨k, hk1, rfl, vk, ok⟩ := hrel
                by_cases hkn : k < h1
                · have hki : (k : Int) < (h1 : Int) := by omega
                  have hkn' := Lib.hid hkn
                  obtain ⟨⟨z0, x0⟩, f0⟩ := vk.out (k * 2) (by omega)
                  obtain ⟨⟨z1, x1⟩, f1⟩ := vk.out (k * 2 + 1) (by omega)
                  clear hkn hk1
                  go_wp2
                  go_roundw
                  case rel => exact ⟨k + 1, hkn'.out, by go_num, Lib.hid ((vk.out.set _ _).set _ _), Lib.hid ((ok.out.setCell (p := ⟨T1, k * 2, none⟩) rfl _).setCell (p := ⟨T1, k * 2 + 1, none⟩) rfl _)⟩
                  case measure => have := hkn'.out; have := hH300.out; simp [intOf]; omega
                · obtain rfl : k = h1 := by omega
                  clear hkn hk1
                  have A3 := Lib.hid (A2.out.keep ok.out (fun q hq e => hTS.out.1 (e ▸ hq)))
                  have q3 := Lib.hid (q2.out.keep ok.out tt.out.1)
                  have oB3 := Lib.hid (oB2.out.then ok.out (fun q hq hlt => by have := ok.out.size; have := obt.out; omega))
                  have hd3 := Lib.hid (held_any A3.out (by have := fewN.out; omega))
                  rw [← hHN'.out, ← hh2'.out] at hd3
                  clear vk ok A2 q2 oB2 v2
                  generalize wr.heap.size + 1 = T3 at *
                  go_wp2_with (go_at_call 15; go_loud ((with_reducible refine hd3.out.mono ?_); rintro e w12 ⟨rfl, p3_, o12⟩; have p3 := Lib.hid p3_; have q4 := Lib.hid (q3.out.nil o12); have oB4 := Lib.hid (oB3.out.trans o12); clear p3_ o12))
                  go_loopw [14] (fun s14 wx => ∃ m : Nat, m ≤ j ∧ s14 = .int .i64 (m : Int) ∧ Hid (Only Nil w12 wx))
                    (fun s14 _ => 1000 - (intOf s14).toNat)
                  case atStart => exact ⟨0, Nat.zero_le _, rfl, Lib.hid (Only.refl _ _)⟩
                  case round =>
                    obtain ⟨m, hm1, rfl, om⟩ := hrel
                    by_cases hmn : m < j
                    · have hmi : (m : Int) < (j : Int) := by omega
                      have hmn' := Lib.hid hmn
                      have d := (p3.out.nil om.out).2.2 m (by rw [← hh2'.out]; exact hmn)
                      have f := (q4.out.nil om.out).2.2 m (by rw [← hh2'.out]; exact hmn)
                      generalize HN.getD m default = mj at *
                      obtain ⟨d0, d1⟩ := d
                      obtain ⟨f0, f1⟩ := f
                      clear hm1 hmn
                      go_wp2_with fail
                      go_quiet (fail)
                      go_wp2_with fail
                      have om2 := Lib.hid (om.out.drewN nq)
                      go_roundw
                      case rel => exact ⟨m + 1, hmn'.out, by go_num, om2⟩
                      case measure => have := hmn'.out; have := h2l.out; simp [intOf]; omega
                    · obtain rfl : m = j := by omega
                      clear hmn hm1
                      have fin := Lib.hid (oB.out.trans (oB4.out.trans om.out))
                      go_wp2
                      go_ret
                      exact ⟨rfl, fin.out.below (Nat.le_refl _) (fun _ h => h.elim)⟩
end Go.Proofs.Ytlhdecjpjpnlhaa.Lg
