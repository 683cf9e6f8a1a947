/- tree: the script of a law opened; grown. -/
import Derived.Test.YtkeaenkkencmdaaTrL
import Derived.StillTailTactics
import Derived.Test.YtkeaenkkencmdaaRowA
import Derived.Deep.Slices
import Derived.Deep.Fields
import Derived.Lib.SmallJoins
import Derived.WalkSpells
set_option linter.unusedSimpArgs false
set_option linter.unusedVariables false
namespace Go.Proofs.Ytkeaenkkencmdaa.Tr
open Go.RowKit Go.ChangeShapes Go.WideShapes Go.ChangeAt Go.Joins Go.Deep Go.Proofs.Ytkeaenkkencmdaa

/-- An operation of a law's script: a cut or none, the parent, the number. -/
structure Op where
  k : Bool
  p : Int
  id : Int
  pok : (Lit.int .i64 p).wf = true
  ok : (Lit.int .i64 id).wf = true
instance : Inhabited Op := ⟨⟨false, 0, 0, by decide, by decide⟩⟩

/-- The slice at a, of the operations S. -/
def OpsIn (w : World) (a : Option Addr) (S : List Op) : Prop :=
  ∀ i, i < S.length → ∃ b off, a = some ⟨b, off, none⟩ ∧ b < w.heap.size ∧ ∀ j, j < S.length → w.cell? ⟨b, off + j * 3, none⟩ = some (.bool (S.getD j default).k) ∧ w.cell? ⟨b, off + j * 3 + 1, none⟩ = some (.int .i64 (S.getD j default).p) ∧ w.cell? ⟨b, off + j * 3 + 2, none⟩ = some (.int .i64 (S.getD j default).id)
theorem add_addO (b off j k : Nat) : ((⟨b, off, none⟩ : Addr).add j).add k = ⟨b, off + j + k, none⟩ := by
  have e : ∀ o n, (⟨b, o, none⟩ : Addr).add n = ⟨b, o + n, none⟩ := fun o n => by
    by_cases h : n = 0
    · subst h; simp [Addr.add]
    · simp [Addr.add, h]
  rw [e, e]

set_option maxRecDepth 100000 in
theorem open_op {H : Type} {enc : TypeId × Value → H} {w : World} {held : Bool} {n : Nat} {ad : Addr} {cs : List Value} {y : DataW H × List MemPlace}
    (hc : w.cells? 0 ad 3 = some cs) (h : DataW.trod enc Try.prog w 0 (fun _ => true) held n 28 cs = some y) :
    ∃ o : Op, w.cell? (ad.add 0) = some (.bool o.k) ∧ w.cell? (ad.add 1) = some (.int .i64 o.p) ∧ w.cell? (ad.add 2) = some (.int .i64 o.id) ∧ True := by
  obtain ⟨_, hl, hat⟩ := World.cells?_some hc
  match cs, hl with
  | [v0, v1, v2], _ =>
    obtain ⟨y0, y1, y2, m, _, _, h0, h1, h2⟩ := trod_struct3 Try.underlying28 h
    have g0 : DataW.trod enc Try.prog w 0 (fun _ => true) held m 4 [v0] = some y0 := h0
    have g1 : DataW.trod enc Try.prog w 0 (fun _ => true) held m 3 [v1] = some y1 := h1
    have g2 : DataW.trod enc Try.prog w 0 (fun _ => true) held m 3 [v2] = some y2 := h2
    obtain ⟨k, e0, _⟩ := DataW.trod_bool Try.underlying4 g0
    obtain ⟨i, e1, _, wi⟩ := DataW.trod_int Try.underlying3 g1
    obtain ⟨o, e2, _, wo⟩ := DataW.trod_int Try.underlying3 g2
    simp at e0 e1 e2
    subst e0 e1 e2
    exact ⟨⟨k, i, o, wi, wo⟩, hat 0 (by decide), hat 1 (by decide), hat 2 (by decide), trivial⟩

set_option maxRecDepth 100000 in
/-- An argument that is a slice of operations, opened. -/
theorem open_ops {H : Type} {enc : TypeId × Value → H} {w : World} {held : Bool} {fuel : Nat} {a : Option Addr} {len cap : Nat} {x : DataW H × List MemPlace}
    (h : DataW.trod enc Try.prog w 0 (fun _ => true) held fuel 22 (Value.slice a len cap).cells.toList = some x) :
    ∃ S : List Op, S.length = len ∧ OpsIn w a S ∧ True ∧
      ∀ (ts : List TypeId) (ds : List (DataW H)) (j : Nat), (DataW.weightsEach Try.prog ts ds).all (· ≤ reachBytes) = true → ts[j]? = some 22 → ds[j]? = some x.1 → S.length * 24 ≤ reachBytes := by
  rcases open_slice Try.underlying22 h with ⟨hcs, rfl⟩ | ⟨y, l, c, m, n, D, Pl, hcs, _, hl, hm, hmm, rfl, hi⟩
  · simp [Value.cells] at hcs
    obtain ⟨rfl, rfl, rfl⟩ := hcs
    exact ⟨[], rfl, fun i hi => by simp at hi, trivial, fun _ _ _ _ _ _ => by simp⟩
  · simp [Value.cells] at hcs
    obtain ⟨rfl, rfl, rfl⟩ := hcs
    simp only [if_true] at hmm
    subst hmm
    have hC : Try.prog.cellsOf 28 = 3 := by kernel_rfl
    rw [hC] at hi
    have each : ∀ i, ∃ o : Op, i < m → w.cell? ((y.add (i * 3)).add 0) = some (.bool o.k) ∧ w.cell? ((y.add (i * 3)).add 1) = some (.int .i64 o.p) ∧ w.cell? ((y.add (i * 3)).add 2) = some (.int .i64 o.id) ∧ True := by
      intro i
      by_cases him : i < m
      · obtain ⟨cs', hc, ht⟩ := hi i him
        obtain ⟨o, ho⟩ := open_op hc ht
        exact ⟨o, fun _ => ho⟩
      · exact ⟨default, fun h => absurd h him⟩
    obtain ⟨f, hf⟩ := Classical.axiomOfChoice each
    refine ⟨(List.range len).map f, by simp, ?_, trivial, ?_⟩
    · intro i hi'
      simp only [List.length_map, List.length_range] at hi'
      obtain ⟨b, off, spot⟩ := y
      have h0 := (hf 0 (by omega)).1
      have hspot : spot = none := by simpa [Addr.add] using World.cell?_spot h0
      subst hspot
      refine ⟨b, off, rfl, ?_, ?_⟩
      · rcases Nat.lt_or_ge b w.heap.size with h' | h'
        · exact h'
        · exfalso
          rw [add_addO] at h0
          simp [World.cell?, Array.getElem?_eq_none h'] at h0
      · intro j hj
        simp only [List.length_map, List.length_range] at hj
        obtain ⟨e0, e1, e2, _⟩ := hf j (by omega)
        rw [add_addO] at e0 e1 e2
        have ed : ((List.range len).map f).getD j default = f j := by simp [List.getD, hj]
        rw [ed]
        exact ⟨e0, e1, e2⟩
    · intro ts ds j hw ht hd
      have := sized_slice hw ht hd Try.underlying22
      have e6 : Try.prog.bytesOf 28 = 24 := by kernel_rfl
      rw [e6] at this
      simp only [List.length_map, List.length_range] at this ⊢
      omega

def OwnP (v : Value) (q : Nat) : Prop := some q = v.ownBlock
/-- A tree, and a row of the law's own beside it. -/
structure Gw (W w : World) (tb : Nat) (T : List Mb) (v : Value) (L : List Int) : Prop where
  st : St W (OwnP v) w tb T
  row : Fr W w v L
section
variable {W w w' : World} {tb : Nat} {T T' : List Mb} {v v' : Value} {L X : List Int}
theorem Gw.turn (h : Gw W w tb T v L) (st : St W (OwnP v) w' tb T') (o : Only (Free W (OwnP v)) w w') : Gw W w' tb T' v L :=
  ⟨st, own_keep h.row.row o (fun k hk hf => hf.2 hk), h.row.new, st.only⟩
theorem Gw.nil (h : Gw W w tb T v L) (o : Only Nil w w') : Gw W w' tb T v L := ⟨h.st.nil o, h.row.nil o⟩
theorem Gw.grown (h : Gw W w tb T v L) (G : Gr w w' v v' X) : Gw W w' tb T v' X :=
  ⟨h.st.re G.only (fun q hq => hq) (fun q hq => h.row.new q hq) (fun q hq => ⟨G.new q hq, (G.row.lt q hq.symm).2⟩), h.row.grown G⟩
end
def stepT (T : List Mb) (o : Op) : List Mb := if o.k = true then cutT T o.id else addT T o.p o.id
theorem cutT_le (T : List Mb) (x : Int) : (cutT T x).length ≤ T.length := by
  unfold cutT
  split
  · exact List.length_filter_le _ _
  · exact Nat.le_refl _
theorem addT_le (T : List Mb) (p x : Int) : (addT T p x).length ≤ T.length + 1 := by
  unfold addT
  split
  · simp
  · omega
theorem stepT_le (T : List Mb) (o : Op) : (stepT T o).length ≤ T.length + 1 := by
  unfold stepT
  split
  · exact Nat.le_trans (cutT_le _ _) (Nat.le_succ _)
  · exact addT_le _ _ _

set_option maxRecDepth 100000 in
set_option maxHeartbeats 2000000 in
theorem grown_any {W : World} {a : Option Addr} {l cap : Nat} {S : List Op} (hS : Hid (OpsIn W a S)) (Hl : Hid (l = S.length)) (l63 : (l : Int) ≤ 140737488351232) {w1 : World} (o1 : Only Nil W w1) :
    Calls Try.prog 15 #[.slice a l cap] w1 fun e w' => ∃ (tb n c : Nat) (aa : Option Addr), e = .returned (.tuple #[.pointer (some ⟨tb, 0, none⟩), .slice aa n c]) ∧ n ≤ 100 ∧ Hid (∃ T L, Gw W w' tb T (.slice aa n c) L ∧ L.length = n ∧ T.length ≤ 100 ∧ ∀ x ∈ L, (Lit.int .i64 x).wf = true) := by
  have HN := Lib.hid (st_new (K := OwnP (.slice none 0 0)) o1 (fun q hq => by simp [OwnP, Value.ownBlock] at hq))
  have HO := Lib.hid o1
  clear o1
  go_enter Try.func15, Try.ntmps15
  go_wp2_with (go_at_call 8; (with_reducible refine HN.out.mono ?_); rintro e w2 ⟨rfl, h2, _⟩; have k2 := Lib.hid h2; clear h2 HN)
  generalize w1.heap.size + 2 = tb at *
  go_loopw [5, 6] (fun s5 s6 wr => ∃ (i c : Nat) (aa : Option Addr), i ≤ 100 ∧ i ≤ l ∧ s6 = .int .i64 (i : Int) ∧ s5 = .slice aa i c ∧ Hid (∃ T L, Gw W wr tb T (.slice aa i c) L ∧ L.length = i ∧ T.length ≤ i ∧ ∀ x ∈ L, (Lit.int .i64 x).wf = true))
    (fun _ s6 _ => l - (intOf s6).toNat)
  case atStart => exact ⟨0, 0, none, by decide, Nat.zero_le _, rfl, rfl, Lib.hid ⟨[], [], ⟨k2.out, Fr.none k2.out.only⟩, rfl, Nat.le_refl _, fun x hx => by simp at hx⟩⟩
  case round =>
    obtain ⟨i, c, aa, hi, hil, rfl, rfl, H⟩ := hrel
    have hsm : (i : Int) ≤ 100 := by omega
    by_cases hin : i < l ∧ i < 100
    · have hin' : (i : Int) < (l : Int) := by omega
      have h100 : (i : Int) < 100 := by omega
      obtain ⟨b, off, rfl, hlt, hc⟩ := hS.out i (by rw [← Hl.out]; exact hin.1)
      obtain ⟨x0, x1, x2⟩ := hc i (by rw [← Hl.out]; exact hin.1)
      obtain ⟨o, ho⟩ : ∃ o, o = S.getD i default := ⟨_, rfl⟩
      rw [← ho] at x0 x1 x2
      have HC := Lib.hid (fun (w' : World) (o' : Only Nil W w') => show w'.cell? ⟨b, off + i * 3, none⟩ = some (.bool o.k) ∧ w'.cell? ⟨b, off + i * 3 + 1, none⟩ = some (.int .i64 o.p) ∧ w'.cell? ⟨b, off + i * 3 + 2, none⟩ = some (.int .i64 o.id) from
        ⟨(World.cell?_of_block (a := ⟨b, off + i * 3, none⟩) (o'.block b hlt (fun h => h))).trans x0, (World.cell?_of_block (a := ⟨b, off + i * 3 + 1, none⟩) (o'.block b hlt (fun h => h))).trans x1, (World.cell?_of_block (a := ⟨b, off + i * 3 + 2, none⟩) (o'.block b hlt (fun h => h))).trans x2⟩)
      clear hc ho x0 x1 x2 hlt
      have HE : Hid (∃ T L, Gw W wr tb T (.slice aa i c) L ∧ L.length = i ∧ T.length ≤ i ∧ (∀ x ∈ L, (Lit.int .i64 x).wf = true) ∧ Only Nil W wr) := by
        obtain ⟨T, L, g, h1, h2, h3⟩ := H.out
        exact Lib.hid ⟨T, L, g, h1, h2, h3, g.st.only⟩
      obtain ⟨y0, y1, y2⟩ := HC.out wr (by obtain ⟨_, _, _, _, _, _, o⟩ := HE.out; exact o)
      have HF := Lib.hid (fun (w3 : World) (T : List Mb) (L : List Int) (g : Gw W w3 tb T (.slice aa i c) L) (hL : L.length = i) (hT : T.length ≤ i + 1) (hw : ∀ x ∈ L, (Lit.int .i64 x).wf = true) => show ∃ a' c' w5, Hid ((Builtin.append_ #[40, 40] 40 #[.slice aa i c, .slice (some ⟨w3.heap.size, 0, none⟩) 1 1]).run Try.prog (w3.alloc (.cells #[.int .i64 o.id] 3)) = .ok (.slice a' (i + 1) c') w5) ∧
          Hid (∃ T L, Gw W w5 tb T (.slice a' (i + 1) c') L ∧ L.length = i + 1 ∧ T.length ≤ i + 1 ∧ ∀ x ∈ L, (Lit.int .i64 x).wf = true) from by
        have hr := g.row.row
        obtain ⟨a', c', w5, hr5, hG⟩ := push hr hL o.id (by omega)
        exact ⟨a', c', w5, hr5, Lib.hid ⟨T, L ++ [o.id], g.grown hG, by simp [hL], hT, fun x hx => by
          rcases List.mem_append.1 hx with hx | hx
          · exact hw x hx
          · simp at hx; subst hx; exact o.ok⟩⟩)
      have pok := Lib.hid (And.intro o.pok o.ok)
      generalize hok : o.k = k at *
      clear hok
      cases k with
      | true =>
        have CT : Hid (Calls Try.prog 10 #[.pointer (some ⟨tb, 0, none⟩), .int .i64 o.id] wr fun e w' => ∃ r : Int, e = .returned (.int .i64 r) ∧ Only Nil W w' ∧ ∃ a' c' w5, Hid ((Builtin.append_ #[40, 40] 40 #[.slice aa i c, .slice (some ⟨w'.heap.size, 0, none⟩) 1 1]).run Try.prog (w'.alloc (.cells #[.int .i64 o.id] 3)) = .ok (.slice a' (i + 1) c') w5) ∧
            Hid (∃ T L, Gw W w5 tb T (.slice a' (i + 1) c') L ∧ L.length = i + 1 ∧ T.length ≤ i + 1 ∧ ∀ x ∈ L, (Lit.int .i64 x).wf = true)) := by
          obtain ⟨T, L, g, h1, h2, h3⟩ := H.out
          refine Lib.hid ((st_cut g.st o.id pok.out.2).mono fun e w' ⟨he, hst, ho⟩ => ⟨_, he, hst.only, HF.out w' _ L (g.turn hst ho) h1 (by have := cutT_le T o.id; omega) h3⟩)
        clear HE
        go_wp2_with (first
          | (go_at_call 10; (with_reducible refine CT.out.mono ?_); rintro e w3 ⟨r, rfl, o3, a', c', w5, hr5, H5⟩; obtain ⟨z0, z1, z2⟩ := HC.out w3 o3)
          | (at_builtin; refine Lib.wpList_append_run _ rfl (.tmp 42) (.tmp 48) 40 40 rfl _ _ rfl rfl _ _ hr5.out ?_))
        go_roundw
        case rel => exact ⟨i + 1, c', a', by omega, by omega, by go_num, rfl, H5⟩
        case measure => simp [intOf]; omega
      | false =>
        have AT : Hid (Calls Try.prog 12 #[.pointer (some ⟨tb, 0, none⟩), .int .i64 o.p, .int .i64 o.id] wr.drew fun e w' => ∃ r : Int, e = .returned (.int .i64 r) ∧ Only Nil W w' ∧ ∃ a' c' w5, Hid ((Builtin.append_ #[40, 40] 40 #[.slice aa i c, .slice (some ⟨w'.heap.size, 0, none⟩) 1 1]).run Try.prog (w'.alloc (.cells #[.int .i64 o.id] 3)) = .ok (.slice a' (i + 1) c') w5) ∧
            Hid (∃ T L, Gw W w5 tb T (.slice a' (i + 1) c') L ∧ L.length = i + 1 ∧ T.length ≤ i + 1 ∧ ∀ x ∈ L, (Lit.int .i64 x).wf = true)) := by
          obtain ⟨T, L, g, h1, h2, h3⟩ := H.out
          have g' := g.nil (Only.refl Nil wr).drew
          refine Lib.hid ((st_add g'.st o.p o.id pok.out.1 pok.out.2 (by omega)).mono fun e w' ⟨he, hst, ho⟩ => ⟨_, he, hst.only, HF.out w' _ L (g'.turn hst ho) h1 (by have := addT_le T o.p o.id; omega) h3⟩)
        clear HE
        go_wp2_with (fail)
        go_still_tail 11, (by kernel_rfl)
        change wpList _ _ _ _ _ wr.drew
        go_wp2_with (first
          | (go_at_call 12; (with_reducible refine AT.out.mono ?_); rintro e w3 ⟨r, rfl, o3, a', c', w5, hr5, H5⟩; obtain ⟨z0, z1, z2⟩ := HC.out w3 o3)
          | (at_builtin; refine Lib.wpList_append_run _ rfl (.tmp 42) (.tmp 48) 40 40 rfl _ _ rfl rfl _ _ hr5.out ?_))
        go_roundw
        case rel => exact ⟨i + 1, c', a', by omega, by omega, by go_num, rfl, H5⟩
        case measure => simp [intOf]; omega
    · have HE := Lib.hid (show ∃ T L, Gw W wr tb T (.slice aa i c) L ∧ L.length = i ∧ T.length ≤ 100 ∧ ∀ x ∈ L, (Lit.int .i64 x).wf = true from by
        obtain ⟨T, L, g, h1, h2, h3⟩ := H.out
        exact ⟨T, L, g, h1, by omega, h3⟩)
      rcases (show i = l ∨ (i < l ∧ i = 100) by omega) with rfl | ⟨h1, rfl⟩
      · have hk0 : ¬ (i : Int) < (i : Int) := by omega
        go_wp2_with (fail)
        go_ret2
        exact ⟨tb, i, c, aa, rfl, hi, HE⟩
      · have hk0 : (100 : Int) < (l : Int) := by omega
        have hk1 : ¬ (100 : Int) < 100 := by omega
        go_wp2_with (fail)
        go_ret2
        exact ⟨tb, 100, c, aa, rfl, by decide, HE⟩
end Go.Proofs.Ytkeaenkkencmdaa.Tr
