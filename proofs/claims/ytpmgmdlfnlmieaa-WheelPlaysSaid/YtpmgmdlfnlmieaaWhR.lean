/- wheel: Cut. -/
import Derived.Test.YtpmgmdlfnlmieaaWhQ
namespace Go.Proofs.Ytpmgmdlfnlmieaa.Wh
open Go.RowKit Go.Proofs.Ytpmgmdlfnlmieaa

/-- L without the timer of that id. -/
def cut (L : List Tm) (x : Nat) : List Tm := L.filter fun s => !(s.id == x)
theorem erase_eq : ∀ (M : List Tm) (i : Nat) (t : Tm), (M.map (·.id)).Nodup → i < M.length → M.getD i default = t → M.eraseIdx i = cut M t.id := by
  intro M
  induction M with
  | nil => intro i t _ hi; simp at hi
  | cons a M ih =>
    intro i t hn hi ht
    rw [List.map_cons, List.nodup_cons] at hn
    cases i with
    | zero =>
      have e : a = t := by simpa using ht
      subst e
      unfold cut
      rw [List.eraseIdx_cons_zero, List.filter_cons, show (!(a.id == a.id)) = false by simp, if_neg (by simp)]
      symm
      rw [List.filter_eq_self]
      intro s hs
      have : s.id ≠ a.id := fun e => hn.1 (List.mem_map.2 ⟨s, hs, e⟩)
      simp [this]
    | succ i =>
      have hi' : i < M.length := by simpa using hi
      have ht' : M.getD i default = t := by simpa using ht
      have hm : t ∈ M := by
        have e : M.getD i default = M[i] := by simp [hi']
        rw [← ht', e]; exact List.getElem_mem hi'
      have hne : (a.id == t.id) = false := beq_eq_false_iff_ne.2 (fun e => hn.1 (List.mem_map.2 ⟨t, hm, e.symm⟩))
      unfold cut
      rw [List.eraseIdx_cons_succ, List.filter_cons, hne, Bool.not_false, if_pos rfl, ih i t hn.2 hi' ht']
      rfl
theorem Good.sub {now added : Nat} {L M : List Tm} (g : Good now added L) (h : M.Sublist L) : Good now added M :=
  ⟨fun t ht => g.time t (h.subset ht), Nat.le_trans h.length_le g.few, (h.map _).nodup g.apart, g.order.sublist h, fun t ht => g.old t (h.subset ht), fun t ht => g.small t (h.subset ht), g.now⟩
theorem cut_sub (L : List Tm) (x : Nat) : (cut L x).Sublist L := List.filter_sublist
theorem slots_cut (now : Nat) (L : List Tm) (x m : Nat) : slots now (cut L x) m = cut (slots now L m) x := by
  unfold slots cut
  rw [List.filter_filter, List.filter_filter]
  exact filter_ext fun t _ => Bool.and_comm _ _
theorem cut_none {M : List Tm} {x : Nat} (h : ∀ t ∈ M, t.id ≠ x) : cut M x = M := by
  unfold cut
  rw [List.filter_eq_self]
  intro t ht
  simp [h t ht]
theorem slots_erase {now : Nat} {L : List Tm} (hn : (L.map (·.id)).Nodup) (t : Tm) (ht : t ∈ L) (i : Nat) (hi : i < (slots now L (spot now t.due)).length) (hit : (slots now L (spot now t.due)).getD i default = t) :
    upd (slots now L) (spot now t.due) ((slots now L (spot now t.due)).eraseIdx i) = slots now (cut L t.id) := by
  funext m
  rw [slots_cut]
  unfold upd
  by_cases e : m = spot now t.due
  · rw [if_pos e, e]
    exact erase_eq _ i t ((List.filter_sublist.map _).nodup hn) hi hit
  · rw [if_neg e, cut_none]
    intro s hs hid
    have hs' := List.mem_filter.1 hs
    have : s = t := nodup_id hn hs'.1 ht hid
    subst this
    exact e (by simpa using hs'.2 : spot now s.due = m).symm

theorem cut_no {w : World} {S : Nat → Prop} {hb now added : Nat} {L : List Tm} (h : Wl w S hb now added L) (g : Good now added L) (id : Nat) (hid : ∀ t ∈ L, t.id ≠ id) :
    Calls Try.prog 14 #[.pointer (some ⟨hb, 0, none⟩), .int .u64 (id : Int)] w fun e w' => e = .returned (.bool false) ∧ Only Nil w w' := by
  have hf := Lib.hid (find_no h g id hid)
  unfold FRes at hf
  clear h g hid
  go_enter Try.func14, Try.ntmps14
  go_wp2_with (go_at_call 26; (with_reducible refine hf.out.mono ?_); rintro e w1 ⟨rfl, o1⟩; have q1 := Lib.hid o1; clear o1)
  go_ret
  exact ⟨rfl, (q1.out.alloc _).alloc _⟩

set_option maxRecDepth 100000 in
set_option maxHeartbeats 4000000 in
theorem cut_yes {w : World} {S : Nat → Prop} {hb now added : Nat} {L : List Tm} (h : Wl w S hb now added L) (g : Good now added L) (t : Tm) (ht : t ∈ L) :
    Calls Try.prog 14 #[.pointer (some ⟨hb, 0, none⟩), .int .u64 (t.id : Int)] w fun e w' => e = .returned (.bool true) ∧ Wl w' (Plus S w w') hb now added (cut L t.id) ∧ Only S w w' := by
  have hf := Lib.hid (find_yes h g t ht)
  have her := Lib.hid (fun i h1 h2 => slots_erase (now := now) g.apart t ht i h1 h2)
  have hsp : spot now t.due = 8 * lev now t.due + dig t.due (lev now t.due) := rfl
  have hl3 := lev_le now t.due
  have hd8 := dig_lt t.due (lev now t.due)
  have hfew := Lib.hid (fun n => show (slots now L n).length ≤ 64 from Nat.le_trans (List.length_filter_le _ _) g.few)
  have hh := Lib.hid h
  unfold FRes at hf
  generalize hL : lev now t.due = l at *
  generalize hD : dig t.due l = d at *
  clear hL hD
  rw [hsp] at hf her
  have hlt := Lib.hid (show 8 * l + d < 32 by omega)
  clear h g ht hsp
  have hl3' : (l : Int) ≤ 3 := by omega
  have hd8' : (d : Int) < 8 := by omega
  generalize hid0 : t.id = x0 at *
  clear hid0
  go_enter Try.func14, Try.ntmps14
  go_wp2_with (go_at_call 26; (with_reducible refine hf.out.mono ?_); rintro e w1 ⟨i, rfl, hi, o1⟩; have q1 := Lib.hid o1; have hi' := Lib.hid hi; clear o1 hi)
  obtain ⟨wa, hwa⟩ : ∃ wa, wa = (w1.alloc (.cells #[.int .i64 (l : Int), .int .i64 (d : Int), .int .i64 (i : Int)] 65)).alloc (.cells #[.int .u64 (x0 : Int), .int .i64 (t.due : Int), .int .i64 (t.num : Int)] 67) := ⟨_, rfl⟩
  have oa := Lib.hid (show Only Nil w wa by rw [hwa]; exact (q1.out.alloc _).alloc _)
  have hpl : wa.heap[w1.heap.size]? = some (.cells #[.int .i64 (l : Int), .int .i64 (d : Int), .int .i64 (i : Int)] 65 (0, 0)) := by
    rw [hwa, Below.heap_alloc _ _ _ (by simp)]; exact heap_new w1 _
  rw [← hwa]
  clear hwa
  generalize w1.heap.size = B at *
  have p0 : wa.cell? ⟨B, 0, none⟩ = some (.int .i64 (l : Int)) := by simp [World.cell?, hpl]
  have p1 : wa.cell? ⟨B, 1, none⟩ = some (.int .i64 (d : Int)) := by simp [World.cell?, hpl]
  have hpl' := Lib.hid hpl
  clear hpl
  go_quiet (fail)
  obtain ⟨wb, hwb⟩ : ∃ wb, wb = wa.drewN nq := ⟨_, rfl⟩
  have ob := Lib.hid (show Only Nil w wb by rw [hwb]; exact oa.out.drewN nq)
  have p2 : wb.cell? ⟨B, 2, none⟩ = some (.int .i64 (i : Int)) := by rw [hwb]; have := hpl'.out; show wa.cell? _ = _; simp [World.cell?, this]
  rw [← hwb]
  clear hwb p0 p1 oa hpl' q1 hf
  obtain ⟨V, hV⟩ := hh.out.nil ob.out
  obtain ⟨n, hn⟩ : ∃ n, n = 8 * l + d := ⟨_, rfl⟩
  rw [← hn] at her hi' hlt
  have hF := Lib.hid (her.out i hi'.out.1 hi'.out.2)
  have hil := hi'.out.1
  have hfl := hfew.out n
  obtain ⟨a, c, hv⟩ := own_slice_n (hV.row n hlt.out)
  have hown := hV.row n hlt.out
  rw [hv] at hown
  have cs : wb.cell? ⟨hb, 2 + l * 8 + d, none⟩ = some (V n) := by rw [show 2 + l * 8 + d = n + 2 by omega]; exact hV.cs _ hlt.out
  have fz : wb.frozen? ⟨hb, 2 + l * 8 + d, none⟩ = false := hV.fz _
  have hlb : hb < wb.heap.size := hV.lt_hb
  rw [hv] at cs
  obtain ⟨gb, rfl⟩ : ∃ g, a = some ⟨g, 0, none⟩ := by
    obtain ⟨g, hg, _⟩ := own_tin hown i hil
    exact ⟨g, hg⟩
  have en : 2 + l * 8 + d = n + 2 := by omega
  have hgb : gb ≠ hb := (hV.own n gb hlt.out (by rw [hv]; rfl)).2
  have hdel := delete_any (w := wb.drew) hown (by omega) i hil
  generalize hFn : slots now L n = Fn at *
  have hcw : ∀ w5, w5.ownsRow 0 67 3 (.slice (some ⟨gb, 0, none⟩) (Fn.length - 1) c) (Fn.length - 1) (tms (Fn.eraseIdx i)) → Only (fun q => q = gb) wb.drew w5 →
      (w5.cell? ⟨hb, 2 + l * 8 + d, none⟩ = some (.slice (some ⟨gb, 0, none⟩) Fn.length c) ∧ w5.frozen? ⟨hb, 2 + l * 8 + d, none⟩ = false ∧ hb < w5.heap.size) ∧
      Hid (Wl (w5.setCell ⟨hb, 2 + l * 8 + d, none⟩ (.slice (some ⟨gb, 0, none⟩) (Fn.length - 1) c)) (Plus S w (w5.setCell ⟨hb, 2 + l * 8 + d, none⟩ (.slice (some ⟨gb, 0, none⟩) (Fn.length - 1) c))) hb now added (cut L x0) ∧ Only S w (w5.setCell ⟨hb, 2 + l * 8 + d, none⟩ (.slice (some ⟨gb, 0, none⟩) (Fn.length - 1) c))) := by
    intro w5 ho hon
    have hhead : w5.heap[hb]? = wb.heap[hb]? := hon.block hb hlb (fun h => hgb h.symm)
    refine ⟨⟨(World.cell?_of_block (a := ⟨hb, 2 + l * 8 + d, none⟩) hhead).trans cs, (World.frozen?_of_block (a := ⟨hb, 2 + l * 8 + d, none⟩) hhead).trans fz, Nat.lt_of_lt_of_le hlb hon.size⟩, Lib.hid ?_⟩
    have hsl := hV.slot (X := wb.drew) ((Only.refl Nil wb).drew) hlt.out hv ho (hon.mono (fun q hq => ⟨_, rfl, hq⟩)) (fun x hx => .inl ⟨x, hx, rfl⟩)
    rw [← en] at hsl
    refine ⟨⟨upd V n (.slice (some ⟨gb, 0, none⟩) (Fn.length - 1) c), ?_⟩, (ob.out.nilTo S).trans hsl.2⟩
    have hF' := hF.out
    rw [← hF']
    exact hsl.1.plus (fun k hk => Nat.lt_of_lt_of_le (hh.out.lt k hk) ob.out.size) ob.out.size hsl.2.size
  have hdel' := Lib.hid hdel
  have hcw' := Lib.hid hcw
  have hil' : (i : Int) < 64 := by omega
  have hw1 : IntKind.i64.wrap ((i : Int) + 1) = (i : Int) + 1 := by rw [IntKind.wrap_i64]; omega
  have hfl' := Lib.hid hfl
  clear hown hdel hcw hv hV hil hFn hF hi' en hgb hfew her hn hfl
  generalize Fn.length = m at *
  generalize Fn.eraseIdx i = Fe at *
  go_wp2
  go_region_with (go_at_call 28; (with_reducible refine hdel'.out.mono ?_); rintro e w5 ⟨rfl, ho5, hon5⟩; obtain ⟨⟨d1, d2, d3⟩, fin⟩ := hcw'.out _ ho5 hon5; clear ho5 hon5)
  all_goals
    go_wp2
    go_ret
    exact ⟨rfl, fin.out.1, fin.out.2⟩

theorem Good.cut {now added : Nat} {L : List Tm} (g : Good now added L) (x : Nat) : Good now added (cut L x) := g.sub (cut_sub L x)
theorem mine_cut_no {w0 w : World} {hb now added : Nat} {L : List Tm} (h : Mine w0 w hb now added L) (id : Nat) (hid : ∀ t ∈ L, t.id ≠ id) :
    Calls Try.prog 14 #[.pointer (some ⟨hb, 0, none⟩), .int .u64 (id : Int)] w fun e w' => e = .returned (.bool false) ∧ Mine w0 w' hb now added L := by
  obtain ⟨S, h1, h2, h3, h4⟩ := h
  exact (cut_no h1 h4 id hid).mono fun e w' ⟨he, o⟩ => ⟨he, S, h1.nil o, h2, h3.trans o, h4⟩
theorem mine_cut_yes {w0 w : World} {hb now added : Nat} {L : List Tm} (h : Mine w0 w hb now added L) (t : Tm) (ht : t ∈ L) :
    Calls Try.prog 14 #[.pointer (some ⟨hb, 0, none⟩), .int .u64 (t.id : Int)] w fun e w' => e = .returned (.bool true) ∧ Mine w0 w' hb now added (cut L t.id) := by
  obtain ⟨S, k1, k2, k3, k4⟩ := h
  exact (cut_yes k1 k4 t ht).mono fun e w' ⟨he, h', o⟩ => ⟨he, Plus S w w', h', fun k hk => by
    rcases hk with hk | hk
    · exact k2 k hk
    · have := k3.size; omega, k3.then o (fun k hk hlt => by have := k2 k hk; omega), k4.cut t.id⟩
end Go.Proofs.Ytpmgmdlfnlmieaa.Wh
