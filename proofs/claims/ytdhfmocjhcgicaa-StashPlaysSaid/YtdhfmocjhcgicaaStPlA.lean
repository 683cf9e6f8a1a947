/- stash: the line and the document's, side by side. -/
import Derived.Test.YtdhfmocjhcgicaaStI
import Derived.Deep.RegionWith
import Derived.Deep.DeepCutAuto
import Derived.Deep.CutBlock
namespace Go.Proofs.Ytdhfmocjhcgicaa.St
open Go.RowKit Go.Proofs.Ytdhfmocjhcgicaa

/-- World w holds, at hb, a line of A and F, and in block rb the document's of C and D; all is newer than w0; nothing that there was in w0 has turned. -/
structure Two (w0 w : World) (S : Nat → Prop) (hb rb k : Nat) (va vf : Value) (A F C D : List Int) : Prop where
  line : At w S hb k A F
  new : ∀ q, S q → w0.heap.size ≤ q
  only : Only Nil w0 w
  box : w.heap[rb]? = some (.cells #[.int .i64 (k : Int), va, vf] 28 (0, 0))
  nb : ¬ S rb
  low : w0.heap.size ≤ rb
  ra : Row w va C
  na : ∀ g, some g = va.ownBlock → ¬ S g
  rf : Row w vf D
  nf : ∀ g, some g = vf.ownBlock → ¬ S g
theorem oc_alloc {W w' : World} (o : Only Nil (W.alloc (.cells #[.int .i64 0, .slice none 0 0, .slice none 0 0] 28)) w') : OC W.heap.size w' := by
  have e := (o.block _ (by simp) (fun h => h)).trans (heap_new W _)
  exact ⟨by simp [World.cell?, e], by simp [World.cell?, e], by simp [World.cell?, e], by simp [World.frozen?, e], by simp [World.frozen?, e], by simp [World.frozen?, e], lt_of_block e⟩
section
variable {w0 w w1 : World} {S : Nat → Prop} {hb rb nb k : Nat} {va vf va' vf' : Value} {A F C D A' F' C' D' : List Int}
theorem Two.nil (h : Two w0 w S hb rb k va vf A F C D) (o : Only Nil w w1) : Two w0 w1 S hb rb k va vf A F C D :=
  ⟨h.line.nil o, h.new, h.only.trans o, (o.block _ (lt_of_block h.box) (fun h => h)).trans h.box, h.nb, h.low, h.ra.nil o, h.na, h.rf.nil o, h.nf⟩
theorem Two.bc (h : Two w0 w S hb rb k va vf A F C D) : BC rb (.int .i64 (k : Int)) va vf w := ⟨by simp [World.cell?, h.box], by simp [World.cell?, h.box], by simp [World.cell?, h.box]⟩
theorem Two.fz (h : Two w0 w S hb rb k va vf A F C D) : w.frozen? ⟨rb, 0, none⟩ = false ∧ w.frozen? ⟨rb, 1, none⟩ = false ∧ w.frozen? ⟨rb, 2, none⟩ = false ∧ rb < w.heap.size :=
  ⟨by simp [World.frozen?, h.box], by simp [World.frozen?, h.box], by simp [World.frozen?, h.box], lt_of_block h.box⟩
/-- The program has done something. -/
theorem Two.op (h : Two w0 w S hb rb k va vf A F C D) (a : At w1 (Plus S w w1) hb k A' F') (o : Only S w w1) : Two w0 w1 (Plus S w w1) hb rb k va vf A' F' C D := by
  have old : ∀ g, g < w.heap.size → ¬ S g → ¬ Plus S w w1 g := fun g hg hs hp => by
    rcases hp with hp | hp
    · exact hs hp
    · omega
  refine ⟨a, fun q hq => ?_, h.only.then o (fun q hq hlt => by have := h.new q hq; omega), (o.block _ (lt_of_block h.box) h.nb).trans h.box, old _ (lt_of_block h.box) h.nb, h.low, h.ra.keep o (fun g hg => h.na g hg), fun g hg => old g (h.ra.lt hg) (h.na g hg), h.rf.keep o (fun g hg => h.nf g hg), fun g hg => old g (h.rf.lt hg) (h.nf g hg)⟩
  rcases hq with hq | hq
  · exact h.new q hq
  · have := h.only.size; omega
/-- The document's is stored. -/
theorem Two.put (h : Two w0 w S hb rb k va vf A F C D) (o : Only Nil w w1) (ra : Row w1 va' C') (na : ∀ g, some g = va'.ownBlock → ¬ S g) (rf : Row w1 vf' D') (nf : ∀ g, some g = vf'.ownBlock → ¬ S g) :
    Two w0 (set3 w1 rb (.int .i64 (k : Int)) va' vf') S hb rb k va' vf' A F C' D' := by
  have h1 := h.nil o
  have os := set3_only (w := w1) (b := rb) (.int .i64 (k : Int)) va' vf'
  exact ⟨h1.line.keep os (fun q hq e => h.nb (e ▸ hq)), h.new, h1.only.then os (fun q hq hlt => by have := h.low; omega), set3_heap h1.box _ _ _, h.nb, h.low, ra.keep os (fun g hg e => ra.ne hg h1.box (by decide) e), na, rf.keep os (fun g hg e => rf.ne hg h1.box (by decide) e), nf⟩
theorem Two.forms (h : Two w0 w S hb rb k va vf A F C D) : (∃ a c, va = .slice a C.length c) ∧ (∃ a c, vf = .slice a D.length c) := ⟨h.ra.slice, h.rf.slice⟩
theorem fresh_new {X : List Int} {v : Value} {base : Nat} (h : Two w0 w S hb rb k va vf A F C D) (hb : w.heap.size ≤ base) (hr : RowB base w1 v X) : ∀ g, some g = v.ownBlock → ¬ S g :=
  fun g hg s => by have := hr.ge hg; have := h.line.lt g s; omega

/-- What comes next lies in block nb. -/
structure Mid (w0 w : World) (S : Nat → Prop) (hb rb nb k : Nat) (va vf va' vf' : Value) (A F C D C' D' : List Int) : Prop where
  two : Two w0 w S hb rb k va vf A F C D
  nx : w.heap[nb]? = some (.cells #[.int .i64 (k : Int), va', vf'] 28 (0, 0))
  ra : Row w va' C'
  na : ∀ g, some g = va'.ownBlock → ¬ S g
  rf : Row w vf' D'
  nf : ∀ g, some g = vf'.ownBlock → ¬ S g
theorem mid_alloc (h : Two w0 w S hb rb k va vf A F C D) (o : Only Nil w w1) (ra : Row w1 va' C') (na : ∀ g, some g = va'.ownBlock → ¬ S g) (rf : Row w1 vf' D') (nf : ∀ g, some g = vf'.ownBlock → ¬ S g) :
    Mid w0 (w1.alloc (.cells #[.int .i64 (k : Int), va', vf'] 28)) S hb rb w1.heap.size k va vf va' vf' A F C D C' D' := by
  have oA : Only Nil w1 (w1.alloc (.cells #[.int .i64 (k : Int), va', vf'] 28)) := (Only.refl Nil w1).alloc _
  exact ⟨h.nil (o.trans oA), heap_new w1 _, ra.nil oA, na, rf.nil oA, nf⟩
theorem mid_set (h : Two w0 w S hb rb k va vf A F C D) (o : Only Nil (w.alloc (.cells #[.int .i64 0, .slice none 0 0, .slice none 0 0] 28)) w1) (ra : Row w1 va' C') (na : ∀ g, some g = va'.ownBlock → ¬ S g) (rf : Row w1 vf' D') (nf : ∀ g, some g = vf'.ownBlock → ¬ S g) :
    Mid w0 (set3 w1 w.heap.size (.int .i64 (k : Int)) va' vf') S hb rb w.heap.size k va vf va' vf' A F C D C' D' := by
  have oA : Only Nil w w1 := ((Only.refl Nil w).alloc _).trans o
  have hn := (o.block _ (by simp) (fun h => h)).trans (heap_new w (.cells #[.int .i64 0, .slice none 0 0, .slice none 0 0] 28))
  have os := set3_only (w := w1) (b := w.heap.size) (.int .i64 (k : Int)) va' vf'
  exact ⟨h.nil (oA.then os (fun q hq hlt => by omega)), set3_heap hn _ _ _, ra.keep os (fun g hg e => ra.ne hg hn (by decide) e), na, rf.keep os (fun g hg e => rf.ne hg hn (by decide) e), nf⟩
theorem Mid.nc (h : Mid w0 w S hb rb nb k va vf va' vf' A F C D C' D') : BC nb (.int .i64 (k : Int)) va' vf' w := ⟨by simp [World.cell?, h.nx], by simp [World.cell?, h.nx], by simp [World.cell?, h.nx]⟩
theorem Mid.put (h : Mid w0 w S hb rb nb k va vf va' vf' A F C D C' D') : Two w0 (set3 w rb (.int .i64 (k : Int)) va' vf') S hb rb k va' vf' A F C' D' := h.two.put (Only.refl _ _) h.ra h.na h.rf h.nf

theorem two_stash (h : Two w0 w S hb rb k va vf A F A F) (id : Int) (few : A.length ≤ 40000) {m : Nat} (hm : m = (nx k A id).length) (o : Only Nil w w1) :
    Calls Try.prog 11 #[.agg #[.int .i64 (k : Int), va, vf], .int .u64 id] w1 fun e w' => ∃ x c, e = .returned (.tuple #[.agg #[.int .i64 (k : Int), .slice x m c, vf], .int .i64 (er k A)]) ∧
      Hid (Row w' (.slice x m c) (nx k A id) ∧ (∀ g, some g = (Value.slice x m c).ownBlock → ¬ S g) ∧ Only Nil w1 w') := by
  subst hm
  have hl := h.line.few
  have h1 := h.nil o
  obtain ⟨xf, cf, hf⟩ := h.rf.slice
  rcases er_cases k A id with ⟨e1, e2, e3⟩ | ⟨e1, e2, e3⟩
  · rw [e2, e3]
    obtain ⟨xa, ca, ha⟩ := h.ra.slice
    refine (rstash_full va vf ⟨xa, ca, ha⟩ ⟨xf, _, cf, hf⟩ id (by omega)).mono ?_
    rintro e w' ⟨rfl, o'⟩
    have r' := h1.ra.nil o'
    have na := h.na
    rw [ha] at r' na ⊢
    exact ⟨xa, ca, rfl, Lib.hid ⟨r', na, o'⟩⟩
  · rw [e2, e3]
    refine (rstash_ok h1.ra ⟨xf, _, cf, hf⟩ id (by omega) few).mono ?_
    rintro e w' ⟨va', rfl, hk⟩
    obtain ⟨k1, k2⟩ := hk.out
    obtain ⟨x, c, rfl⟩ := k1.slice
    exact ⟨x, c, rfl, Lib.hid ⟨k1.row, fresh_new h o.size k1, k2⟩⟩
theorem two_op_stash (h : Two w0 w S hb rb k va vf A F C D) (id : Int) : Calls Try.prog 12 #[.pointer (some ⟨hb, 0, none⟩), .int .u64 id] w fun e w' => e = .returned (.int .i64 (er k A)) ∧ Hid (∃ S', Two w0 w' S' hb rb k va vf (nx k A id) F C D) :=
  (stash_any h.line id).mono fun _ _ ⟨he, hk⟩ => ⟨he, Lib.hid ⟨_, h.op hk.out.1 hk.out.2⟩⟩
theorem two_op_unstash (h : Two w0 w S hb rb k va vf A F C D) (few : F.length ≤ 50000) : Calls Try.prog 13 #[.pointer (some ⟨hb, 0, none⟩)] w fun e w' => e = .returned (.int .i64 (A.length : Nat)) ∧ Hid (∃ S', Two w0 w' S' hb rb k va vf [] (A ++ F) C D) :=
  (unstash_any h.line few).mono fun _ _ ⟨he, hk⟩ => ⟨he, Lib.hid ⟨_, h.op hk.out.1 hk.out.2⟩⟩
theorem two_op_some {x : Int} (h : Two w0 w S hb rb k va vf A (x :: F) C D) (few : F.length ≤ 50000) : Calls Try.prog 15 #[.pointer (some ⟨hb, 0, none⟩)] w fun e w' => e = .returned (.tuple #[.int .u64 x, .bool true]) ∧ Hid (∃ S', Two w0 w' S' hb rb k va vf A F C D) :=
  (next_some h.line few).mono fun _ _ ⟨he, hk⟩ => ⟨he, Lib.hid ⟨_, h.op hk.out.1 hk.out.2⟩⟩
theorem two_op_clear (h : Two w0 w S hb rb k va vf A F C D) (few : F.length ≤ 50000) : Calls Try.prog 18 #[.pointer (some ⟨hb, 0, none⟩)] w fun e w' => ∃ v', e = .returned v' ∧ Hid (Row w' v' (F ++ A) ∧ (∀ g, some g = v'.ownBlock → ¬ S g) ∧ Two w0 w' S hb rb k va vf [] [] C D) := by
  refine (clear_any h.line few).mono ?_
  rintro e w' ⟨v', rfl, hk⟩
  obtain ⟨k1, k2, k3, k4⟩ := hk.out
  exact ⟨v', rfl, Lib.hid ⟨k1.row, k2, ⟨k3, h.new, h.only.then k4 (fun q hq hlt => by have := h.new q hq; omega), (k4.block _ (lt_of_block h.box) h.nb).trans h.box, h.nb, h.low, h.ra.keep k4 (fun g hg => h.na g hg), h.na, h.rf.keep k4 (fun g hg => h.nf g hg), h.nf⟩⟩⟩
/-- The document's Unstash, and its answer stored. -/
theorem two_unstash (h : Two w0 w S hb rb k va vf A F C D) (few : C.length + D.length ≤ 50000) : Calls Try.prog 14 #[.agg #[.int .i64 (k : Int), va, vf]] w fun e w' => ∃ x l c, e = .returned (.agg #[.int .i64 (k : Int), .slice none 0 0, .slice x l c]) ∧ BC rb (.int .i64 (k : Int)) va vf w' ∧ (w'.frozen? ⟨rb, 0, none⟩ = false ∧ w'.frozen? ⟨rb, 1, none⟩ = false ∧ w'.frozen? ⟨rb, 2, none⟩ = false ∧ rb < w'.heap.size) ∧
    Hid (Two w0 (set3 w' rb (.int .i64 (k : Int)) (.slice none 0 0) (.slice x l c)) S hb rb k (.slice none 0 0) (.slice x l c) A F [] (C ++ D)) := by
  refine (runstash_any h.ra h.rf few).mono ?_
  rintro e w' ⟨vf', rfl, hk⟩
  obtain ⟨k1, k2⟩ := hk.out
  obtain ⟨x, c, rfl⟩ := k1.slice
  exact ⟨x, _, c, rfl, (h.nil k2).bc, (h.nil k2).fz, Lib.hid (h.put k2 (Row.none _) (fun g hg => by simp [Value.ownBlock] at hg) k1.row (fresh_new h (Nat.le_refl _) k1))⟩
/-- The document's Next. -/
theorem two_none (h : Two w0 w S hb rb k va vf A F C []) : Calls Try.prog 16 #[.agg #[.int .i64 (k : Int), va, vf]] w fun e w' => e = .returned (.tuple #[.agg #[.int .i64 (k : Int), va, vf], .int .u64 0, .bool false]) ∧ Hid (Mid w0 (w'.alloc (.cells #[.int .i64 (k : Int), va, vf] 28)) S hb rb w'.heap.size k va vf va vf A F C [] C []) := by
  obtain ⟨xa, ca, ha⟩ := h.ra.slice
  obtain ⟨xf, cf, hf⟩ := h.rf.slice
  refine (rnext_none va vf ⟨xa, _, ca, ha⟩ ⟨xf, cf, hf⟩).mono ?_
  rintro e w' ⟨rfl, o⟩
  exact ⟨rfl, Lib.hid (mid_alloc h o (h.ra.nil o) h.na (h.rf.nil o) h.nf)⟩
theorem two_some {x : Int} (h : Two w0 w S hb rb k va vf A F C (x :: D)) (few : D.length ≤ 40000) : Calls Try.prog 16 #[.agg #[.int .i64 (k : Int), va, vf]] w fun e w' => ∃ y l c, e = .returned (.tuple #[.agg #[.int .i64 (k : Int), va, .slice y l c], .int .u64 x, .bool true]) ∧
    Hid (Mid w0 (w'.alloc (.cells #[.int .i64 (k : Int), va, .slice y l c] 28)) S hb rb w'.heap.size k va vf va (.slice y l c) A F C (x :: D) C D) := by
  obtain ⟨xa, ca, ha⟩ := h.ra.slice
  refine (rnext_some ⟨xa, _, ca, ha⟩ h.rf few).mono ?_
  rintro e w' ⟨vf', rfl, hk⟩
  obtain ⟨k1, k2⟩ := hk.out
  obtain ⟨y, c, rfl⟩ := k1.slice
  exact ⟨y, _, c, rfl, Lib.hid (mid_alloc h k2 (h.ra.nil k2) h.na k1.row (fresh_new h (Nat.le_refl _) k1))⟩
/-- The document's New, and its answer stored. -/
theorem two_new (h : Two w0 w S hb rb k va vf A F C D) (o : Only Nil w w1) : Two w0 (set3 w1 rb (.int .i64 (k : Int)) (.slice none 0 0) (.slice none 0 0)) S hb rb k (.slice none 0 0) (.slice none 0 0) A F [] [] :=
  h.put o (Row.none _) (fun g hg => by simp [Value.ownBlock] at hg) (Row.none _) (fun g hg => by simp [Value.ownBlock] at hg)
end
end Go.Proofs.Ytdhfmocjhcgicaa.St
