/-
  THE SPECIFICATION's l5hit.
-/
import Derived.Test.YtlhiadehohikdaaLateS
import Derived.Test.YtlhiadehohikdaaHitD
namespace Go.Proofs.Ytlhiadehohikdaa
open Go.RowKit
set_option linter.unusedVariables false

/-- Of what lay below H nothing has turned but block B. -/
structure Save (B H : Nat) (w w' : World) : Prop where
  os : w'.os = w.os
  tape : w'.tape = w.tape
  output : w'.output = w.output
  size : w.heap.size ≤ w'.heap.size
  block : ∀ k, k < H → k ≠ B → w'.heap[k]? = w.heap[k]?
theorem Save.refl (B H : Nat) (w : World) : Save B H w w := ⟨rfl, rfl, rfl, Nat.le_refl _, fun _ _ _ => rfl⟩
theorem Save.trans {B H : Nat} {a b c : World} (h : Save B H a b) (k : Save B H b c) : Save B H a c :=
  ⟨k.os.trans h.os, k.tape.trans h.tape, k.output.trans h.output, Nat.le_trans h.size k.size, fun i hi hn => (k.block i hi hn).trans (h.block i hi hn)⟩
theorem Save.of_below {B H : Nat} {w w' : World} (h : Below H w w') : Save B H w w' := ⟨h.os, h.tape, h.output, h.size, fun k hk _ => h.block k hk⟩
theorem Save.of_only {B H : Nat} {w w' : World} (h : Only B w w') (hH : H ≤ w.heap.size) : Save B H w w' := ⟨h.os, h.tape, h.output, h.size, fun k hk hn => h.block k (by omega) hn⟩
theorem Save.set {B H : Nat} {w w' : World} (h : Save B H w w') (o : Nat) (v : Value) : Save B H w (w'.setCell ⟨B, o, none⟩ v) :=
  ⟨h.os, h.tape, h.output, by simpa using h.size, fun k hk hn => (Below.heap_setCell w' ⟨B, o, none⟩ v k hn).trans (h.block k hk hn)⟩
theorem Save.drew {B H : Nat} {w w' : World} (h : Save B H w w') : Save B H w w'.drew := ⟨h.os, h.tape, h.output, h.size, h.block⟩
theorem PR.save {B H : Nat} {w w' : World} {a : Option Addr} {n : Nat} {f : Nat → Pk} (h : PR H w a n f) (hs : Save B H w w') (hB : ∀ b off, a = some ⟨b, off, none⟩ → b ≠ B) : PR H w' a n f := by
  rcases h with h | ⟨b, off, h1, h2, h3⟩
  · exact .inl h
  · refine .inr ⟨b, off, h1, h2, fun i hi => ?_⟩
    have e := hs.block b h2 (hB b off h1)
    obtain ⟨p0, p1, p2, p3, p4, p5⟩ := h3 i hi
    exact ⟨(World.cell?_of_block (w := w) e).trans p0, (World.cell?_of_block (w := w) e).trans p1, (World.cell?_of_block (w := w) e).trans p2, (World.cell?_of_block (w := w) e).trans p3, (World.cell?_of_block (w := w) e).trans p4, (World.cell?_of_block (w := w) e).trans p5⟩

theorem ownB {g n c k : Nat} (e : (Value.slice (some ⟨g, 0, none⟩) n c).ownBlock = some k) : g ≤ k := by
  simp [Value.ownBlock] at e
  omega

theorem po_at {base : Nat} {w : World} {x : Option Addr} {n k : Nat} {f : Nat → Pk} (h : PO base w x n k f) (hz : 0 < n) : ∃ g : Nat, x = some ⟨g, 0, none⟩ ∧ base ≤ g ∧ g < w.heap.size ∧ Own .i64 w g (n * 6) (flat f) := by
  rcases h.zi with h0 | ⟨g, h1, h2, h3, h4⟩
  · omega
  · exact ⟨g, h1, h2, h3, h4⟩

set_option maxHeartbeats 2000000 in
theorem l5hit_mark (B H : Nat) (a : Option Addr) (n cap : Nat) (f : Nat → Pk) (d : Value) (now : Int) (w : World) (hn : n ≤ 40) (hz : 0 < n) (hP : PR H w a n f) (hH : H ≤ w.heap.size) (he : (f 0).ecn ≠ 0) :
    Calls Try.prog 29 #[.pointer (some ⟨B, 0, none⟩), .slice a n cap, d, .int .i64 now] w fun e w' => ∃ (x : Option Addr) (k : Nat), e = .returned (.tuple #[.slice x n k, d, .bool false, .bool true]) ∧ PR w'.heap.size w' x n (markF f) ∧ n ≤ k ∧ (∀ b off, x = some ⟨b, off, none⟩ → w.heap.size ≤ b) ∧ Below w.heap.size w w' := by
  have hP' := hP.mono hH
  obtain ⟨b, off, rfl, hbl, hcs⟩ := PR.at hP' hz
  have p5 := (hcs 0 hz).2.2.2.2.2
  simp only [Nat.zero_mul, Nat.add_zero] at p5
  have HP : Hid (PR w.heap.size w (some ⟨b, off, none⟩) n f) := hP'
  clear hcs hP hP'
  have he' : ((f 0).ecn == 0) = false := by simpa using he
  have hni : (0 : Int) < (n : Int) := by omega
  go_enter Try.func29, Try.ntmps29
  go_wp2_with (at_builtin; refine wpList_append_pk rfl _ _ rfl w.heap.size _ rfl (pk_empty _ _ _ (Nat.le_refl _) (World.alloc_heap_new w _)) _ n cap f rfl ((PR.below HP.out ((Below.refl _ _).alloc (Nat.le_refl _) _)).mono (by simp)) (by omega) (by simp) ?_; intro x k w1 hpo hgr; have hcap := hpo.cap; obtain ⟨g, rfl, hg2, hg3, ho⟩ := po_at hpo hz; have q5 : w1.cell? ⟨g, 5, none⟩ = some (.int .i64 (f 0).ecn) := (ho.2 5 (by omega)).1; have q6 := (ho.2 5 (by omega)).2; have b1 : Below w.heap.size w w1 := ((Below.refl w.heap.size w).alloc (Nat.le_refl _) _).grown hgr (by simp) (fun _ e => ownB e))
  have om := own_mark ho hz
  refine bodyPost_ret (v := .tuple #[.slice (some ⟨g, 0, none⟩) n k, d, .bool false, .bool true]) (by simp [results, Try.results29, go_sem]) rfl ⟨_, k, rfl, ?_, hcap, fun b' off' e => by simp only [Option.some.injEq, Addr.mk.injEq] at e; omega, ?_⟩
  · exact ZI.pr (L := 0) (U := (w1.setCell ⟨g, 5, none⟩ (.int .i64 3)).heap.size) (.inr ⟨g, rfl, Nat.zero_le _, om.1, om⟩)
  · exact b1.setCell hg2 _

set_option maxHeartbeats 4000000 in
theorem l5hit_drop (c : Cd) (B H : Nat) (t : TypeId) (a : Option Addr) (n cap : Nat) (f : Nat → Pk) (x : Option Addr) (m cp : Nat) (g : Nat → Pk) (now : Int) (w : World) (hs : Sits w B (cdCells c) t) (hB : B < H) (hH : H ≤ w.heap.size) (hn : n ≤ 40) (hz : 0 < n) (hnc : n ≤ cap) (hm : m ≤ 1048575) (hP : PR H w a n f) (Pb : Nat → Prop) (hPb : ∀ b, Pb b → b ≠ B) (hab : ∀ b off, a = some ⟨b, off, none⟩ → Pb b) (hd : PO H w x m cp g) (he : (f 0).ecn = 0) (hall : ∀ j, j < n → (f j).good = true) (hg : c.good = true) (n0 : 0 ≤ now) (n1 : now ≤ 1000000000000) :
    Calls Try.prog 29 #[.pointer (some ⟨B, 0, none⟩), .slice a n cap, .slice x m cp, .int .i64 now] w fun e w' => ∃ (a' : Option Addr) (y : Option Addr) (l : Nat), e = .returned (.tuple #[.slice a' (n - 1) (cap - 1), .slice y (m + 1) l, .bool (lateB c (popF f) (n - 1) now), .bool false]) ∧ Sits w' B (cdCells (lateC c (popF f) (n - 1) now)) t ∧ PR H w' a' (n - 1) (popF f) ∧ (∀ b off, a' = some ⟨b, off, none⟩ → Pb b) ∧ PO H w' y (m + 1) l (putAt g m (f 0)) ∧ Save B H w w' := by
  obtain ⟨b, off, rfl, hbl, hcs⟩ := PR.at hP hz
  obtain ⟨p0, p1, p2, p3, p4, p5⟩ := hcs 0 hz
  simp only [Nat.zero_mul, Nat.add_zero] at p0 p1 p2 p3 p4 p5
  have HP : Hid (PR H w (some ⟨b, off, none⟩) n f) := hP
  have HD : Hid (PO H w x m cp g) := hd
  have HS : Hid (Sits w B (cdCells c) t) := hs
  have HC : Hid (∀ i, i < n → PAt w b (off + i * 6) (f i)) := hcs
  have HA : Hid (∀ j, j < n → (f j).good = true) := hall
  have HPb : Hid (Pb b) := hab b off rfl
  have hbB := hPb b HPb.out
  clear hcs hP hd hs hall hab
  have he' : ((f 0).ecn == 0) = true := by simpa using he
  have HEc : Hid ((f 0).ecn = 0) := he
  clear he
  have hni : (0 : Int) < (n : Int) := by omega
  have hn1 : (1 : Int) ≤ (n : Int) := by omega
  by_cases hc1 : cap = 1
  · obtain rfl : n = 1 := by omega
    subst hc1
    go_enter Try.func29, Try.ntmps29
    go_wp2_with (first | (at_builtin; refine wpList_append_pk1 rfl _ _ rfl H x m cp g rfl (PO.below HD.out ((Below.refl _ _).alloc (Nat.le_refl _) _)) w.heap.size (f 0) rfl (Lies.pk (Lies.new w (pkCells (f 0)) _)) (by omega) (by simp; omega) ?_; intro g' cap' w1 hbo hgrow hat hlt1; have bb : Below H w w1 := ((Below.refl H w).alloc hH _).grown hgrow (by simp; omega) (fun k e => (PO.own_lt HD.out k e).1); have s1 : Sits w1 B (cdCells c) t := (bb.block B hB).trans HS.out; have hPt : PR H w1 (some ⟨b, off, none⟩) 0 (popF f) := (.inl rfl); have bbs := bb.size; clear hgrow hat) | (go_at_call 28; refine (l5late_any c B t (some ⟨b, off, none⟩) 0 0 (popF f) now w1 s1 (by omega) (hPt.mono (by omega)) (fun j hj => HA.out (j + 1) (by omega)) hg n0 n1).mono ?_; rintro e w2 ⟨rfl, s2, o2⟩))
    refine bodyPost_ret (v := .tuple #[.slice (some ⟨b, off, none⟩) 0 0, .slice (some ⟨g', 0, none⟩) (m + 1) cap', .bool (lateB c (popF f) 0 now), .bool false]) (by simp [results, Try.results29, go_sem]) rfl ⟨_, _, cap', rfl, s2, ?_, ?_, ?_, ?_⟩
    · exact hPt.save (Save.of_only o2 (by omega)) (fun b' off' e => by simp only [Option.some.injEq, Addr.mk.injEq] at e; omega)
    · exact (fun b' off' e => by simp only [Option.some.injEq, Addr.mk.injEq] at e; rw [← e.1]; exact HPb.out)
    · exact hbo.keep fun k hk hk2 => o2.block k hk2 (by omega)
    · exact (Save.of_below bb).trans (Save.of_only o2 (by omega))
  · have hc2 : ¬ cap - 1 = 0 := by omega
    have hc3 : (1 : Int) ≤ (cap : Int) := by omega
    go_enter Try.func29, Try.ntmps29
    go_wp2_with (first | (at_builtin; refine wpList_append_pk1 rfl _ _ rfl H x m cp g rfl (PO.below HD.out ((Below.refl _ _).alloc (Nat.le_refl _) _)) w.heap.size (f 0) rfl (Lies.pk (Lies.new w (pkCells (f 0)) _)) (by omega) (by simp; omega) ?_; intro g' cap' w1 hbo hgrow hat hlt1; have bb : Below H w w1 := ((Below.refl H w).alloc hH _).grown hgrow (by simp; omega) (fun k e => (PO.own_lt HD.out k e).1); have s1 : Sits w1 B (cdCells c) t := (bb.block B hB).trans HS.out; have hPt : PR H w1 (some ⟨b, off + 6, none⟩) (n - 1) (popF f) := PR.tail (fun i hi => PAt.below (HC.out i hi) bb hbl) hbl; have bbs := bb.size; clear hgrow hat) | (go_at_call 28; refine (l5late_any c B t (some ⟨b, off + 6, none⟩) (n - 1) (cap - 1) (popF f) now w1 s1 (by omega) (hPt.mono (by omega)) (fun j hj => HA.out (j + 1) (by omega)) hg n0 n1).mono ?_; rintro e w2 ⟨rfl, s2, o2⟩))
    refine bodyPost_ret (v := .tuple #[.slice (some ⟨b, off + 6, none⟩) (n - 1) (cap - 1), .slice (some ⟨g', 0, none⟩) (m + 1) cap', .bool (lateB c (popF f) (n - 1) now), .bool false]) (by simp [results, Try.results29, go_sem]) rfl ⟨_, _, cap', rfl, s2, ?_, ?_, ?_, ?_⟩
    · exact hPt.save (Save.of_only o2 (by omega)) (fun b' off' e => by simp only [Option.some.injEq, Addr.mk.injEq] at e; omega)
    · exact (fun b' off' e => by simp only [Option.some.injEq, Addr.mk.injEq] at e; rw [← e.1]; exact HPb.out)
    · exact hbo.keep fun k hk hk2 => o2.block k hk2 (by omega)
    · exact (Save.of_below bb).trans (Save.of_only o2 (by omega))

end Go.Proofs.Ytlhiadehohikdaa
