/- Merged: PoB. -/
import Derived.Test.YtbfogkcnfnjcaaaGreatTt20
import Derived.Deep.AppendLies
import Derived.Shelf.Strings.Builder1
namespace Go.Proofs.YtbfogkcnfnjcaaaGreat.Po
open Go.Proofs Go.RowKit Go.Shelf
open Go.Proofs.YtbfogkcnfnjcaaaGreat.Utf
open Go.Proofs.YtbfogkcnfnjcaaaGreat.Sc
open Go.Proofs.YtbfogkcnfnjcaaaGreat.Em

def bRen : Ren where
  f := fun k => if k = 166 then 48 else if k = 167 then 47 else if k = 169 then 49 else if k = 240 then 61 else 84
  t := fun k => if k = 0 then 0 else if k = 3 then 3 else if k = 4 then 4 else if k = 5 then 5 else if k = 9 then 9 else if k = 20 then 20 else if k = 37 then 80 else if k = 70 then 82 else if k = 72 then 84 else if k = 75 then 86 else if k = 80 then 90 else if k = 127 then 106 else 125
  g := fun k => k
set_option maxRecDepth 100000 in
theorem bLays167 : Lays.n167 Tryz.prog bRen where
  mixed := by kernel_rfl
  f167 := Tryz.func47.trans (congrArg some (by kernel_rfl))
  f240 := Tryz.func61.trans (congrArg some (by kernel_rfl))
  f276 := Tryz.func84.trans (congrArg some (by kernel_rfl))
  t0 := by kernel_rfl
  a0 := fun _ => by kernel_rfl
  z0 := fun _ => by kernel_rfl
  v0 := fun _ => by kernel_rfl
  t4 := by kernel_rfl
  a4 := fun _ => by kernel_rfl
  z4 := fun _ => by kernel_rfl
  v4 := fun _ => by kernel_rfl
  t5 := by kernel_rfl
  a5 := fun _ => by kernel_rfl
  z5 := fun _ => by kernel_rfl
  v5 := fun _ => by kernel_rfl
  t9 := by kernel_rfl
  a9 := fun _ => by kernel_rfl
  z9 := fun _ => by kernel_rfl
  v9 := fun _ => by kernel_rfl
  t20 := by kernel_rfl
  a20 := fun _ => by kernel_rfl
  z20 := fun _ => by kernel_rfl
  v20 := fun _ => by kernel_rfl
  t37 := by kernel_rfl
  a37 := fun _ => by kernel_rfl
  z37 := fun _ => by kernel_rfl
  v37 := fun _ => by kernel_rfl
  t70 := by kernel_rfl
  a70 := fun _ => by kernel_rfl
  z70 := fun _ => by kernel_rfl
  v70 := fun _ => by kernel_rfl
  t72 := by kernel_rfl
  a72 := fun _ => by kernel_rfl
  z72 := fun _ => by kernel_rfl
  v72 := fun _ => by kernel_rfl
  t75 := by kernel_rfl
  a75 := fun _ => by kernel_rfl
  z75 := fun _ => by kernel_rfl
  v75 := fun _ => by kernel_rfl
  t164 := by kernel_rfl
  a164 := fun _ => by kernel_rfl
  z164 := fun _ => by kernel_rfl
  v164 := fun _ => by kernel_rfl
set_option maxRecDepth 100000 in
theorem bLays169 : Lays.n169 Tryz.prog bRen where
  mixed := by kernel_rfl
  f169 := Tryz.func49.trans (congrArg some (by kernel_rfl))
  t0 := by kernel_rfl
  a0 := fun _ => by kernel_rfl
  z0 := fun _ => by kernel_rfl
  v0 := fun _ => by kernel_rfl
  t3 := by kernel_rfl
  a3 := fun _ => by kernel_rfl
  z3 := fun _ => by kernel_rfl
  v3 := fun _ => by kernel_rfl
  t9 := by kernel_rfl
  a9 := fun _ => by kernel_rfl
  z9 := fun _ => by kernel_rfl
  v9 := fun _ => by kernel_rfl
  t37 := by kernel_rfl
  a37 := fun _ => by kernel_rfl
  z37 := fun _ => by kernel_rfl
  v37 := fun _ => by kernel_rfl
  t70 := by kernel_rfl
  a70 := fun _ => by kernel_rfl
  z70 := fun _ => by kernel_rfl
  v70 := fun _ => by kernel_rfl
  t72 := by kernel_rfl
  a72 := fun _ => by kernel_rfl
  z72 := fun _ => by kernel_rfl
  v72 := fun _ => by kernel_rfl
  t127 := by kernel_rfl
  a127 := fun _ => by kernel_rfl
  z127 := fun _ => by kernel_rfl
  v127 := fun _ => by kernel_rfl
theorem bX : Builder.Extra Tryz.prog bRen where
  sizeBuilder := by kernel_rfl
  liesBuilder := by kernel_rfl
  t5 := by kernel_rfl
  a5 := fun _ => by kernel_rfl
  z5 := fun _ => by kernel_rfl
  v5 := fun _ => by kernel_rfl
  infoByte := by kernel_rfl
  cellsByte := by kernel_rfl
  sizeByte := by kernel_rfl
  neB5 := by decide
def Bdr (B b : Nat) (F : Nat → Prop) (X : List UInt8) (w : World) : Prop :=
  ∃ p v, (p = .pointer none ∨ p = .pointer (some ⟨b, 0, none⟩)) ∧ w.heap[b]? = some (.cells #[p, v] 84 (0, 0)) ∧ w.ownsRow B 5 1 v X.length (Lib.byteCells X) ∧ B ≤ b ∧ ¬ F b ∧ (∀ g, v.ownBlock = some g → ¬ F g) ∧ ∀ k, F k → k < w.heap.size
def BdrU (B b : Nat) (F : Nat → Prop) (X : List UInt8) (w : World) : Prop :=
  ∃ v, w.heap[b]? = some (.cells #[.pointer (some ⟨b, 0, none⟩), v] 84 (0, 0)) ∧ w.ownsRow B 5 1 v X.length (Lib.byteCells X) ∧ B ≤ b ∧ ¬ F b ∧ (∀ g, v.ownBlock = some g → ¬ F g) ∧ ∀ k, F k → k < w.heap.size
theorem Bdr.new (F : Nat → Prop) (w : World) (hF : ∀ k, F k → k < w.heap.size) : Bdr w.heap.size w.heap.size F [] (w.alloc (.cells #[.pointer none, .slice none 0 0] 84)) :=
  ⟨_, _, .inl rfl, heap_alloc_new w _, World.ownsRow_nil _ _ _ _, Nat.le_refl _, (fun h => absurd (hF _ h) (Nat.lt_irrefl _)), (fun g hg => by cases hg), (fun k hk => by have := hF k hk; simp; omega)⟩
theorem Bdr.more {B b n : Nat} {F : Nat → Prop} {X : List UInt8} {w w' : World} (h : Bdr B b F X w) (hb : Below w.heap.size w w') (hn : w.heap.size ≤ n) (hn2 : n < w'.heap.size) : Bdr B b (fun k => F k ∨ k = n) X w' := by
  obtain ⟨p, v, h0, h1, h2, h3, h4, h5, h6⟩ := h
  have hlt := (Array.getElem?_eq_some_iff.1 h1).1
  refine ⟨p, v, h0, (hb.block b hlt).trans h1, own_below h2 hb, h3, ?_, ?_, ?_⟩
  · rintro (h | h)
    · exact h4 h
    · omega
  · rintro g hg (h | h)
    · exact h5 g hg h
    · have := (h2.lt g hg).2; omega
  · rintro k (h | h)
    · have := h6 k h; have := hb.size; omega
    · omega
theorem Bdr.less {B b : Nat} {F G : Nat → Prop} {X : List UInt8} {w : World} (h : Bdr B b F X w) (hs : ∀ k, G k → F k) : Bdr B b G X w := by
  obtain ⟨p, v, h0, h1, h2, h3, h4, h5, h6⟩ := h
  exact ⟨p, v, h0, h1, h2, h3, fun h => h4 (hs _ h), fun g hg h => h5 g hg (hs _ h), fun k hk => h6 k (hs _ hk)⟩

theorem check_any (B b : Nat) (F : Nat → Prop) (X : List UInt8) (w : World) (h : Bdr B b F X w) (hB : B ≤ w.heap.size) :
    Calls Tryz.prog 61 #[.pointer (some ⟨b, 0, none⟩)] w fun e w' => e = .returned (.tuple #[]) ∧ BdrU B b F X w' ∧ Kp B F w w' := by
  obtain ⟨p, v, h0, h1, h2, h3, h4, h5, h6⟩ := h
  have hlt := (Array.getElem?_eq_some_iff.1 h1).1
  have c0 : w.cell? ⟨b, 0, none⟩ = some p := by rw [cell_of_row w b 0 _ _ _ h1]; rfl
  have f0 : w.frozen? ⟨b, 0, none⟩ = false := frozen_of_row w b 0 _ _ h1
  rcases h0 with rfl | rfl
  · refine (Any.Builder_copyCheck_fresh { bLays167 with } bX.toX72 b w c0 (by simp [World.shape?, h1]; rfl) f0).mono ?_
    rintro e w' ⟨rfl, rfl⟩
    refine ⟨rfl, ⟨v, heap_setCell_same w b 0 _ _ _ h1, ?_, h3, h4, h5, fun k hk => by have := h6 k hk; simp; omega⟩, (Below.refl B w).setCell (p := ⟨b, 0, none⟩) h3 _, fun k hk => heap_setCell_other w ⟨b, 0, none⟩ k _ (fun e => h4 (by have e' : k = b := e; rw [← e']; exact hk))⟩
    exact own_other h2 h1 (by decide) ⟨b, 0, none⟩ rfl _
  · refine (Any.Builder_copyCheck_used { bLays167 with } bX.toX72 b w c0).mono ?_
    rintro e w' ⟨rfl, rfl⟩
    exact ⟨rfl, ⟨v, h1, h2, h3, h4, h5, h6⟩, Kp.refl hB⟩

set_option maxRecDepth 100000 in
set_option maxHeartbeats 4000000 in
theorem WriteByte_any (B b : Nat) (F : Nat → Prop) (X : List UInt8) (c : UInt8) (cn : Int) (hc : cn = (c.toNat : Int)) (w : World) (h : Bdr B b F X w) (hl : X.length + 1 ≤ 140737488355328) (hB : B ≤ w.heap.size) :
    Calls Tryz.prog 47 #[.pointer (some ⟨b, 0, none⟩), .int .u8 cn] w fun e w' => e = .returned .nilIface ∧ Bdr B b F (X ++ [c]) w' ∧ Kp B F w w' := by
  subst hc
  obtain ⟨i0, hi, hz0, hz1, hz2⟩ := info_parts infoU8
  have HC := Lib.hid (check_any B b F X w h hB)
  clear h
  go_enter Tryz.func47, Tryz.ntmps47
  go_wp2_with fail
  refine HC.out.mono ?_
  rintro e w1 ⟨rfl, ⟨v, hb, hown, hBb, hFb, hFo, hFs⟩, hk1⟩
  have hlt : b < w1.heap.size := (Array.getElem?_eq_some_iff.1 hb).1
  have c0 : w1.cell? ⟨b, 1, none⟩ = some v := by rw [cell_of_row w1 b 1 _ _ _ hb]; rfl
  have hne : v.ownBlock ≠ some b := Lib.ownBlock_ne hown hb (by decide)
  have hs1 := hk1.1.size
  have HK1 := Lib.hid hk1
  have HNE := Lib.hid hne
  have HFB := Lib.hid hFb
  have HFO := Lib.hid hFo
  have HFS := Lib.hid hFs
  clear hk1 hne hFb hFo hFs
  go_wp2_with (at_builtin; refine wpList_append_lies _ rfl _ _ 80 rfl B 5 i0 (.int .u8 0) 1 1 Tryz.underlying80 hi hz0 hz1 hz2 (by rfl) (by decide) _ _ _ rfl (hown.alloc _) ⟨w1.heap.size, 0, none⟩ 1 1 [.int .u8 c.toNat] rfl rfl (cells_new _ _ _) ?_ ?_ ?_ ?_ ?_ _ rfl ?_; (intro u hu; simp at hu; subst hu; rfl); omega; (unfold maxLen; omega); omega; (simp; omega); intro g cap w2 hown2 hg2 hat hgl; have x0 := (hg2.block b (by simp; omega) (fun e => HNE.out e.symm)).trans ((Lib.alloc_old w1 _ b hlt).trans hb); have x1 := frozen_of_row w2 b 1 _ _ x0; have x2 := (cell_of_row w2 b 1 _ _ _ x0).trans rfl)
  go_ret
  have x3 := heap_setCell_same w2 b 1 _ _ (.slice (some ⟨g, 0, none⟩) (X.length + 1) cap) x0
  have hsz := hg2.size
  have hsz1 : (w1.alloc (.cells #[.int .u8 c.toNat] 5)).heap.size = w1.heap.size + 1 := by simp
  have hbel : Below B w1 w2 := ((Below.refl B w1).alloc (by omega) _).grown hg2 (by omega) (fun k hk => (hown.lt k hk).1)
  refine ⟨rfl, ⟨_, _, .inr rfl, x3, ?_, hBb, HFB.out, ?_, fun k hk => by have := HFS.out k hk; simp; omega⟩, HK1.out.trans ⟨hbel.setCell (p := ⟨b, 1, none⟩) hBb _, fun k hk => ?_⟩⟩
  · have h2 := own_other hown2 x0 (by decide) ⟨b, 1, none⟩ rfl (.slice (some ⟨g, 0, none⟩) (X.length + 1) cap)
    rw [List.length_append, Lib.byteCells_append]
    exact h2
  · intro k hk hFg
    have hk' : g = k := by simpa [Value.ownBlock] using hk
    subst hk'
    rcases hat with hat | hat
    · exact HFO.out _ hat hFg
    · have := HFS.out _ hFg
      omega
  · rw [heap_setCell_other w2 ⟨b, 1, none⟩ k _ (fun e => HFB.out (by have e' : k = b := e; rw [← e']; exact hk))]
    have hkl := HFS.out k hk
    exact (hg2.block k (by omega) (fun e => HFO.out k e.symm hk)).trans (Lib.alloc_old w1 _ k hkl)

set_option maxRecDepth 100000 in
set_option maxHeartbeats 4000000 in
theorem WriteString_any (B b : Nat) (F : Nat → Prop) (X : List UInt8) (s : ByteArray) (w : World) (h : Bdr B b F X w) (hl : X.length + s.size ≤ 140737488355328) (hB : B ≤ w.heap.size) :
    Calls Tryz.prog 48 #[.pointer (some ⟨b, 0, none⟩), .string s] w fun e w' => e = .returned (.tuple #[.int .i64 s.size, .nilIface]) ∧ Bdr B b F (X ++ s.data.toList) w' ∧ Kp B F w w' := by
  obtain ⟨i0, hi, hz0, hz1, hz2⟩ := info_parts infoU8
  have HC := Lib.hid (check_any B b F X w h hB)
  clear h
  go_enter Tryz.func48, Tryz.ntmps48
  go_wp2_with fail
  refine HC.out.mono ?_
  rintro e w1 ⟨rfl, ⟨v, hb, hown, hBb, hFb, hFo, hFs⟩, hk1⟩
  have hlt : b < w1.heap.size := (Array.getElem?_eq_some_iff.1 hb).1
  have c0 : w1.cell? ⟨b, 1, none⟩ = some v := by rw [cell_of_row w1 b 1 _ _ _ hb]; rfl
  have hne : v.ownBlock ≠ some b := Lib.ownBlock_ne hown hb (by decide)
  have hs1 := hk1.1.size
  have HK1 := Lib.hid hk1
  have HNE := Lib.hid hne
  have HFB := Lib.hid hFb
  have HFO := Lib.hid hFo
  have HFS := Lib.hid hFs
  clear hk1 hne hFb hFo hFs
  go_wp2_with (at_builtin; refine wpList_append_str_at _ rfl _ _ 80 9 rfl B 5 i0 Tryz.underlying80 Tryz.underlying9 hi hz0 hz1 hz2 _ _ _ rfl hown s rfl ?_ ?_ ?_ ?_; (unfold maxLen; omega); omega; omega; intro v2 w2 hown2 hg2' hat; have hg2 : w1.grownBy w2 v.ownBlock := hg2'; clear hg2'; obtain ⟨A2, cc2, rfl⟩ := own_shape hown2; have x0 := (hg2.block b hlt (fun e => HNE.out e.symm)).trans hb; have x1 := frozen_of_row w2 b 1 _ _ x0; have x2 := (cell_of_row w2 b 1 _ _ _ x0).trans rfl)
  go_ret2
  have x3 := heap_setCell_same w2 b 1 _ _ (.slice A2 (X.length + s.size) cc2) x0
  have hsz := hg2.size
  have hbel : Below B w1 w2 := (Below.refl B w1).grown hg2 (by omega) (fun k hk => (hown.lt k hk).1)
  refine ⟨rfl, ⟨_, _, .inr rfl, x3, ?_, hBb, HFB.out, ?_, fun k hk => by have := HFS.out k hk; simp; omega⟩, HK1.out.trans ⟨hbel.setCell (p := ⟨b, 1, none⟩) hBb _, fun k hk => ?_⟩⟩
  · have h2 := own_other hown2 x0 (by decide) ⟨b, 1, none⟩ rfl (.slice A2 (X.length + s.size) cc2)
    rw [List.length_append, len_data, Lib.byteCells_append]
    exact h2
  · intro k hk hFg
    rcases hat with hat | hat
    · rw [hat] at hk; exact HFO.out k hk hFg
    · rw [hat] at hk
      have := Option.some.inj hk
      have := HFS.out k hFg
      omega
  · rw [heap_setCell_other w2 ⟨b, 1, none⟩ k _ (fun e => HFB.out (by have e' : k = b := e; rw [← e']; exact hk))]
    exact hg2.block k (HFS.out k hk) (fun e => HFO.out k e.symm hk)
theorem BString_any (B b : Nat) (F : Nat → Prop) (X : List UInt8) (w : World) (h : Bdr B b F X w) (hB : B ≤ w.heap.size) :
    Calls Tryz.prog 49 #[.pointer (some ⟨b, 0, none⟩)] w fun e w' => e = .returned (.string (strOf X)) ∧ Below B w w' := by
  refine Any.Builder_String_any bLays169 bX B b X w ?_ hB
  obtain ⟨p, v, h0, h1, h2, h3, h4, h5, h6⟩ := h
  have hl : (Lib.byteCells X).length = X.length := Lib.byteCells_length X
  rcases h0 with rfl | rfl
  · exact .inl ⟨h3, v, h1, by rw [hl]; exact h2, Lib.ownBlock_ne h2 h1 (by decide)⟩
  · exact .inr ⟨h3, v, h1, by rw [hl]; exact h2, Lib.ownBlock_ne h2 h1 (by decide)⟩
end Go.Proofs.YtbfogkcnfnjcaaaGreat.Po
