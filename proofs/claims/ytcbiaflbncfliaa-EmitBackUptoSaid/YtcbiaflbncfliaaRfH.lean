import Derived.Test.YtcbiaflbncfliaaRfG
/- Contract of package read's Value. -/
namespace Go.Proofs.Ytcbiaflbncfliaa.Re
open Go.RowKit
open Go.Proofs.Ytcbiaflbncfliaa.Utf
open Go.Proofs.Ytcbiaflbncfliaa.Sc

/-- What Value hands back: a value in new memory, a place, an error; what was there stays. -/
def GivesVal (r : V × Int × Int) (w : World) (e : Ending) (w' : World) : Prop :=
  ∃ c0 c1 c2 c3 c4 : Value, e = .returned (.tuple #[.agg #[c0, c1, c2, c3, c4], .int .i64 r.2.1, .int .i64 r.2.2]) ∧ OkC w' [c0, c1, c2, c3, c4] ∧ RdV w' w.heap.size w'.heap.size r.1 [c0, c1, c2, c3, c4] ∧ Below w.heap.size w w'
/-- results that are handed back out of three variables -/
theorem results53 {fn : Func} {b2 b3 b4 : Nat} {tmps : Array Value} {w : World} {fr2 fr3 fr4 : Nat × Nat} {v0 v1 v2 v3 v4 : Value} {a y : Int} (hf : fn.results = #[.cell 2 25, .cell 3 3, .cell 4 26])
    (t2 : tmps.getD 2 undef = .pointer (some ⟨b2, 0, none⟩)) (t3 : tmps.getD 3 undef = .pointer (some ⟨b3, 0, none⟩)) (t4 : tmps.getD 4 undef = .pointer (some ⟨b4, 0, none⟩))
    (h2 : w.heap[b2]? = some (.cells #[v0, v1, v2, v3, v4] 25 fr2)) (h3 : w.heap[b3]? = some (.cells #[.int .i64 a] 3 fr3)) (h4 : w.heap[b4]? = some (.cells #[.int .i64 y] 26 fr4)) :
    (results fn tmps).run Try.prog w = .ok (.tuple #[.agg #[v0, v1, v2, v3, v4], .int .i64 a, .int .i64 y]) w := by
  obtain ⟨c0, c1, c2, c3, c4⟩ := cells5 h2
  have c5 : w.cell? ⟨b3, 0, none⟩ = some (.int .i64 a) := (cell_of_row _ _ 0 _ _ _ h3).trans rfl
  have c6 : w.cell? ⟨b4, 0, none⟩ = some (.int .i64 y) := (cell_of_row _ _ 0 _ _ _ h4).trans rfl
  rw [Array.getD_eq_getD_getElem?] at t2 t3 t4
  simp [results, hf, t2, t3, t4, c0, c1, c2, c3, c4, c5, c6, go_sem]
theorem leave53 {fn : Func} {b2 b3 b4 : Nat} {tmps : Array Value} {w : World} {R : Ending → World → Prop} {fr2 fr3 fr4 : Nat × Nat} {v0 v1 v2 v3 v4 : Value} {a y : Int} (hf : fn.results = #[.cell 2 25, .cell 3 3, .cell 4 26])
    (t2 : tmps.getD 2 undef = .pointer (some ⟨b2, 0, none⟩)) (t3 : tmps.getD 3 undef = .pointer (some ⟨b3, 0, none⟩)) (t4 : tmps.getD 4 undef = .pointer (some ⟨b4, 0, none⟩))
    (h2 : w.heap[b2]? = some (.cells #[v0, v1, v2, v3, v4] 25 fr2)) (h3 : w.heap[b3]? = some (.cells #[.int .i64 a] 3 fr3)) (h4 : w.heap[b4]? = some (.cells #[.int .i64 y] 26 fr4))
    (hR : R (.returned (.tuple #[.agg #[v0, v1, v2, v3, v4], .int .i64 a, .int .i64 y])) w) : Leaves Try.prog fn tmps R [] .returning w := ⟨_, results53 hf t2 t3 t4 h2 h3 h4, hR⟩
theorem drew_row {W : World} {b : Nat} {o : Obj} (h : W.heap[b]? = some o) : W.drew.heap[b]? = some o := h
/-- stores into the variables of a place and of an error -/
theorem put2 {w : World} {b2 b3 b4 : Nat} {a0 y0 a y : Value} {o2 : Obj} (h2 : w.heap[b2]? = some o2) (h3 : w.heap[b3]? = some (.cells #[a0] 3 (0, 0))) (h4 : w.heap[b4]? = some (.cells #[y0] 26 (0, 0)))
    (h23 : b2 ≠ b3) (h24 : b2 ≠ b4) (h34 : b3 ≠ b4) :
    ((w.setCell ⟨b3, 0, none⟩ a).setCell ⟨b4, 0, none⟩ y).heap[b2]? = some o2 ∧ ((w.setCell ⟨b3, 0, none⟩ a).setCell ⟨b4, 0, none⟩ y).heap[b3]? = some (.cells #[a] 3 (0, 0)) ∧ ((w.setCell ⟨b3, 0, none⟩ a).setCell ⟨b4, 0, none⟩ y).heap[b4]? = some (.cells #[y] 26 (0, 0)) :=
  ⟨(heap_setCell_other _ ⟨b4, 0, none⟩ b2 _ h24).trans ((heap_setCell_other _ ⟨b3, 0, none⟩ b2 _ h23).trans h2), (heap_setCell_other _ ⟨b4, 0, none⟩ b3 _ h34).trans (heap_setCell_same _ b3 0 _ _ a h3), heap_setCell_same _ b4 0 _ _ y ((heap_setCell_other _ ⟨b3, 0, none⟩ b4 _ (fun e => h34 e.symm)).trans h4)⟩
theorem fin7 {w : World} {b2 b3 b4 : Nat} {u0 u1 u2 u3 u4 a0 y0 v0 v1 v2 v3 v4 a y : Value} (h2 : w.heap[b2]? = some (.cells #[u0, u1, u2, u3, u4] 25 (0, 0))) (h3 : w.heap[b3]? = some (.cells #[a0] 3 (0, 0))) (h4 : w.heap[b4]? = some (.cells #[y0] 26 (0, 0)))
    (h23 : b2 ≠ b3) (h24 : b2 ≠ b4) (h34 : b3 ≠ b4) :
    let W := (((((((w.setCell ⟨b2, 0, none⟩ v0).setCell ⟨b2, 1, none⟩ v1).setCell ⟨b2, 2, none⟩ v2).setCell ⟨b2, 3, none⟩ v3).setCell ⟨b2, 4, none⟩ v4).setCell ⟨b3, 0, none⟩ a).setCell ⟨b4, 0, none⟩ y)
    W.heap[b2]? = some (.cells #[v0, v1, v2, v3, v4] 25 (0, 0)) ∧ W.heap[b3]? = some (.cells #[a] 3 (0, 0)) ∧ W.heap[b4]? = some (.cells #[y] 26 (0, 0)) ∧ (∀ B, B ≤ b2 → B ≤ b3 → B ≤ b4 → Below B w W) ∧
      (∀ q : Addr, q.block ≠ b2 → q.block ≠ b3 → q.block ≠ b4 → W.cell? q = w.cell? q) := by
  have r2 := set5_row h2 v0 v1 v2 v3 v4
  have r3 := (heap_set5 w b2 b3 (fun e => h23 e.symm) v0 v1 v2 v3 v4).trans h3
  have r4 := (heap_set5 w b2 b4 (fun e => h24 e.symm) v0 v1 v2 v3 v4).trans h4
  obtain ⟨p2, p3, p4⟩ := put2 (a := a) (y := y) r2 r3 r4 h23 h24 h34
  refine ⟨p2, p3, p4, fun B x2 x3 x4 => ?_, fun q e2 e3 e4 => ?_⟩
  · exact (((((((Below.refl B w).setCell x2 _).setCell x2 _).setCell x2 _).setCell x2 _).setCell x2 _).setCell x3 _).setCell x4 _
  · rw [World.cell?_setCell_other _ ⟨b4, 0, none⟩ q _ (fun e => e4 (by rw [← e])), World.cell?_setCell_other _ ⟨b3, 0, none⟩ q _ (fun e => e3 (by rw [← e]))]
    exact cell_set5 w b2 q (fun e => e2 e.symm) _ _ _ _ _
theorem toks_facts {l : List UInt8} (he : (scnS l).2.2 = 0) (E : Int) : (scnS l).1.length ≤ 65536 ∧ (∀ i, (tk (scnS l).1 E i).2.2.1.length ≤ 65537) ∧ (∀ i, okK (tk (scnS l).1 E i)) ∧ l.length ≤ 65536 := by
  obtain ⟨h1, _, h2, _⟩ := scnS_Scan he
  have h3 := h2.le.2.1
  have h4 := h2.okT
  refine ⟨by omega, fun i => ?_, fun i => ?_, h1⟩
  · rcases Nat.lt_or_ge i (scnS l).1.length with g | g
    · rw [tk_in g]; have := (h4 _ (List.getElem_mem g)).2; omega
    · rw [tk_out g]; simp
  · rcases Nat.lt_or_ge i (scnS l).1.length with g | g
    · rw [tk_in g]
      rcases (h4 _ (List.getElem_mem g)).1 with h | h | h | h
      · exact .inr (.inl h.1)
      · exact .inr (.inr (.inl h.1))
      · exact .inr (.inr (.inr (.inl h.1)))
      · exact .inr (.inr (.inr (.inr h.1)))
    · rw [tk_out g]; exact .inl rfl

set_option maxRecDepth 100000 in
set_option maxHeartbeats 4000000 in
theorem Value_any (s : ByteArray) (w : World) (hs : s.size ≤ 9223372036854775807) :
    Calls Try.prog 9 #[.string s] w (GivesVal (rdV s.data.toList) w) := by
  obtain ⟨n, hn⟩ : ∃ n, n = w.heap.size := ⟨_, rfl⟩
  obtain ⟨i0, hi0, hz0, hz1, hz2⟩ := info_parts infoTok
  obtain ⟨wa, hwa⟩ : ∃ wa, wa = ((w.alloc (.cells #[.int .i64 0, .int .i64 0, .string ⟨#[]⟩, .slice none 0 0, .slice none 0 0] 25)).alloc (.cells #[.int .i64 0] 3)).alloc (.cells #[.int .i64 0] 26) := ⟨_, rfl⟩
  have hs1 : (w.alloc (.cells #[.int .i64 0, .int .i64 0, .string ⟨#[]⟩, .slice none 0 0, .slice none 0 0] 25)).heap.size = w.heap.size + 1 := szAlloc' _ _
  have hs2 : ((w.alloc (.cells #[.int .i64 0, .int .i64 0, .string ⟨#[]⟩, .slice none 0 0, .slice none 0 0] 25)).alloc (.cells #[.int .i64 0] 3)).heap.size = w.heap.size + 2 := by rw [szAlloc', hs1]
  have hba : Below w.heap.size w wa := by rw [hwa]; exact (((Below.refl _ _).alloc (Nat.le_refl _) _).alloc (by rw [hs1]; omega) _).alloc (by rw [hs2]; omega) _
  have hsa : wa.heap.size = w.heap.size + 3 := by rw [hwa, szAlloc', hs2]
  have hza : wa.heap[w.heap.size]? = some (.cells #[.int .i64 0, .int .i64 0, .string ⟨#[]⟩, .slice none 0 0, .slice none 0 0] 25 (0, 0)) := by rw [hwa]; exact (heap_alloc_old _ _ (by rw [hs2]; omega)).trans ((heap_alloc_old _ _ (by rw [hs1]; omega)).trans (heap_alloc_new w _))
  have hzb : wa.heap[w.heap.size + 1]? = some (.cells #[.int .i64 0] 3 (0, 0)) := by
    have := heap_alloc_new (w.alloc (.cells #[.int .i64 0, .int .i64 0, .string ⟨#[]⟩, .slice none 0 0, .slice none 0 0] 25)) (.cells #[.int .i64 0] 3)
    rw [hs1] at this
    rw [hwa]; exact (heap_alloc_old _ _ (by rw [hs2]; omega)).trans this
  have hzc : wa.heap[w.heap.size + 2]? = some (.cells #[.int .i64 0] 26 (0, 0)) := by
    have := heap_alloc_new ((w.alloc (.cells #[.int .i64 0, .int .i64 0, .string ⟨#[]⟩, .slice none 0 0, .slice none 0 0] 25)).alloc (.cells #[.int .i64 0] 3)) (.cells #[.int .i64 0] 26)
    rw [hs2] at this
    rw [hwa]; exact this
  have hT := Tokens_any s wa hs
  have hfacts := fun he => toks_facts (l := s.data.toList) he (s.data.toList.length : Int)
  have hE := len_data s
  unfold rdV
  rcases hsc : scnS s.data.toList with ⟨ts, at_, er⟩
  rw [hsc] at hT hfacts
  simp only at hfacts ⊢
  rw [hwa] at hT
  rw [hE] at hfacts ⊢
  have hmf : ∀ (fn : Fn) (first cap : Array Value) (w : World), (Instr.makeFunc fn first cap).run Try.prog w = .ok (.func fn first cap) w := fun _ _ _ _ => rfl
  have HT := Lib.hid hT; clear hT
  have HWA := Lib.hid hwa
  have HBA := Lib.hid hba; clear hba
  have HZA := Lib.hid hza; clear hza
  have HZB := Lib.hid hzb; clear hzb
  have HZC := Lib.hid hzc; clear hzc
  have HFC := Lib.hid hfacts; clear hfacts
  clear hwa hsc hs1 hs2
  have d1 : w.heap.size ≠ w.heap.size + 1 := by omega
  have d2 : w.heap.size ≠ w.heap.size + 2 := by omega
  have d3 : w.heap.size + 1 ≠ w.heap.size + 2 := by omega
  by_cases he : er = 0
  · subst he
    simp only [ne_eq, not_true_eq_false, if_false]
    obtain ⟨fl, fln, fkk, fsz⟩ := HFC.out rfl
    have hWH := fun rb vL w hp hr => whole_any rb vL ts (s.size : Int) fl fln fkk w hp hr
    have HWH := Lib.hid hWH; clear hWH
    clear fln fkk
    go_enter_defers Try.func9, Try.ntmps9
    go_wp2_with fail
    refine HT.out.mono ?_
    rw [← HWA.out]
    rintro e w1 ⟨v, rfl, hown, hb1⟩
    have hs3 := hb1.size
    have h2 := (hb1.block w.heap.size (by omega)).trans HZA.out
    have h3 := (hb1.block (w.heap.size + 1) (by omega)).trans HZB.out
    have h4 := (hb1.block (w.heap.size + 2) (by omega)).trans HZC.out
    have z3 : w1.cell? ⟨w.heap.size + 1, 0, none⟩ = some (.int .i64 0) := (cell_of_row _ _ 0 _ _ _ h3).trans rfl
    have z4 : w1.cell? ⟨w.heap.size + 2, 0, none⟩ = some (.int .i64 0) := (cell_of_row _ _ 0 _ _ _ h4).trans rfl
    have q3 : w1.frozen? ⟨w.heap.size + 1, 0, none⟩ = false := frozen_of_row _ _ 0 _ _ h3
    have q4 : w1.frozen? ⟨w.heap.size + 2, 0, none⟩ = false := frozen_of_row _ _ 0 _ _ h4
    have p0 := put2 (a := .int .i64 at_) (y := .int .i64 0) h2 h3 h4 d1 d2 d3
    have HB1 := Lib.hid hb1; clear hb1
    have HO := Lib.hid hown; clear hown
    clear h2 h3 h4
    obtain ⟨w2, hw2⟩ : ∃ w2, w2 = (w1.setCell ⟨w.heap.size + 1, 0, none⟩ (.int .i64 at_)).setCell ⟨w.heap.size + 2, 0, none⟩ (.int .i64 0) := ⟨_, rfl⟩
    have hb2 : Below w.heap.size w w2 := by rw [hw2]; exact ((HBA.out.trans (HB1.out.mono (by omega))).setCell (by show w.heap.size ≤ w.heap.size + 1; omega) _).setCell (by show w.heap.size ≤ w.heap.size + 2; omega) _
    rw [← hw2] at p0
    obtain ⟨h2, h3, h4⟩ := p0
    have HW2 := Lib.hid hw2; clear hw2
    have HB2 := Lib.hid hb2; clear hb2
    have H2 := Lib.hid h2; clear h2
    have H3 := Lib.hid h3; clear h3
    have H4 := Lib.hid h4; clear h4
    have hn2 : w2.heap.size = w1.heap.size := by rw [HW2.out]; simp
    have hown2 : w2.ownsRow (w.heap.size + 3) 47 4 v ts.length (toksC ts) := by
      rw [HW2.out, ← hsa]
      exact ownsRow_setCell_below (ownsRow_setCell_below HO.out (by show w.heap.size + 1 < wa.heap.size; omega) _) (by show w.heap.size + 2 < wa.heap.size; omega) _
    have HO2 := Lib.hid hown2; clear hown2
    obtain ⟨w3, hw3⟩ : ∃ w3, w3 = w2.alloc (.cells #[.int .i64 0, .int .i64 0, .string ⟨#[]⟩, .int .i64 s.size] 47) := ⟨_, rfl⟩
    have hn3 : w3.heap[w1.heap.size]? = some (.cells #[.int .i64 0, .int .i64 0, .string ⟨#[]⟩, .int .i64 s.size] 47 (0, 0)) := by rw [hw3, ← hn2]; exact heap_alloc_new w2 _
    have hown3 : w3.ownsRow (w.heap.size + 3) 47 4 v ts.length (toksC ts) := by rw [hw3]; exact HO2.out.alloc _
    have hb3 : Below w.heap.size w w3 := by rw [hw3]; exact HB2.out.alloc HB2.out.size _
    have hz3 : w3.heap.size = w1.heap.size + 1 := by rw [hw3, szAlloc', hn2]
    have h23 : ∀ b, b < w.heap.size + 3 → w3.heap[b]? = w2.heap[b]? := fun b hb => by rw [hw3]; exact heap_alloc_old _ _ (by omega)
    rw [HW2.out] at hw3
    have HW3 := Lib.hid hw3; clear hw3
    have HN3 := Lib.hid hn3; clear hn3
    have HO3 := Lib.hid hown3; clear hown3
    have HB3 := Lib.hid hb3; clear hb3
    have HH3 := Lib.hid h23; clear h23
    go_wp2_with (at_builtin; rw [← HW3.out]; refine wpList_append_lies w3 rfl _ _ _ rfl (w.heap.size + 3) 47 i0 _ 4 40 Try.underlying41 hi0 hz0 hz1 hz2 (by rfl) (by omega) v ts.length (toksC ts) rfl HO3.out ⟨w1.heap.size, 0, none⟩ 1 1 [.int .i64 0, .int .i64 0, .string ⟨#[]⟩, .int .i64 s.size] rfl rfl (World.news_of_block HN3.out) (by simp [Value.oneCell']) (by omega) (by unfold maxLen; omega) (by omega) (by omega) (w1.heap.size + 1) hz3 ?_; intro g cap w4 hown4 hg4 hat hlt4)
    obtain ⟨w5, hw5⟩ : ∃ w5, w5 = w4.alloc (.cells #[.slice (some ⟨g, 0, none⟩) (ts.length + 1) cap, .int .i64 0, .int .i64 0] 49) := ⟨_, rfl⟩
    rw [← hw5]
    have hs4 := hg4.size
    have hp5 : Rdr w5 w4.heap.size (.slice (some ⟨g, 0, none⟩) (ts.length + 1) cap) 0 0 := by rw [hw5]; exact heap_alloc_new w4 _
    have hcs : toksC (withE ts (s.size : Int)) = toksC ts ++ [.int .i64 0, .int .i64 0, .string ⟨#[]⟩, .int .i64 s.size] := by unfold withE; rw [toksC_app, toksC_one]; rfl
    have hr4 : RdT w4 w4.heap.size (.slice (some ⟨g, 0, none⟩) (ts.length + 1) cap) (withE ts (s.size : Int)) := RdT.of_own (ts := withE ts (s.size : Int)) (by rw [withE_len, hcs]; exact hown4)
    have hb45 : Below w4.heap.size w4 w5 := by rw [hw5]; exact (Below.refl _ _).alloc (Nat.le_refl _) _
    have hr5 := hr4.below hb45 (Nat.le_refl _)
    have hrow : ∀ b, b < w.heap.size + 3 → w5.heap[b]? = w2.heap[b]? := fun b hb => (hb45.block b (by omega)).trans ((hg4.block b (by omega) (own_ne HO3.out hb).symm).trans (HH3.out b hb))
    have h2 := (hrow w.heap.size (by omega)).trans H2.out
    have h3 := (hrow (w.heap.size + 1) (by omega)).trans H3.out
    have h4 := (hrow (w.heap.size + 2) (by omega)).trans H4.out
    have hb5 : Below w.heap.size w w5 := (HB3.out.grown hg4 HB3.out.size (fun k hk => by have := (HO3.out.lt k hk).1; omega)).trans (hb45.mono (by omega))
    have hs5 : w5.heap.size = w4.heap.size + 1 := by rw [hw5, szAlloc']
    have hW := HWH.out w4.heap.size _ w5 hp5 hr5
    have HH2 := Lib.hid h2; clear h2
    have HHH3 := Lib.hid h3; clear h3
    have HH4 := Lib.hid h4; clear h4
    have HB5 := Lib.hid hb5; clear hb5
    clear hw5 hrow hr5 hr4 hb45 hcs hown4 hg4 hp5
    refine hW.mono ?_
    clear hW
    rcases hwh : whR ts (s.size : Int) with ⟨a, y⟩ | ⟨vv, jj, q⟩
    · rintro e w6 ⟨hg6, rfl⟩
      have hs6 := hg6.size
      have r2 := blk_fr hg6 (by omega) (by omega) HH2.out
      have r3 := blk_fr hg6 (by omega) (by omega) HHH3.out
      have r4 := blk_fr hg6 (by omega) (by omega) HH4.out
      refine leaves_cons (f := 15) (args := #[.pointer (some ⟨w.heap.size, 0, none⟩), .pointer (some ⟨w.heap.size + 1, 0, none⟩), .pointer (some ⟨w.heap.size + 2, 0, none⟩)]) (by simp) (by simp [go_sem]) ?_
      refine (catch_any w.heap.size (w.heap.size + 1) (w.heap.size + 2) a y w6 _ _ _ _ _ _ _ r2 r3 r4 d1 d2 d3).mono ?_
      rintro e u' w7 ⟨rfl, rfl, c2, c3, c4, cb⟩
      refine leave53 rfl rfl rfl rfl c2 c3 c4 ?_
      rw [whR_rdT, hwh]
      exact ⟨_, _, _, _, _, rfl, OkC.of (NF.nil_ _ _) (NF.nil_ _ _), RdV_leaf _ _ _ 0 0 [], (HB5.out.grown hg6 HB5.out.size (fun k hk => by obtain rfl := Option.some.inj hk; omega)).trans (cb _ (Nat.le_refl _) (by omega) (by omega))⟩
    · rintro e w6 ⟨hg6, v0, v1, v2, v3, v4, rfl, ho6, hV6, hp6⟩
      have hs6 := hg6.size
      have r2 := blk_fr hg6 (by omega) (by omega) HH2.out
      have r3 := blk_fr hg6 (by omega) (by omega) HHH3.out
      have r4 := blk_fr hg6 (by omega) (by omega) HH4.out
      obtain ⟨A, c', A2, c2, hcs, _⟩ := hV6.cells
      simp only [List.cons.injEq, and_true] at hcs
      obtain ⟨rfl, rfl, rfl, rfl, rfl⟩ := hcs
      obtain ⟨z0, z1, z2, z3, z4⟩ := cells5 r2
      obtain ⟨q0, q1, q2, q3, q4⟩ := frozen5 r2
      have z5 : w6.cell? ⟨w.heap.size + 1, 0, none⟩ = some (.int .i64 at_) := (cell_of_row _ _ 0 _ _ _ r3).trans rfl
      have q5 : w6.frozen? ⟨w.heap.size + 1, 0, none⟩ = false := frozen_of_row _ _ 0 _ _ r3
      have z6 : w6.cell? ⟨w.heap.size + 2, 0, none⟩ = some (.int .i64 0) := (cell_of_row _ _ 0 _ _ _ r4).trans rfl
      have q6 : w6.frozen? ⟨w.heap.size + 2, 0, none⟩ = false := frozen_of_row _ _ 0 _ _ r4
      have R2 := Lib.hid r2; clear r2
      have R3 := Lib.hid r3; clear r3
      have R4 := Lib.hid r4; clear r4
      have HV6 := Lib.hid hV6; clear hV6
      have HO6 := Lib.hid ho6; clear ho6
      have HG6 := Lib.hid hg6; clear hg6
      clear hp6
      go_wp2_with fail
      refine leaves_cons (f := 15) (args := #[.pointer (some ⟨w.heap.size, 0, none⟩), .pointer (some ⟨w.heap.size + 1, 0, none⟩), .pointer (some ⟨w.heap.size + 2, 0, none⟩)]) (by simp) (by simp [go_sem]) ?_
      refine (catch_idle w.heap.size (w.heap.size + 1) (w.heap.size + 2) _).mono ?_
      rintro e u' w7 ⟨rfl, rfl, rfl⟩
      obtain ⟨r2, r3, r4, rb, rc⟩ := fin7 R2.out R3.out R4.out d1 d2 d3 (v0 := .int .i64 vv.k) (v1 := .int .i64 vv.n) (v2 := .string (strOf vv.s)) (v3 := .slice A vv.l.length c') (v4 := .slice A2 vv.ms.length c2) (a := .int .i64 0) (y := .int .i64 0)
      refine leave53 rfl rfl rfl rfl r2 r3 r4 ?_
      rw [whR_rdT, hwh]
      refine ⟨_, _, _, _, _, rfl, HO6.out.keep (by simp) (fun p _ => by simp), RdV.keep (fun q hq1 hq2 => rc q (by omega) (by omega) (by omega)) (by omega) (by simp) _ _ HV6.out, (HB5.out.grown HG6.out HB5.out.size (fun k hk => by obtain rfl := Option.some.inj hk; omega)).trans (rb _ (Nat.le_refl _) (by omega) (by omega))⟩
  · rw [if_pos he]
    have t1 : (er != 0) = true := by rw [bne_iff_ne]; exact he
    have t2 : (er == 0) = false := by rw [beq_eq_false_iff_ne]; exact he
    clear he
    go_enter_defers Try.func9, Try.ntmps9
    go_wp2_with fail
    refine HT.out.mono ?_
    rw [← HWA.out]
    rintro e w1 ⟨v, rfl, hown, hb1⟩
    have hs3 := hb1.size
    have h2 := (hb1.block w.heap.size (by omega)).trans HZA.out
    have h3 := (hb1.block (w.heap.size + 1) (by omega)).trans HZB.out
    have h4 := (hb1.block (w.heap.size + 2) (by omega)).trans HZC.out
    have z3 : w1.cell? ⟨w.heap.size + 1, 0, none⟩ = some (.int .i64 0) := (cell_of_row _ _ 0 _ _ _ h3).trans rfl
    have z4 : w1.cell? ⟨w.heap.size + 2, 0, none⟩ = some (.int .i64 0) := (cell_of_row _ _ 0 _ _ _ h4).trans rfl
    have q3 : w1.frozen? ⟨w.heap.size + 1, 0, none⟩ = false := frozen_of_row _ _ 0 _ _ h3
    have q4 : w1.frozen? ⟨w.heap.size + 2, 0, none⟩ = false := frozen_of_row _ _ 0 _ _ h4
    have p0 := put2 (a := .int .i64 at_) (y := .int .i64 er) h2 h3 h4 d1 d2 d3
    have HB1 := Lib.hid hb1; clear hb1
    have HO := Lib.hid hown; clear hown
    clear h2 h3 h4
    obtain ⟨w2, hw2⟩ : ∃ w2, w2 = (w1.setCell ⟨w.heap.size + 1, 0, none⟩ (.int .i64 at_)).setCell ⟨w.heap.size + 2, 0, none⟩ (.int .i64 er) := ⟨_, rfl⟩
    have hb2 : Below w.heap.size w w2 := by rw [hw2]; exact ((HBA.out.trans (HB1.out.mono (by omega))).setCell (by show w.heap.size ≤ w.heap.size + 1; omega) _).setCell (by show w.heap.size ≤ w.heap.size + 2; omega) _
    rw [← hw2] at p0
    obtain ⟨h2, h3, h4⟩ := p0
    have HW2 := Lib.hid hw2; clear hw2
    have HB2 := Lib.hid hb2; clear hb2
    have H2 := Lib.hid h2; clear h2
    have H3 := Lib.hid h3; clear h3
    have H4 := Lib.hid h4; clear h4
    go_wp2_with fail
    rw [← HW2.out]
    clear z3 z4 q3 q4
    obtain ⟨z0, z1, z2, z3, z4⟩ := cells5 H2.out
    obtain ⟨q0, q1, q2, q3, q4⟩ := frozen5 H2.out
    have z5 : w2.cell? ⟨w.heap.size + 1, 0, none⟩ = some (.int .i64 at_) := (cell_of_row _ _ 0 _ _ _ H3.out).trans rfl
    have q5 : w2.frozen? ⟨w.heap.size + 1, 0, none⟩ = false := frozen_of_row _ _ 0 _ _ H3.out
    have z6 : w2.cell? ⟨w.heap.size + 2, 0, none⟩ = some (.int .i64 er) := (cell_of_row _ _ 0 _ _ _ H4.out).trans rfl
    have q6 : w2.frozen? ⟨w.heap.size + 2, 0, none⟩ = false := frozen_of_row _ _ 0 _ _ H4.out
    go_region
    all_goals
      go_wp2_with fail
      obtain ⟨r2, r3, r4, rb, _⟩ := fin7 H2.out H3.out H4.out d1 d2 d3 (v0 := .int .i64 0) (v1 := .int .i64 0) (v2 := .string ⟨#[]⟩) (v3 := .slice none 0 0) (v4 := .slice none 0 0) (a := .int .i64 at_) (y := .int .i64 er)
      exact leave53 rfl rfl rfl rfl (drew_row r2) (drew_row r3) (drew_row r4) ⟨_, _, _, _, _, rfl, OkC.of (NF.nil_ _ _) (NF.nil_ _ _), RdV_leaf _ _ _ 0 0 [], (HB2.out.trans (rb _ (Nat.le_refl _) (by omega) (by omega))).drew⟩
end Go.Proofs.Ytcbiaflbncfliaa.Re
