import Derived.Test.YtbepnjgbkfidiaaEmD
/- Contracts of package emit: the writer's list, members, value; Long. -/
namespace Go.Proofs.Ytbepnjgbkfidiaa.Em
open Go.RowKit
open Go.Proofs.Ytbepnjgbkfidiaa.Utf
open Go.Proofs.Ytbepnjgbkfidiaa.Sc
open Go.Proofs.Ytbepnjgbkfidiaa.Re

theorem drop1_app (a b : List UInt8) (h : a ≠ []) : (a ++ b).drop 1 = a.drop 1 ++ b := by
  cases a with
  | nil => exact absurd rfl h
  | cons x r => rfl
theorem emT_step (l : List V) (k : Nat) (h : k < l.length) : (emT (l.take (k + 1))).drop 1 = (emT (l.take k)).drop 1 ++ ((if 0 < k then [44] else []) ++ emV l[k]) := by
  rw [emT_take l k h]
  cases k with
  | zero => simp [emT]
  | succ k =>
    rw [drop1_app _ _ (by cases l with
      | nil => simp at h
      | cons v r => rw [List.take_succ_cons, emT]; simp), if_pos (by omega)]
    rfl
theorem emM_step (ns : List (List UInt8)) (ms : List V) (k : Nat) (h : k < ms.length) (hn : k < ns.length) (hl : ns.length = ms.length) :
    (emM (ns.take (k + 1)) (ms.take (k + 1))).drop 1 = (emM (ns.take k) (ms.take k)).drop 1 ++ ((if 0 < k then [44] else []) ++ (qt ns[k] ++ (58 :: emV ms[k]))) := by
  rw [emM_take ns ms k h hn hl]
  cases k with
  | zero => simp [emM]
  | succ k =>
    rw [drop1_app _ _ (by cases ms with
      | nil => simp at h
      | cons v r => rw [List.take_succ_cons, emM]; simp), if_pos (by omega)]
    rfl
theorem emT_pre (l : List V) (k : Nat) : (emT (l.take k)).length ≤ (emT l).length := by
  have := congrArg List.length (emT_app (l.take k) (l.drop k))
  rw [List.take_append_drop, List.length_append] at this
  omega
theorem emM_pre (ns : List (List UInt8)) (ms : List V) (k : Nat) (hl : ns.length = ms.length) : (emM (ns.take k) (ms.take k)).length ≤ (emM ns ms).length := by
  have := congrArg List.length (emM_app (ms.take k) (ms.drop k) (ns.take k) (ns.drop k) (by simp [List.length_take]; omega))
  rw [List.take_append_drop, List.take_append_drop, List.length_append] at this
  omega
theorem okWL_drop {l : List V} {k : Nat} (h : k < l.length) : okWL (l.drop k) ↔ okW l[k] ∧ okWL (l.drop (k + 1)) := by
  rw [List.drop_eq_getElem_cons h, okWL]
theorem allS_drop {ns : List (List UInt8)} {k : Nat} (h : k < ns.length) : (∀ x ∈ ns.drop k, okS x) ↔ okS ns[k] ∧ (∀ x ∈ ns.drop (k + 1), okS x) := by
  rw [List.drop_eq_getElem_cons h]; simp only [List.mem_cons, forall_eq_or_imp]
theorem szUL_mem {v : V} : ∀ {l : List V}, v ∈ l → szU v ≤ szUL l := by
  intro l
  induction l with
  | nil => intro h; cases h
  | cons a r ih =>
    intro h
    rw [szUL]
    rcases List.mem_cons.1 h with rfl | h
    · omega
    · have := ih h; omega
theorem sum_mem {x : List UInt8} : ∀ {ns : List (List UInt8)}, x ∈ ns → 1 + x.length ≤ (ns.map fun x => 1 + x.length).sum := by
  intro ns
  induction ns with
  | nil => intro h; cases h
  | cons a r ih =>
    intro h
    rw [List.map_cons, List.sum_cons]
    rcases List.mem_cons.1 h with rfl | h
    · omega
    · have := ih h; omega
theorem szU_pos (v : V) : 1 ≤ szU v := by cases v; rw [szU]; omega
theorem szUL_len : ∀ l : List V, l.length ≤ szUL l := by
  intro l
  induction l with
  | nil => simp
  | cons a r ih => rw [szUL, List.length_cons]; have := szU_pos a; omega
theorem lenL_mem {v : V} : ∀ {l : List V}, lenL l → v ∈ l → lenV v := by
  intro l
  induction l with
  | nil => intro _ h; cases h
  | cons a r ih =>
    intro h hv
    rw [lenL] at h
    rcases List.mem_cons.1 hv with rfl | hv
    · exact h.1
    · exact ih h.2 hv

/-- what the writer's value does with a value, wherever it stands -/
def WV (lo hi B b : Nat) (v : V) : Prop := ∀ (cs : List Value) (F : Nat → Prop) (X : List UInt8) (w : World), RdA w lo hi v cs → Wtr B b F X w → B ≤ w.heap.size → X.length + (emV v).length ≤ 100000000000000 →
  Calls Try.prog 43 #[.pointer (some ⟨b, 0, none⟩), .agg cs.toArray] w (WroteB B b F (X ++ emV v) (okW v) w)

set_option maxRecDepth 100000 in
set_option maxHeartbeats 8000000 in
theorem wlist_any (lo hi B b : Nat) (l : List V) (A : Option Addr) (c : Nat) (F : Nat → Prop) (X : List UInt8) (w : World) (hW : ∀ v ∈ l, WV lo hi B b v) (hhi : hi ≤ B) (hL : 0 < l.length → ∃ g o, A = some ⟨g, o, none⟩ ∧ lo ≤ g ∧ g < hi ∧ RdAL w lo hi g o l)
    (h : Wtr B b F X w) (hB : B ≤ w.heap.size) (hl : l.length ≤ 1099511627776) (hr : X.length + (91 :: ((emT l).drop 1 ++ [93])).length ≤ 100000000000000) :
    Calls Try.prog 54 #[.pointer (some ⟨b, 0, none⟩), .slice A l.length c] w (WroteB B b F (X ++ 91 :: ((emT l).drop 1 ++ [93])) (okWL l) w) := by
  have h1 := put_any B b F X ⟨#[91]⟩ w h (by show X.length + 1 ≤ _; omega)
  rw [lit_data] at h1
  obtain ⟨n, hn⟩ : ∃ z, l.length = z := ⟨_, rfl⟩
  rw [hn] at hl ⊢
  have HN := Lib.hid hn
  have HL := Lib.hid (fun h => hL (by rw [hn]; exact h)); clear hL
  have HW := Lib.hid hW; clear hW
  have H1 := Lib.hid h1; clear h1
  simp only [List.length_cons, List.length_append, List.length_nil] at hr
  have HR := Lib.hid hr; clear hr hn
  clear h
  generalize hQ : okWL l = Q
  have HQ := Lib.hid hQ; clear hQ
  generalize hY : X ++ 91 :: ((emT l).drop 1 ++ [93]) = Y
  have HY := Lib.hid hY; clear hY
  go_enter Try.func54, Try.ntmps54
  go_wp2_with fail
  refine H1.out.mono ?_
  rintro e w1 ⟨rfl, hw1, hb1⟩
  have HW1 := Lib.hid hw1; clear hw1
  have HB1 := Lib.hid hb1; clear hb1
  go_wp2_with fail
  go_loopw [11] (fun i wr => ∃ k : Nat, i = .int .i64 k ∧ k ≤ n ∧ Wtr B b F (X ++ 91 :: (emT (l.take k)).drop 1) wr ∧ (Q ↔ okWL (l.drop k)) ∧ Kp B F w wr) (fun i _ => n - (intOf i).toNat)
  case atStart => exact ⟨0, rfl, by omega, HW1.out, by rw [List.drop_zero, HQ.out], HB1.out⟩
  case round =>
    obtain ⟨k, rfl, hk, hwr, hq, hkp⟩ := hrel
    have hbel := hkp.1
    have hsz := hbel.size
    by_cases hlt0 : k < n
    · have hlt : k < l.length := by rw [HN.out]; exact hlt0
      have hlb : decide ((k : Int) < (n : Int)) = true := decide_eq_true (by omega)
      have hlb2 : decide (k < n) = true := decide_eq_true hlt0
      have k0 : (0 : Int) ≤ (k : Int) := by omega
      have k1 : (k : Int) < (n : Int) := by omega
      obtain ⟨g, o, e1, _, hg, hRR⟩ := HL.out (by omega)
      subst e1
      obtain ⟨xa, hxa, hva⟩ := RdAL.at_ _ o hRR k hlt
      obtain ⟨p1, p2, p3, p4, ea, hj⟩ := hva.cells
      clear hj
      have hcell : ∀ j u, xa[j]? = some u → wr.cell? ⟨g, o + k * 5 + j, none⟩ = some u := fun j u hu => (hbel.cell (p := ⟨g, o + k * 5 + j, none⟩) (by show g < B; omega)).trans (hxa j u hu)
      have hmem := List.getElem_mem hlt
      have hcall := HW.out _ hmem xa (fun k => F k ∨ k = wr.heap.size)
      have hst := emT_step l k hlt
      have hpre := emT_pre l (k + 1)
      have hdr := okWL_drop hlt
      clear hmem
      rw [ea] at hcell hcall
      have hva2 : ∀ w2, Below B w w2 → RdA w2 lo hi l[k] xa := fun w2 hb => hva.below hb hhi (Nat.le_refl _)
      rw [ea] at hva2
      obtain ⟨X1, hX1⟩ : ∃ z, z = X ++ 91 :: (emT (l.take k)).drop 1 := ⟨_, rfl⟩
      obtain ⟨X2, hX2⟩ : ∃ z, z = X1 ++ (if 0 < k then [44] else []) := ⟨_, rfl⟩
      have hX3 : X ++ 91 :: (emT (l.take (k + 1))).drop 1 = X2 ++ emV l[k] := by rw [hst, hX2, hX1]; simp
      have hlen : X2.length + (emV l[k]).length ≤ 100000000000000 := by
        have := congrArg List.length hX3
        simp only [List.length_append, List.length_drop, List.length_cons] at this
        have := HR.out
        rw [List.length_drop] at this
        omega
      have hlen1 : X1.length + 1 ≤ 140737488355328 := by
        have := congrArg List.length hX2
        simp only [List.length_append] at this
        omega
      rw [← hX1] at hwr
      clear hst hX1
      generalize l[k] = v' at *
      generalize v'.k = y1 at *
      generalize v'.n = y2 at *
      generalize strOf v'.s = y3 at *
      generalize v'.l.length = y4 at *
      generalize v'.ms.length = y5 at *
      have a0 : wr.cell? ⟨g, o + k * 5, none⟩ = _ := hcell 0 _ rfl
      have a1 := hcell 1 _ rfl
      have a2 := hcell 2 _ rfl
      have a3 := hcell 3 _ rfl
      have a4 := hcell 4 _ rfl
      clear hcell hxa hva ea hRR
      have hbA : Below wr.heap.size wr (wr.alloc (.cells #[.int .i64 y1, .int .i64 y2, .string y3, .slice p1 y4 p2, .slice p3 y5 p4] 25)) := (Below.refl _ _).alloc (Nat.le_refl _) _
      have hcm := comma_any B b (fun k => F k ∨ k = wr.heap.size) X1 k _ (hwr.more (.cells #[.int .i64 y1, .int .i64 y2, .string y3, .slice p1 y4 p2, .slice p3 y5 p4] 25)) (by have := hbA.size; omega) hlen1
      rw [← hX2] at hcm
      clear hX2
      have HCM := Lib.hid hcm; clear hcm
      have HCALL := Lib.hid (fun w2 hb h2 h3 => hcall X2 w2 (hva2 w2 hb) h2 h3 hlen); clear hcall hva2
      have HDR := Lib.hid (hq.trans hdr); clear hq hdr
      have HST := Lib.hid hX3; clear hX3
      have hkA := hwr.kp hbA (by omega)
      have HKA := Lib.hid (hkp.trans hkA)
      clear hkA hkp hbA
      have FE : ∀ (j : Nat) u, ([.int .i64 y1, .int .i64 y2, .string y3, .slice p1 y4 p2, .slice p3 y5 p4] : List Value)[j]? = some u → (wr.alloc (.cells #[.int .i64 y1, .int .i64 y2, .string y3, .slice p1 y4 p2, .slice p3 y5 p4] 25)).cell? ⟨wr.heap.size, j, none⟩ = some u := fun j u hu => by
        rw [cell_of_row _ _ j _ _ _ (heap_alloc_new wr _)]
        simpa using hu
      go_wp2_with fail
      refine HCM.out.mono ?_
      rintro e w2 ⟨rfl, hw2, hk2⟩
      have hs2 := hk2.1.size
      rw [szAlloc'] at hs2
      have hcell : ∀ (j : Nat) u, ([.int .i64 y1, .int .i64 y2, .string y3, .slice p1 y4 p2, .slice p3 y5 p4] : List Value)[j]? = some u → w2.cell? ⟨wr.heap.size, j, none⟩ = some u := fun j u hu => (World.cell?_of_block (hk2.2 wr.heap.size (.inr rfl))).trans (FE j u hu)
      have b0 := hcell 0 _ rfl
      have b1 := hcell 1 _ rfl
      have b2 := hcell 2 _ rfl
      have b3 := hcell 3 _ rfl
      have b4 := hcell 4 _ rfl
      have hK2 := HKA.out.trans (hk2.less (fun _ h => .inl h))
      have hc2 := HCALL.out w2 hK2.1 hw2 (by omega)
      have HK2 := Lib.hid hK2; clear hK2
      have HC2 := Lib.hid hc2; clear hc2
      clear hcell FE hk2 hw2
      go_wp2_with fail
      refine HC2.out.mono ?_
      rintro e w3 ⟨hk3, ⟨hok, rfl, hw3⟩ | ⟨hok, rfl⟩⟩
      · have HO := Lib.hid hok; clear hok
        go_wp2_with fail
        go_roundw
        case rel => exact ⟨k + 1, by go_num, by omega, by rw [HST.out]; exact hw3.less (fun _ h => .inl h), by rw [HDR.out]; exact ⟨fun h => h.2, fun h => ⟨HO.out, h⟩⟩, HK2.out.trans (hk3.less (fun _ h => .inl h))⟩
        case measure => simp [intOf]; omega
      · have HO := Lib.hid hok; clear hok
        go_wp2_with fail
        go_ret
        exact ⟨HK2.out.trans (hk3.less (fun _ h => .inl h)), .inr ⟨fun h => HO.out (HDR.out.1 h).1, rfl⟩⟩
    · have hlb : decide ((k : Int) < (n : Int)) = false := decide_eq_false (by omega)
      have hlb2 : decide (k < n) = false := decide_eq_false hlt0
      obtain rfl : n = k := by omega
      have hfin : l.take n = l := List.take_of_length_le (by rw [HN.out]; exact Nat.le_refl _)
      rw [hfin] at hwr
      have hq2 : Q := hq.2 (by rw [List.drop_of_length_le (by rw [HN.out]; exact Nat.le_refl _), okWL]; trivial)
      have HQ2 := Lib.hid hq2; clear hq2 hq
      have hp := put_any B b F _ ⟨#[93]⟩ wr hwr (by have := HR.out; simp only [List.length_append, List.length_cons]; show _ + 1 ≤ _; omega)
      rw [lit_data, show X ++ 91 :: (emT l).drop 1 ++ [93] = X ++ 91 :: ((emT l).drop 1 ++ [93]) by simp, HY.out] at hp
      have HP := Lib.hid hp; clear hp hwr
      have HKP := Lib.hid hkp; clear hkp hbel
      go_wp2_with fail
      refine HP.out.mono ?_
      rintro e w2 ⟨rfl, hw2, hk2⟩
      go_wp2_with fail
      go_ret
      exact ⟨HKP.out.trans hk2, .inl ⟨HQ2.out, rfl, hw2⟩⟩
end Go.Proofs.Ytbepnjgbkfidiaa.Em
