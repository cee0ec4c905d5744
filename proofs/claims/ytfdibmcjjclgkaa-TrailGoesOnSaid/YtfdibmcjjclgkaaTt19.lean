/- Merged: TlL. -/
import Derived.Test.YtfdibmcjjclgkaaTt18
import Derived.Test.YtfdibmcjjclgkaaTt1
namespace Go.Proofs.Ytfdibmcjjclgkaa.Tl
open Go.Proofs Go.RowKit Go.Shelf
open Go.Proofs.Ytfdibmcjjclgkaa.Utf
open Go.Proofs.Ytfdibmcjjclgkaa.Ro
attribute [local go_sem] Oper.semAt_some

theorem ne_of : ∀ l : List En, (∀ e ∈ l, e.2.1.length ≤ 9223372036854775807) → ∃ d : List NE, d.map (·.1) = l
  | [], _ => ⟨[], rfl⟩
  | x :: r, h => by
    obtain ⟨d, hd⟩ := ne_of r (fun y hy => h y (List.mem_cons_of_mem _ hy))
    exact ⟨⟨x, h x List.mem_cons_self⟩ :: d, by rw [List.map_cons, hd]⟩
theorem infoQp : (Try.prog.info? 52).map (fun i => (i.zero, i.size, i.bytes)) = some (some (.pointer none), 1, 8) := by kernel_rfl
set_option maxRecDepth 100000 in
set_option maxHeartbeats 8000000 in
theorem pSince_any (v : Value) (l : List En) (s : Int) (w : World) (hl : RdE w w.heap.size v l) (hn : l.length ≤ 1000) (hI : ∀ e ∈ l, e.2.1.length ≤ 9223372036854775807) :
    Calls Try.prog 17 #[v, .int .i64 s] w (GivesSn l s 39 w) := by
  have hmm : ∀ W : World, (Instr.makeMap 47 none).run Try.prog W = .ok (.map (some W.heap.size)) (W.alloc (.map #[] 0)) := fun _ => by kernel_rfl
  refine (callsIn_wide (n := 6)).1 ?_
  refine callsIn_of_wp_marks Try.func17 rfl trivial ?_ rfl
  simp only [Try.ntmps17, List.size_toArray, List.length_cons, List.length_nil, Nat.reduceAdd, Nat.reduceSub, Array.replicate_succ, Array.replicate_zero, List.push_toArray, List.append_toArray, List.nil_append, List.cons_append]
  obtain ⟨i0, hi, hz0, hz1, hz2⟩ := info_parts infoQp
  obtain ⟨A, c, rfl⟩ := RdE.form hl
  obtain ⟨d, hd⟩ := ne_of l hI
  have HD := Lib.hid hd
  have HL := Lib.hid hl
  clear hl hI hd
  obtain ⟨n, hn'⟩ : ∃ n, l.length = n := ⟨_, rfl⟩
  have HN := Lib.hid hn'
  have HDN := Lib.hid (show d.length = n by rw [← hn', ← HD.out, List.length_map])
  rw [hn'] at hn HL ⊢
  clear hn'
  gi_wp2
  refine ⟨trivial, ?_⟩
  refine (backE_in Fence.wide _ trivial rfl _ _ _ _).mono ?_
  rintro e w' ⟨rfl, rfl⟩
  gi_wp2
  obtain ⟨W0, hW0⟩ : ∃ W0, W0 = ((((w.alloc (.cells #[.int .i64 s] 2)).alloc (.map #[] 0)).alloc (.cells #[.map (some (w.heap.size + 1))] 47)).alloc (.cells #[.slice none 0 0] 48)).alloc (.cells #[.slice A n c] 22) := ⟨_, rfl⟩
  have hsz : W0.heap.size = w.heap.size + 5 := by rw [hW0]; simp
  have hS0 : SiI w.heap.size s (.slice A n c) [] 0 W0 := by
    obtain ⟨X1, hX1⟩ : ∃ X, X = w.alloc (.cells #[.int .i64 s] 2) := ⟨_, rfl⟩
    have z1 : X1.heap.size = w.heap.size + 1 := by rw [hX1]; simp
    obtain ⟨X2, hX2⟩ : ∃ X, X = X1.alloc (.map #[] 0) := ⟨_, rfl⟩
    have z2 : X2.heap.size = w.heap.size + 2 := by rw [hX2]; simp [z1]
    obtain ⟨X3, hX3⟩ : ∃ X, X = X2.alloc (.cells #[.map (some (w.heap.size + 1))] 47) := ⟨_, rfl⟩
    have z3 : X3.heap.size = w.heap.size + 3 := by rw [hX3]; simp [z2]
    obtain ⟨X4, hX4⟩ : ∃ X, X = X3.alloc (.cells #[.slice none 0 0] 48) := ⟨_, rfl⟩
    have z4 : X4.heap.size = w.heap.size + 4 := by rw [hX4]; simp [z3]
    rw [← hX1, ← hX2, ← hX3, ← hX4] at hW0
    have b1 : Boxed X1 w.heap.size 2 (.int .i64 s) := by rw [hX1]; exact Boxed.new w _ _
    have b2 : X2.ownsMap Try.prog 9 ptrElem (w.heap.size + 1) 0 (pD []) := by rw [hX2, ← z1]; exact World.ownsMap_made _ _ _ _
    have b3 : Boxed X3 (w.heap.size + 2) 47 (.map (some (w.heap.size + 1))) := by rw [hX3, ← z2]; exact Boxed.new X2 _ _
    have b4 : Boxed X4 (w.heap.size + 3) 48 (.slice none 0 0) := by rw [hX4, ← z3]; exact Boxed.new X3 _ _
    have b5 : Boxed W0 (w.heap.size + 4) 22 (.slice A n c) := by rw [hW0, ← z4]; exact Boxed.new X4 _ _
    refine ⟨?_, ?_, b5, ⟨_, ?_, World.ownsRow_nil _ _ _ _⟩, (fun x hx => by cases hx), List.nodup_nil, ?_, by omega⟩
    · rw [hW0, hX4, hX3, hX2]; exact (((b1.alloc _).alloc _).alloc _).alloc _
    · rw [hW0, hX4]; exact (b3.alloc _).alloc _
    · rw [hW0]; exact b4.alloc _
    · rw [hW0, hX4, hX3]; exact ((b2.alloc _).alloc _).alloc _
  have hBw : Below w.heap.size w W0 := by rw [hW0]; exact (((((Below.refl _ w).alloc (Nat.le_refl _) _).alloc (by simp) _).alloc (by simp; omega) _).alloc (by simp; omega) _).alloc (by simp; omega) _
  rw [← hW0]
  clear hW0
  have hseq := backE_stops Fence.wide 5 trivial rfl (by omega) (w.heap.size + 4) w.heap.size c A d (by rw [HDN.out]; omega) W0 (by omega) hBw.size (by rw [HDN.out]; exact hS0.bB.cell)
    (fun h => by
      obtain ⟨hs, A', c', e, hA⟩ := HL.out
      injection e with e1 e2 e3
      subst e1
      obtain ⟨g, o, e, hg, hx⟩ := hA (by rw [enC_len, HN.out, ← HDN.out]; exact h)
      refine ⟨g, o, e, hg, fun i hi => ?_⟩
      have hil : i < l.length := by rw [HN.out, ← HDN.out]; exact hi
      have hdi : d[i].1 = l[i] := by simp only [← HD.out, List.getElem_map]
      have hk := hx i (by rw [enC_len]; exact hil)
      rw [enC_at hil] at hk
      unfold AtE
      rw [hdi]
      exact ⟨(hBw.cell (p := ⟨g, o + i * 3, none⟩) hg).trans (hk 0 _ rfl), (hBw.cell (p := ⟨g, o + i * 3 + 1, none⟩) hg).trans (hk 1 _ rfl), (hBw.cell (p := ⟨g, o + i * 3 + 2, none⟩) hg).trans (hk 2 _ rfl)⟩)
  refine wpIn_rangeFunc_ownH rfl (by omega) (gf := 26) (lb := #[.pointer (some ⟨w.heap.size + 4, 0, none⟩)]) rfl trivial (enters_of Try.func26 (by kernel_rfl) rfl)
    hseq (fun h k => h.trans k) (fun W l o o' hl ho hc hw => ⟨belowK_b (w := W0) hBw.size W l o o' hl ho hc hw, World.putObj_heap_other (by omega)⟩) (Below.refl _ _) (fun _ => rfl)
    (fun pre W => (∃ O : List (Nat × Pa), O.map (·.2) = fndS s (vE pre) ∧ SiI w.heap.size s (.slice A n c) O pre.length W) ∧ Below w.heap.size w W)
    (fun _ _ _ => False)
    (OwnFrom.and (fun pre X Y row hs hg hr => by
      obtain ⟨O, h1, h2⟩ := hs
      exact ⟨O, h1, h2.kept hg (fun r e => ⟨by have := (hr r e).1; omega, (hr r e).2⟩)⟩) (ownFrom_below (Nat.le_refl _) hBw.size))
    (fun _ _ _ _ _ hs _ _ => hs)
    ⟨⟨[], rfl, hS0⟩, hBw⟩
    (fun x a' W => ∃ Bx : Nat, w.heap.size + 5 ≤ Bx ∧ W.heap[Bx]? = some (.cells (enR x.2.1).toArray 26 (0, 0)) ∧ a' = { tmps := #[.slice A n c, .int .i64 s, undef, .pointer (some ⟨w.heap.size, 0, none⟩), .slice none 0 0, .pointer (some ⟨w.heap.size + 1 + 1, 0, none⟩), .pointer (some ⟨w.heap.size + 1 + 1 + 1, 0, none⟩), undef, .pointer (some ⟨Bx, 0, none⟩), undef, undef, .map (some (w.heap.size + 1)), .slice A n c, .func (.func 26) #[] #[.pointer (some ⟨w.heap.size + 1 + 1 + 1 + 1, 0, none⟩)], .int .i64 x.1.1, .agg (enR x.2.1).toArray, undef, undef, undef, undef, undef, undef, undef, undef, undef, undef, undef, undef, undef, undef, undef, undef, undef, undef, undef, undef, undef, undef, undef, undef, undef, undef, undef, undef, undef, undef, undef, undef, undef, undef, undef, undef, undef, undef], defers := [] })
    (fun x a' s X Y row hs hg hr => by
      obtain ⟨Bx, e1, e2, e3⟩ := hs
      exact ⟨Bx, e1, cells_kept e2 hg (fun r e => (hr r e).2), e3⟩) ?assign ?body ?done ?stop
  case assign =>
    rintro l pre ⟨xi, ⟨⟨xq, xd, xa⟩, hxm⟩⟩ W K hI hK
    have HK := Lib.hid hK
    have HI := Lib.hid hI
    clear hK hI
    simp only [encIE, enR]
    gi_wp2
    have hws : w.heap.size + 5 ≤ W.heap.size := by obtain ⟨O, -, h⟩ := HI.out.1; exact h.sz
    refine HK.out _ _ ((KeepsOthers.alloc _ _).from _) ⟨(Below.refl _ W).alloc (by omega) _, (Below.heap_alloc W _ _ (by omega))⟩ ⟨?_, HI.out.2.alloc (by omega) _⟩ ⟨W.heap.size, hws, Tr.heapNew W _, rfl⟩
    obtain ⟨O, h1, h2⟩ := HI.out.1
    exact ⟨O, h1, h2.alloc _⟩
  case body =>
    rintro lp pre ⟨xi, ⟨⟨xq, xd, xa⟩, hxm⟩⟩ a' W hl - ⟨⟨O, hO, hS⟩, hB⟩ ⟨Bx, hBx, bX, rfl⟩ hlt
    have hpl : pre.length < n := by rw [HDN.out] at hlt; exact hlt
    have hVE : vE (pre ++ [(xi, (⟨(xq, xd, xa), hxm⟩ : NE))]) = (xq, xd, xa) :: vE pre := vE_snoc _ _
    have hnd := fnd_nodup s (vE pre)
    rw [← hO, List.map_map] at hnd
    have hkey := key_of (s := xd) hxm
    simp only [enR] at bX ⊢
    obtain ⟨X, hX⟩ : ∃ X, strOf xd = X := ⟨_, rfl⟩
    have HX := Lib.hid hX
    rw [hX] at hkey bX ⊢
    obtain ⟨x0, x1, x2⟩ := row3 bX
    obtain ⟨vf, hvf, hrow⟩ := hS.row
    have c1 := hS.bs.cell
    have c2 : W.cell? ⟨w.heap.size + 1 + 1, 0, none⟩ = some (.map (some (w.heap.size + 1))) := hS.bm.cell
    have HKEY := Lib.hid hkey
    have HS := Lib.hid hS
    have HB := Lib.hid hB
    have HO := Lib.hid hO
    have HVE := Lib.hid hVE
    have HND := Lib.hid (show (O.map (·.2.1)).Nodup from hnd)
    have HVF := Lib.hid hvf
    have HROW := Lib.hid hrow
    have HBX := Lib.hid bX
    have hwz := hB.size
    have hwz5 := hS.sz
    have hol : O.length ≤ 1000 := by
      have h := fnd_len s (vE pre)
      rw [← hO, List.length_map] at h
      have h2 : (vE pre).length = pre.length := by unfold vE; rw [List.length_reverse, List.length_map]
      omega
    clear hX hkey hVE hS hB hO hnd hvf hrow bX hl hlt
    by_cases hq : xq ≤ s
    · have tq : decide (xq ≤ s) = true := decide_eq_true hq
      have HQ := Lib.hid hq
      clear hq
      gi_wp2
      exact ⟨KeepsFrom.refl _ _, Tr.KB.refl _ _ _, ⟨O, by rw [HVE.out, fnd_cons, stpB, if_pos HQ.out]; exact HO.out, by rw [List.length_append]; exact HS.out.more⟩, HB.out⟩
    · have tq : decide (xq ≤ s) = false := decide_eq_false hq
      have HQ := Lib.hid hq
      clear hq
      obtain ⟨bw, hbw⟩ : ∃ b, (xa != 1) = b := ⟨_, rfl⟩
      obtain ⟨bi, hbi⟩ : ∃ b, (xa != 3) = b := ⟨_, rfl⟩
      have HBW := Lib.hid (show decide (xa ≠ 1) = bw by rw [← hbw, Bool.eq_iff_iff]; simp)
      have HBI := Lib.hid (show decide (xa ≠ 3) = bi by rw [← hbi, Bool.eq_iff_iff]; simp)
      by_cases hin : xd ∈ O.map (·.2.1)
      · have hh : Maps.has (pD O) (eK xd) = true := by rw [pD_has]; exact decide_eq_true hin
        have HIN := Lib.hid hin
        obtain ⟨⟨b, p⟩, hb, hid⟩ := List.mem_map.1 hin
        simp only at hid
        have hat := pD_at HND.out hb (.lit (.int .i64 (-1)))
        simp only [hid] at hat
        obtain ⟨pa, pb, pc, pd⟩ := p
        obtain ⟨hb5, hblk⟩ := HS.out.blk _ hb
        obtain ⟨y0, y1, y2, y3⟩ := row4 hblk
        have f1 := frozen_of_row W b 1 _ _ hblk
        have HHH := Lib.hid hh
        have HAT := Lib.hid hat
        have HBM := Lib.hid hb
        have HID := Lib.hid hid
        clear hin hh hat hb hid hblk y0 y2 y3
        gi_wp2_with (gi_at_lookup; refine look_ptr _ rfl _ _ 47 rfl 9 52 keyE Try.underlying47 (zeroQ _) (w.heap.size + 1) pre.length (pD O) rfl HS.out.mp _ _ rfl HKEY.out b HAT.out HHH.out ?_)
        have hup := HS.out.up (xq, xd, xa) HBM.out HID.out HND.out
        simp only [HBW.out] at hup
        refine ⟨(KeepsOthers.setCell _ _ _).from _, ⟨(Below.refl _ W).setCell (p := ⟨b, 1, none⟩) (by show w.heap.size ≤ b; omega) _, Below.heap_setCell _ _ _ _ (by show w.heap.size + 4 ≠ b; omega)⟩, ⟨upO (xq, xd, xa) O, ?_, by rw [List.length_append]; exact hup.more⟩, HB.out.setCell (p := ⟨b, 1, none⟩) (by show w.heap.size ≤ b; omega) _⟩
        rw [HVE.out, fnd_cons, ← HO.out, stpB, if_neg (show ¬ xq ≤ s by have := HQ.out; omega), if_pos (by rw [List.map_map]; exact HIN.out)]
        unfold upO
        rw [List.map_map, List.map_map]; rfl
      · have hh : Maps.has (pD O) (eK xd) = false := by rw [pD_has]; exact decide_eq_false hin
        have HIN := Lib.hid hin
        have HHH := Lib.hid hh
        have hlb : Bx < W.heap.size := (Array.getElem?_eq_some_iff.1 HBX.out).1
        have hal : ∀ (j : Nat) (o : Obj), (W.alloc o).cell? ⟨Bx, j, none⟩ = W.cell? ⟨Bx, j, none⟩ := fun j o => ((Below.refl W.heap.size W).alloc (Nat.le_refl _) o).cell (p := ⟨Bx, j, none⟩) hlb
        have ha1 : ∀ o, (W.alloc o).cell? ⟨Bx, 1, none⟩ = some (.string X) := fun o => (hal 1 o).trans x1
        have ha2 : ∀ o, (W.alloc o).cell? ⟨w.heap.size + 1 + 1, 0, none⟩ = some (.map (some (w.heap.size + 1))) := fun o => (HS.out.alloc o).bm.cell
        obtain ⟨po, hpo⟩ : ∃ po : Obj, po = .cells #[.string X, .bool false, .bool bi, .int .i64 xq] 39 (0, 0) := ⟨_, rfl⟩
        have HPO := Lib.hid hpo
        have HPV := Lib.hid (show po = .cells #[.string (strOf (xq, xd, xa).2.1), .bool false, .bool (decide ((xq, xd, xa).2.2 ≠ 3)), .int .i64 (xq, xd, xa).1] 39 (0, 0) by rw [hpo, HX.out, HBI.out])
        clear hin hh hal hpo
        gi_wp2_with (first
          | (gi_at_lookup; refine look_nil _ rfl _ _ 47 rfl 9 52 keyE Try.underlying47 (zeroQ _) (w.heap.size + 1) pre.length (pD O) rfl HS.out.mp _ _ rfl HKEY.out HHH.out ?_)
          | (gi_at_mapUpdate; rw [← HPO.out]; refine wpListIn_mapUpdate_own _ rfl _ _ _ 47 rfl 9 52 keyE Try.underlying47 ptrElem (w.heap.size + 1) pre.length (pD O) rfl (HS.out.mp.alloc _) (by unfold maxLen; omega) _ _ _ rfl rfl HKEY.out _ [] (ptrElem_mk _) ?_; intro w2 hown2 hg2;
             have HOWN2 := Lib.hid hown2; have HG2 := Lib.hid hg2;
             have hs12 : W.heap.size + 1 ≤ w2.heap.size := Nat.le_trans (by simp) hg2.size;
             have d3 : w2.cell? ⟨w.heap.size + 1 + 1 + 1, 0, none⟩ = some vf := (show Boxed w2 (w.heap.size + 3) 48 vf from (HVF.out.alloc po).kept hg2 (by simp)).cell;
             have HOR2 := Lib.hid (own_keep (HROW.out.alloc po) (fun g hg => hg2.block g (HROW.out.alloc po |>.lt g hg).2 (fun e => row_map HS.out HROW.out (by rw [hg]; exact e))));
             clear hown2 hg2)
          | (gi_at_builtin; refine pause_at ?_))
        refine ⟨?_⟩
        refine wpListIn_append_own_at _ rfl _ _ 48 rfl w.heap.size 52 i0 _ 1 8 Try.underlying48 hi hz0 hz1 hz2 (by rfl) (by decide) vf O.length (O.map fun x => ptrV x.1) rfl (HOR2.out.alloc _) ⟨w2.heap.size, 0, none⟩ 1 1 [ptrV W.heap.size] rfl rfl (cells_new _ _ _) (by intro u hu; simp at hu; subst hu; rfl) (by unfold maxLen; omega) (by omega) (by simp; omega) ?_
        intro v4 w4 hown4 hg4 hnil hat4
        clear hnil hat4
        obtain ⟨g4, cap4, rfl⟩ := ownsRow_succ hown4
        have hc4 : w4.cell? ⟨w.heap.size + 1 + 1 + 1, 0, none⟩ = some vf := (show Boxed w4 (w.heap.size + 3) 48 vf from cells_far HS.out HROW.out HVF.out (by decide) HG2.out hg4).cell
        have hf4 : w4.frozen? ⟨w.heap.size + 1 + 1 + 1, 0, none⟩ = false := (show Boxed w4 (w.heap.size + 3) 48 vf from cells_far HS.out HROW.out HVF.out (by decide) HG2.out hg4).frozen
        have HX4 := Lib.hid (cells_far HS.out HROW.out HBX.out (by decide) HG2.out hg4)
        have HP4 := Lib.hid (past_far HS.out HROW.out HPO.out HG2.out hg4)
        have e2 : ∀ v', (w4.setCell ⟨w.heap.size + 1 + 1 + 1, 0, none⟩ v').cell? ⟨Bx, 2, none⟩ = some (.int .i64 xa) := fun v' => (row3 (show (w4.setCell ⟨w.heap.size + 1 + 1 + 1, 0, none⟩ v').heap[Bx]? = _ from (Below.heap_setCell _ _ _ _ (by show Bx ≠ w.heap.size + 3; omega)).trans HX4.out)).2.2
        have e3 : ∀ v', (w4.setCell ⟨w.heap.size + 1 + 1 + 1, 0, none⟩ v').cell? ⟨W.heap.size, 1, none⟩ = some (.bool false) := fun v' => (row4 (show (w4.setCell ⟨w.heap.size + 1 + 1 + 1, 0, none⟩ v').heap[W.heap.size]? = _ from (Below.heap_setCell _ _ _ _ (by show W.heap.size ≠ w.heap.size + 3; omega)).trans HP4.out)).2.1
        have e4 : ∀ v', (w4.setCell ⟨w.heap.size + 1 + 1 + 1, 0, none⟩ v').frozen? ⟨W.heap.size, 1, none⟩ = false := fun v' => frozen_of_row _ _ 1 _ _ (show (w4.setCell ⟨w.heap.size + 1 + 1 + 1, 0, none⟩ v').heap[W.heap.size]? = _ from (Below.heap_setCell _ _ _ _ (by show W.heap.size ≠ w.heap.size + 3; omega)).trans HP4.out)
        have HOWN4 := Lib.hid hown4
        have HG4 := Lib.hid hg4
        clear hown4 hg4
        gi_wp2
        have hput := HS.out.put (xq, xd, xa) HVF.out HROW.out HPV.out HOWN2.out HG2.out HOWN4.out HG4.out
        simp only [HBW.out] at hput
        obtain ⟨hp1, hp2⟩ := hput
        refine ⟨?_, ⟨hp2, hp1.bB.trans HS.out.bB.symm⟩, ⟨_, ?_, by rw [List.length_append]; exact hp1⟩, HB.out.trans hp2⟩
        · exact put_keeps (n₀ := W0.heap.size) HS.out HROW.out HG2.out HG4.out
        · rw [HVE.out, fnd_cons, ← HO.out, stpB, if_neg (show ¬ xq ≤ s by have := HQ.out; omega), if_neg (by rw [List.map_map]; exact HIN.out), List.map_append]; rfl
  case done =>
    rintro D ys W hD hys ⟨⟨O, hO, hS⟩, hB⟩ hK
    have HVE := Lib.hid (show vE ys = l by rw [hys, vE_all]; exact HD.out)
    obtain ⟨vf, hvf, hrow⟩ := hS.row
    have hc : W.cell? ⟨w.heap.size + 1 + 1 + 1, 0, none⟩ = some vf := hvf.cell
    have HOL := Lib.hid (show O.length ≤ n by
      have h := fnd_len s (vE ys)
      rw [← hO, List.length_map, HVE.out, HN.out] at h
      exact h)
    have HR := Lib.hid (rising_any vf O W (by have := HOL.out; omega) (by
      obtain ⟨A', c', rfl⟩ := own_slice hrow
      refine ⟨A', c', rfl, fun h0 => ?_⟩
      obtain ⟨g, cc, e, hgb, hgl, -⟩ := own_spot hrow (by rw [List.length_map]; exact h0)
      injection e with e1 e2 e3
      subst e1 e3
      refine ⟨g, 0, rfl, hgl, fun i hi => ?_⟩
      rw [Nat.zero_add]
      exact (own_cell hrow (j := i) (by rw [List.getElem?_map, List.getElem?_eq_getElem hi]; rfl)).1) (fun x hx => ⟨(Array.getElem?_eq_some_iff.1 (hS.blk x hx).2).1, (hS.blk x hx).2⟩))
    rw [show (O.map (·.2)).reverse = canS s [] l by rw [hO, HVE.out]; exact fnd_can s l] at HR
    have HB := Lib.hid hB
    have HK := Lib.hid hK
    have hsz5 := hS.sz
    clear hO hS hvf hrow hB hK hys
    gi_wp2
    refine ⟨trivial, ?_⟩
    refine (callsIn_wide.2 HR.out).mono ?_
    rintro e w5 ⟨x5, rfl, hr, hb5⟩
    have HR5 := Lib.hid hr
    have HB5 := Lib.hid (HB.out.trans (hb5.mono HB.out.size))
    have HK5 := Lib.hid ((hb5.block D (Array.getElem?_eq_some_iff.1 HK.out).1).trans HK.out)
    clear hr hb5 hc HR
    gi_wp2
    have hk := HK5.out
    refine ⟨by simp, .inl ⟨_, _, rfl, run_takeDeferred hk, ?_⟩⟩
    refine ⟨_, results_tmp rfl _ _ _, x5, rfl, ?_, HB5.out.trans (belowK_b (w := w) (Nat.le_refl _) w5 D _ _ (by omega) hk rfl rfl)⟩
    exact own_dn3 (ownsRow_putObj HR5.out (.deferred none) hk rfl) HB.out.size
  case stop =>
    rintro D c pre W _ _ h _
    exact h.elim
end Go.Proofs.Ytfdibmcjjclgkaa.Tl
