/- Merged: PaAp. -/
import Derived.Test.YtbfogkcnfnjcaaaTt38
namespace Go.Proofs.Ytbfogkcnfnjcaaa.Pa
open Go.Proofs Go.RowKit Go.Lib
open Go.Proofs.Ytbfogkcnfnjcaaa.Utf
open Go.Proofs.Ytbfogkcnfnjcaaa.Sc
open Go.Proofs.Ytbfogkcnfnjcaaa.Re
open Go.Proofs.Ytbfogkcnfnjcaaa.Tr
open Go.Proofs.Ytbfogkcnfnjcaaa.Po
open Go.Proofs.Ytbfogkcnfnjcaaa.Em (lenV lenL szU szUL wfV wfL szA_of)

def GivesApply (v p : V) (w : World) (e : Ending) (w' : World) : Prop :=
  (∃ (cs : List Value) (n : Int), e = .returned (.tuple #[.agg cs.toArray, .int .i64 n]) ∧
    ((fitP v p ∧ n = 0 ∧ ∃ F, RdF w' (aplV v (lst p)) cs F ∧ F.Nodup ∧ ∀ k ∈ F, w.heap.size ≤ k ∧ k < w'.heap.size) ∨
      (¬ fitP v p ∧ n = 90 ∧ cs = [.int .i64 0, .int .i64 0, .string ⟨#[]⟩, .slice none 0 0, .slice none 0 0]))) ∧ Below w.heap.size w w'
theorem row6 {w : World} {b : Nat} {t : TypeId} {v0 v1 v2 v3 v4 v5 : Value} {fr : Nat × Nat} (h : w.heap[b]? = some (.cells #[v0, v1, v2, v3, v4, v5] t fr)) :
    w.cell? ⟨b, 0, none⟩ = some v0 ∧ w.cell? ⟨b, 1, none⟩ = some v1 ∧ w.cell? ⟨b, 2, none⟩ = some v2 ∧ w.cell? ⟨b, 3, none⟩ = some v3 ∧ w.cell? ⟨b, 4, none⟩ = some v4 ∧ w.cell? ⟨b, 5, none⟩ = some v5 := by
  simp [World.cell?, h]
theorem own_same {w w' : World} {B e s n : Nat} {v : Value} {xs : List Value} (h : w.ownsRow B e s v n xs) (hk : ∀ g, B ≤ g → g < w.heap.size → w'.heap[g]? = w.heap[g]?) : w'.ownsRow B e s v n xs := by
  obtain ⟨q1, q⟩ := h
  refine ⟨q1, ?_⟩
  rcases q with q | ⟨g, cap, cur, e1, q3, q4, q5⟩
  · exact .inl q
  · exact .inr ⟨g, cap, cur, e1, q3, (hk g q3 (Array.getElem?_eq_some_iff.1 q4).1).trans q4, q5⟩
def ApI (v p : V) (b n1 : Nat) (w1 : World) (k : Nat) (wr : World) : Prop :=
  ∃ (cs : List Value) (F : List Nat), wr.heap[b]? = some (.cells cs.toArray 25 (0, 0)) ∧ RdF wr (aplV v ((lst p).take k)) cs F ∧ F.Nodup ∧ (∀ x ∈ F, n1 ≤ x ∧ x < wr.heap.size) ∧
    (∀ x, x < n1 → x ≠ b → wr.heap[x]? = w1.heap[x]?) ∧ n1 ≤ wr.heap.size

set_option maxRecDepth 100000 in
set_option maxHeartbeats 2000000 in
theorem Apply_any (v p : V) (cv cp : List Value) (w : World) (hv : RdA w 0 w.heap.size v cv) (hp : RdA w 0 w.heap.size p cp) (wv : wfV v) (wp : wfV p) (zv : szU v ≤ 10000000) (zp : szU p ≤ 10000000) :
    Calls Try.prog 10 #[.agg cv.toArray, .agg cp.toArray] w (GivesApply v p w) := by
  have hlv := Em.len_of_RdA v cv hv
  have hlp := Em.len_of_RdA p cp hp
  have zv4 := szA_of 4611686018427387904 v wv (by omega)
  have zv2 := szA_of 140737488355328 v wv (by omega)
  have zp2 := szA_of 140737488355328 p wp (by omega)
  have znm := ((szA_eq _ p).1 (szA_of 4398046511000 p wp (by omega))).2.2.2.2.2.1
  have hml : p.ms.length ≤ 10000000 := Nat.le_trans (ms_szU p) zp
  have HPATHS := Lib.hid (fun (W : World) (hW : Below w.heap.size w W) => paths_any v p cv cp W (hv.below hW (Nat.le_refl _) hW.size) (hp.below hW (Nat.le_refl _) hW.size) zv4 znm hml)
  have HCPY := Lib.hid (fun (W : World) (hW : Below w.heap.size w W) => Copy_any (ht v) v (Nat.le_refl _) zv2 cv W (hv.below hW (Nat.le_refl _) hW.size))
  -- facts on the values under way
  have HFITL := Lib.hid (fun h : fitP v p => fit_of h hlp)
  have HCUR := Lib.hid (show ∀ h : fitP v p, ∀ k, szU (aplV v ((lst p).take k)) ≤ 20000000 ∧ wfV (aplV v ((lst p).take k)) from fun h k => ⟨by have := szU_take (fit_of h hlp) hlv k; omega, wfV_apl _ v ((fit_of h hlp).take k) hlv wv fun m hm => by
    obtain ⟨nm, _, h2, _⟩ := lst_mem (List.mem_of_mem_take hm)
    exact wfV_ms wp _ h2⟩)
  have HLV := Lib.hid hlv
  have HNL := Lib.hid (ns_len hlp)
  obtain ⟨A0, c0, A20, c20, rfl, -⟩ := hv.cells
  obtain ⟨B0, e0, B20, e20, rfl, hnl, -, hpm⟩ := hp.cells
  obtain ⟨d, hd⟩ := mems_of hnl hpm
  have HDL := Lib.hid hd.1
  have HDN := Lib.hid hd.2.1
  have HDR := Lib.hid (show RawM w w.heap.size B20 d from fun h => by
    obtain ⟨g, o, e, _, g2, hr⟩ := hd.2.2.1 h
    exact ⟨g, o, e, g2, hr⟩)
  have HDV := Lib.hid hd.2.2.2
  have HZM := Lib.hid (show ∀ y ∈ p.ms, szA 140737488355328 y from fun y hy => szAL_mem ((szA_eq _ p).1 zp2).2.2.2.2.2.2.2 hy)
  have HZN := Lib.hid (show ∀ nm ∈ p.ns, ∀ q ∈ pth nm, q.length ≤ 9223372036854775807 from fun nm hn q hq => by
    have h1 := znm nm hn
    have h2 := pth_len nm
    have h3 := len_sum hq
    omega)
  clear hv hp hpm hd zv4 zv2 zp2 znm zv zp wv wp hlv hlp
  obtain ⟨len, hln⟩ : ∃ len, p.ms.length = len := ⟨_, rfl⟩
  have HLN := Lib.hid hln
  rw [hln] at HPATHS ⊢
  rw [hln] at hml
  have HML := Lib.hid hml
  clear hnl hln hml
  generalize v.k = vk at *
  generalize v.n = vn at *
  generalize strOf v.s = VS at *
  generalize v.l.length = vl at *
  generalize v.ms.length = vm at *
  generalize p.k = pk at *
  generalize p.n = pn at *
  generalize strOf p.s = PS at *
  generalize p.l.length = pl at *
  obtain ⟨W0, hW0⟩ : ∃ W0, W0 = (((w.alloc (.cells #[.int .i64 vk, .int .i64 vn, .string VS, .slice A0 vl c0, .slice A20 vm c20] 25)).alloc (.cells #[.int .i64 pk, .int .i64 pn, .string PS, .slice B0 pl e0, .slice B20 len e20] 25)).alloc (.cells #[.int .i64 0, .int .i64 0, .string ⟨#[]⟩, .slice none 0 0, .slice none 0 0] 25)) := ⟨_, rfl⟩
  have HB0 := Lib.hid (show Below w.heap.size w W0 by rw [hW0]; exact (((Below.refl _ _).alloc (Nat.le_refl _) _).alloc (by simp) _).alloc (by simp; omega) _)
  have HS0 := Lib.hid (show W0.heap.size = w.heap.size + 3 by rw [hW0]; exact szAl3 _ _ _ _)
  have hv0 : W0.heap[w.heap.size]? = some (.cells #[.int .i64 vk, .int .i64 vn, .string VS, .slice A0 vl c0, .slice A20 vm c20] 25 (0, 0)) := by rw [hW0]; exact heapOld (heapOld (heapNew _ _) _) _
  have hp0 : W0.heap[w.heap.size + 1]? = some (.cells #[.int .i64 pk, .int .i64 pn, .string PS, .slice B0 pl e0, .slice B20 len e20] 25 (0, 0)) := by
    rw [hW0]; refine heapOld ?_ _
    rw [show w.heap.size + 1 = (w.alloc (.cells #[.int .i64 vk, .int .i64 vn, .string VS, .slice A0 vl c0, .slice A20 vm c20] 25)).heap.size by simp]; exact heapNew _ _
  have hr0 : W0.heap[w.heap.size + 1 + 1]? = some (.cells #[.int .i64 0, .int .i64 0, .string ⟨#[]⟩, .slice none 0 0, .slice none 0 0] 25 (0, 0)) := by
    rw [hW0, show w.heap.size + 1 + 1 = ((w.alloc (.cells #[.int .i64 vk, .int .i64 vn, .string VS, .slice A0 vl c0, .slice A20 vm c20] 25)).alloc (.cells #[.int .i64 pk, .int .i64 pn, .string PS, .slice B0 pl e0, .slice B20 len e20] 25)).heap.size by simp]; exact heapNew _ _
  have HV0 := Lib.hid hv0
  have HP0 := Lib.hid hp0
  have HR0 := Lib.hid hr0
  have HW0 := Lib.hid hW0
  rw [hW0] at hv0 hp0
  obtain ⟨⟨p0, p1, p2, p3, p4⟩, -⟩ := row5 hv0
  obtain ⟨⟨s0, s1, s2, s3, s4⟩, -⟩ := row5 hp0
  clear hW0 hv0 hp0 hr0
  go_enter Try.func10, Try.ntmps10
  go_wp2_with fail
  rw [← HW0.out]
  refine (HPATHS.out _ HB0.out).mono ?_
  rintro e w1 ⟨⟨val, ok, rfl, hok, hval⟩, hb1⟩
  have HB1 := Lib.hid (show Below W0.heap.size W0 w1 from hb1)
  have HS1 := Lib.hid (show w.heap.size + 3 ≤ w1.heap.size by have := hb1.size; rw [HS0.out] at this; exact this)
  have HBW1 := Lib.hid (HB0.out.trans (hb1.mono HB0.out.size))
  have HV1 := Lib.hid ((hb1.block w.heap.size (by rw [HS0.out]; omega)).trans HV0.out)
  have HP1 := Lib.hid ((hb1.block (w.heap.size + 1) (by rw [HS0.out]; omega)).trans HP0.out)
  have HR1 := Lib.hid ((hb1.block (w.heap.size + 1 + 1) (by rw [HS0.out]; omega)).trans HR0.out)
  clear hb1 p0 p1 p2 p3 p4 s0 s1 s2 s3 s4
  cases ok
  · have HNF := Lib.hid (show ¬ fitP v p from fun h => by have := hok.2 h; cases this)
    clear hok hval
    obtain ⟨⟨r0, r1, r2, r3, r4⟩, ⟨f0, f1, f2, f3, f4⟩⟩ := row5 HR1.out
    go_wp2
    refine bodyPost_ret (res5b rfl rfl rfl (st5_row HR1.out (.int .i64 0) (.int .i64 0) (.string ⟨#[]⟩) (.slice none 0 0) (.slice none 0 0))) rfl ?_
    exact ⟨⟨_, 90, rfl, .inr ⟨HNF.out, rfl, rfl⟩⟩, st5_below HBW1.out (by omega) _ _ _ _ _⟩
  · have hfit := hok.1 rfl
    have HFIT := Lib.hid hfit
    obtain ⟨pa, hown, hpa⟩ := hval rfl
    have HPO := Lib.hid hown
    have HPA := Lib.hid hpa
    obtain ⟨qv, cq, rfl⟩ := own_is_slice hown
    have hnp : (List.map pth p.ns).length = len := by rw [List.length_map, HNL.out, HLN.out]
    rw [hnp] at HPO ⊢
    clear hok hval hfit hown hpa hnp
    obtain ⟨⟨p0, p1, p2, p3, p4⟩, ⟨f0, f1, f2, f3, f4⟩⟩ := row5 HV1.out
    go_wp2_with fail
    refine (HCPY.out _ HBW1.out).mono ?_
    rintro e w2 ⟨⟨cy, Fy, rfl, hcy, hny, hFy⟩, hb2⟩
    have HB2 := Lib.hid (show Below w1.heap.size w1 w2 from hb2)
    obtain ⟨cA, cc, cB, cd, FLz, FMz, rfl, -⟩ := hcy.cells
    have HRC := Lib.hid (And.intro hcy (And.intro hny hFy))
    have HV2 := Lib.hid ((hb2.block w.heap.size (by have := HS1.out; omega)).trans HV1.out)
    have HP2 := Lib.hid ((hb2.block (w.heap.size + 1) (by have := HS1.out; omega)).trans HP1.out)
    have HR2 := Lib.hid ((hb2.block (w.heap.size + 1 + 1) (by have := HS1.out; omega)).trans HR1.out)
    clear hcy hny hFy hb2 p0 p1 p2 p3 p4 f0 f1 f2 f3 f4
    generalize v.k = ck at *
    generalize v.n = cn at *
    generalize strOf v.s = CS at *
    generalize v.l.length = cl at *
    generalize v.ms.length = cm at *
    obtain ⟨⟨p0, p1, p2, p3, p4⟩, ⟨f0, f1, f2, f3, f4⟩⟩ := row5 HV2.out
    obtain ⟨⟨s0, s1, s2, s3, s4⟩, -⟩ := row5 HP2.out
    go_wp2_with fail
    obtain ⟨W3, hW3⟩ : ∃ W3, W3 = (((((w2.setCell ⟨w.heap.size, 0, none⟩ (.int .i64 ck)).setCell ⟨w.heap.size, 1, none⟩ (.int .i64 cn)).setCell ⟨w.heap.size, 2, none⟩ (.string CS)).setCell ⟨w.heap.size, 3, none⟩ (.slice cA cl cc)).setCell ⟨w.heap.size, 4, none⟩ (.slice cB cm cd)) := ⟨_, rfl⟩
    have HR3 := Lib.hid (show W3.heap[w.heap.size]? = some (.cells #[.int .i64 ck, .int .i64 cn, .string CS, .slice cA cl cc, .slice cB cm cd] 25 (0, 0)) by rw [hW3]; exact st5_row HV2.out _ _ _ _ _)
    have HO3 := Lib.hid (show ∀ k, k ≠ w.heap.size → W3.heap[k]? = w2.heap[k]? from fun k hk => by rw [hW3]; exact st5_other hk _ _ _ _ _)
    have HZ3 := Lib.hid (show W3.heap.size = w2.heap.size by rw [hW3]; exact st5_size (w := w2) (b := w.heap.size) _ _ _ _ _)
    have HBW2 := Lib.hid (show Below w.heap.size w w2 from HBW1.out.trans (HB2.out.mono HBW1.out.size))
    have HBW3 := Lib.hid (show Below w.heap.size w W3 by rw [hW3]; exact st5_below HBW2.out (Nat.le_refl _) _ _ _ _ _)
    rw [← hW3]
    clear hW3 p0 p1 p2 p3 p4 f0 f1 f2 f3 f4 s0 s1 s2 s3 s4
    go_loopw [26] (fun si wr => ∃ k : Nat, si = .int .i64 k ∧ k ≤ len ∧ Aside (ApI v p w.heap.size w1.heap.size w1 k wr) ∧ Aside (Below w.heap.size w wr)) (fun si _ => len - (intOf si).toNat)
    case atStart =>
      refine ⟨0, rfl, by omega, ?_, (show Below _ _ _ from HBW3.out)⟩
      obtain ⟨k1, k2, k3⟩ := HRC.out
      refine (show ApI _ _ _ _ _ _ _ from ⟨_, Fy, HR3.out, RdF.keep _ _ _ (fun k hk => HO3.out k (by have := (k3 k hk).1; have := HS1.out; omega)) k1, k2, fun x hx => by rw [HZ3.out]; exact k3 x hx, fun x hx hxb => (HO3.out x hxb).trans (HB2.out.block x hx), by rw [HZ3.out]; exact HB2.out.size⟩)
    case round =>
      obtain ⟨k, rfl, hk, hap, hbel⟩ := hrel
      have HBWr := Lib.hid hbel.out
      obtain ⟨cs, F, hrow, hrd, hnd, hFl, hoth, hsz⟩ := hap.out
      have HRDF := Lib.hid (And.intro hrd (And.intro hnd hFl))
      have HCU := Lib.hid (HCUR.out HFIT.out k)
      have HOTH := Lib.hid hoth
      have HSZ := Lib.hid hsz
      have HLW := Lib.hid (show w.heap.size < wr.heap.size by have := HS1.out; omega)
      obtain ⟨cA, cc, cB, cd, FLc, FMc, rfl, -⟩ := hrd.cells
      have HRr := Lib.hid hrow
      clear hap hbel hrow hrd hnd hFl hoth hsz
      by_cases hlt : k < len
      · have t1 : decide ((k : Int) < (len : Int)) = true := decide_eq_true (by omega)
        have t2 : decide (k < len) = true := decide_eq_true hlt
        have k0 : (0 : Int) ≤ (k : Int) := by omega
        have k1 : (k : Int) < (len : Int) := by omega
        have k2 : ((k : Int)).toNat = k := by omega
        have hkd : k < d.length := by rw [HDL.out, HLN.out]; exact hlt
        have HLT := Lib.hid hlt
        have hml := HML.out
        have hkm : k < p.ms.length := by rw [HLN.out]; exact hlt
        have hkn : k < p.ns.length := by rw [HNL.out]; exact hkm
        have hkl : k < (lst p).length := by rw [lst_len HNL.out]; exact hkm
        have HAS0 := Lib.hid (show aplV v ((lst p).take (k + 1)) = stpV (aplV v ((lst p).take k)) (pth p.ns[k], p.ms[k]) by rw [apl_succ hkl, lst_get hkl hkn hkm])
        have HOKP0 := Lib.hid (show okP (pth p.ns[k]) (aplV v ((lst p).take k)) by
          have := (HFITL.out HFIT.out).at_ HLV.out hkl
          rw [lst_get hkl hkn hkm] at this
          exact this)
        have hnk : p.ns[k] = d[k].nm := by
          have : (d.map M6.nm)[k]'(by rw [List.length_map]; exact hkd) = p.ns[k] := by simp only [HDN.out]
          rw [← this, List.getElem_map]
        have HQL := Lib.hid (HZN.out _ (List.getElem_mem hkn))
        have HVAL := Lib.hid (HDV.out k hkd hkm)
        have HZX := Lib.hid (HZM.out _ (List.getElem_mem hkm))
        rw [hnk] at HAS0 HOKP0 HQL
        have hpk : k < pa.length := by
          have := HPO.out.1
          omega
        have hpow := HPA.out k hpk (by rw [List.length_map]; exact hkn)
        rw [List.getElem_map, hnk] at hpow
        obtain ⟨g, rfl, hg1, hg2, hgc⟩ := own_at HPO.out (by omega)
        have hpc := (hgc k pa[k] (List.getElem?_eq_getElem hpk)).1
        obtain ⟨qA, qc, hqe⟩ := own_is_slice hpow
        rw [hqe] at hpow hpc
        obtain ⟨qn, hqn⟩ : ∃ qn, (pth d[k].nm).length = qn := ⟨_, rfl⟩
        have HPBN := Lib.hid (show g ≠ w.heap.size by have := HS0.out; omega)
        have HPB1 := Lib.hid (show g < w1.heap.size from hg2)
        have HPW := Lib.hid (own_same (w' := wr) hpow fun g' h1 h2 => HOTH.out g' h2 (by have := HS0.out; omega))
        have hpcr : wr.cell? ⟨g, k, none⟩ = some (.slice qA qn qc) := by
          rw [← hqn]
          rw [Nat.zero_add] at hpc
          exact (World.cell?_of_block (HOTH.out g hg2 (by have := HS0.out; omega))).trans hpc
        obtain ⟨bb, off, rfl, hbb, hcl⟩ := HDR.out (by omega)
        have hx := (hcl k hkd).keep (W' := wr) (fun j => HBWr.out.cell (p := ⟨bb, j, none⟩) hbb)
        obtain ⟨m, hm⟩ : ∃ m, d[k]'hkd = m := ⟨_, rfl⟩
        rw [hm] at hx HAS0 HOKP0 HQL HVAL HPW hqn
        obtain ⟨xx, xk, xn, xs, xA, xl, xc, xB, xm, xd⟩ := m
        simp only at HAS0 HOKP0 HQL HPW hqn
        simp only [M6At] at hx
        simp only [m6tail] at HVAL
        obtain ⟨a0, a1, a2, a3, a4, a5⟩ := hx
        obtain ⟨x, hxv⟩ : ∃ x, p.ms[k] = x := ⟨_, rfl⟩
        rw [hxv] at HAS0 HVAL HZX
        obtain ⟨cur, hcur⟩ : ∃ cur, aplV v ((lst p).take k) = cur := ⟨_, rfl⟩
        rw [hcur] at HAS0 HOKP0 HRDF HCU HRr
        have HXK := Lib.hid (show x.k = xk by
          obtain ⟨_, _, _, _, e, -⟩ := HVAL.out.cells
          injection e with e _
          injection e with _ e
          exact e.symm)
        have HAS := Lib.hid HAS0.out
        obtain ⟨ob, hob⟩ : ∃ ob, (folV (pth xx) cur).isSome = ob := ⟨_, rfl⟩
        have HOB := Lib.hid hob
        have hqe2 := hqe
        clear hcl hbb hm hxv hcur hnk hkn hkm hkl hgc hpc HAS0
        obtain ⟨X, hX⟩ : ∃ X, strOf xx = X := ⟨_, rfl⟩
        rw [hX] at a0
        clear hX
        obtain ⟨W4, hW4⟩ : ∃ W4, W4 = wr.alloc (.cells #[.string X, .int .i64 xk, .int .i64 xn, .string xs, .slice xA xl xc, .slice xB xm xd] 36) := ⟨_, rfl⟩
        have HW4 := Lib.hid hW4
        have HB4 := Lib.hid (show Below wr.heap.size wr W4 by rw [hW4]; exact (Below.refl _ _).alloc (Nat.le_refl _) _)
        have HSW4 := Lib.hid (show W4.heap.size = wr.heap.size + 1 by rw [hW4]; exact szAl _ _)
        have HM4 := Lib.hid (show W4.heap[wr.heap.size]? = some (.cells #[.string X, .int .i64 xk, .int .i64 xn, .string xs, .slice xA xl xc, .slice xB xm xd] 36 (0, 0)) by rw [hW4]; exact heapNew _ _)
        have HBW4 := Lib.hid (HBWr.out.trans (HB4.out.mono HBWr.out.size))
        clear hW4
        have HPB4 := Lib.hid (show g < W4.heap.size by have := HPB1.out; have := HSZ.out; have := HSW4.out; omega)
        have HL4 := Lib.hid (show ∀ j, j < wr.heap.size + 1 → j < W4.heap.size from fun j hj => by rw [HSW4.out]; exact hj)
        have HCW := Lib.hid (show RdA wr 0 wr.heap.size cur _ from RdF.toA _ _ _ (fun x hx => ⟨Nat.zero_le _, (HRDF.out.2.2 x hx).2⟩) HRDF.out.1)
        obtain ⟨CC, hCC⟩ : ∃ CC : List Value, [.int .i64 cur.k, .int .i64 cur.n, .string (strOf cur.s), .slice cA cur.l.length cc, .slice cB cur.ms.length cd] = CC := ⟨_, rfl⟩
        have HFO := Lib.hid (fun (W : World) (hW : Below W4.heap.size W4 W) => follow_any wr.heap.size (pth xx) cur _ (.slice qA qn qc) W (by have := HB4.out.size; have := hW.size; omega) ((HCW.out.below HB4.out (Nat.le_refl _) (Nat.le_refl _)).below hW HB4.out.size (Nat.le_refl _)) (szA_of _ cur HCU.out.2 (by have := HCU.out.1; omega)) (by
          rw [← hqn]
          exact ((RdS.of_own HPW.out).below HB4.out HB4.out.size).below hW hW.size) HQL.out)
        have HCG := Lib.hid (fun (W : World) (hW : Below W4.heap.size W4 W) => change_any (pth xx) cur x _ _ F (.slice qA qn qc) W (RdF.keep _ _ _ (fun k hk => (hW.block k (by have := (HRDF.out.2.2 k hk).2; have := HB4.out.size; omega)).trans (HB4.out.block k (HRDF.out.2.2 k hk).2)) HRDF.out.1) HRDF.out.2.1 (fun k hk => by have := (HRDF.out.2.2 k hk).2; have := HB4.out.size; have := hW.size; omega) ((HVAL.out.below HBW4.out (Nat.le_refl _) HBW4.out.size).below hW (Nat.le_refl _) hW.size) HZX.out (by
          rw [← hqn]
          exact ((RdS.of_own HPW.out).below HB4.out HB4.out.size).below hW hW.size) HOKP0.out (by have := HCU.out.1; omega))
        clear hqn hob hCC
        generalize cur.k = ck at *
        generalize cur.n = cn at *
        generalize strOf cur.s = CS at *
        generalize cur.l.length = cl at *
        generalize cur.ms.length = cm at *
        have HS4 := Lib.hid (show W4.heap[w.heap.size]? = some (.cells #[.int .i64 ck, .int .i64 cn, .string CS, .slice cA cl cc, .slice cB cm cd] 25 (0, 0)) ∧ W4.cell? ⟨g, k, none⟩ = some (.slice qA qn qc) from ⟨(HB4.out.block w.heap.size HLW.out).trans HRr.out, (HB4.out.cell (by show g < _; have := HPB1.out; have := HSZ.out; omega)).trans hpcr⟩)
        clear hpcr
        go_wp2_with fail
        rw [← HW4.out]
        refine wp_region_held_drew (S := fun W' => W'.heap[w.heap.size]? = some (.cells #[.int .i64 ck, .int .i64 cn, .string CS, .slice cA cl cc, .slice cB cm cd] 25 (0, 0)) ∧ W'.cell? ⟨g, k, none⟩ = some (.slice qA qn qc)) (by kernel_rfl) (HS4.out) (fun hHeld => ?_)
        refine wpAnyH_take (i := 0) (oi := { dst := some 32, op := Op.load 25 (Operand.tmp 2), type := 25, pos := "patch.go:27", after := #[], guard := none }) (v := ?_) rfl (by kernel_rfl) (by kernel_rfl) (by kernel_rfl) (fun _ _ _ h => h) (Or.inl ⟨by rfl, ?_⟩) hHeld ?_
        rotate_left
        · intro w hSw; (try dsimp only at hSw); obtain ⟨⟨p0, p1, p2, p3, p4⟩, -⟩ := row5 hSw.1; go_simp; with_reducible rfl
        try simp only [Act.put, List.setIfInBounds_toArray, List.set_cons_zero, List.set_cons_succ]
        refine wpAnyH_take (i := 1) (oi := { dst := some 33, op := Op.move (Operand.tmp 6), type := 51, pos := "patch.go:27", after := #[], guard := none }) (v := ?_) rfl (by kernel_rfl) (by kernel_rfl) (by kernel_rfl) (fun _ _ _ h => h) (Or.inl ⟨by rfl, ?_⟩) hHeld ?_
        rotate_left
        · intro w hSw; (try dsimp only at hSw); go_simp; with_reducible rfl
        try simp only [Act.put, List.setIfInBounds_toArray, List.set_cons_zero, List.set_cons_succ]
        refine wpAnyH_take (i := 2) (oi := { dst := some 34, op := Op.move (Operand.tmp 8), type := 3, pos := "patch.go:27", after := #[], guard := none }) (v := ?_) rfl (by kernel_rfl) (by kernel_rfl) (by kernel_rfl) (fun _ _ _ h => h) (Or.inl ⟨by rfl, ?_⟩) hHeld ?_
        rotate_left
        · intro w hSw; (try dsimp only at hSw); go_simp; with_reducible rfl
        try simp only [Act.put, List.setIfInBounds_toArray, List.set_cons_zero, List.set_cons_succ]
        refine wpAnyH_take (i := 3) (oi := { dst := some 35, op := Op.indexAddr 51 (Operand.tmp 33) (Operand.tmp 34), type := 0, pos := "patch.go:27", after := #[{ on := 1, ground := Ground.data }, { on := 2, ground := Ground.data }], guard := none }) (v := ?_) rfl (by kernel_rfl) (by kernel_rfl) (by kernel_rfl) (fun _ _ _ h => h) (Or.inl ⟨by rfl, ?_⟩) hHeld ?_
        rotate_left
        · intro w hSw; (try dsimp only at hSw); go_simp; with_reducible rfl
        try simp only [Act.put, List.setIfInBounds_toArray, List.set_cons_zero, List.set_cons_succ]
        refine wpAnyH_take (i := 4) (oi := { dst := some 36, op := Op.load 32 (Operand.tmp 35), type := 32, pos := "patch.go:27", after := #[{ on := 3, ground := Ground.data }], guard := none }) (v := ?_) rfl (by kernel_rfl) (by kernel_rfl) (by kernel_rfl) (fun _ _ _ h => h) (Or.inl ⟨by rfl, ?_⟩) hHeld ?_
        rotate_left
        · intro w hSw; (try dsimp only at hSw); have hx := hSw.2; go_simp; with_reducible rfl
        try simp only [Act.put, List.setIfInBounds_toArray, List.set_cons_zero, List.set_cons_succ]
        refine wpAnyH_ready (rs := [5, 9]) (by kernel_rfl) (by simp) ?_
        refine AllReadyH.cons (o := { dst := some 37, op := Op.call { callee := Callee.value (Operand.func 22), args := #[Operand.tmp 32, Operand.tmp 36], argTypes := #[25, 32] }, type := 54, pos := "patch.go:27", after := #[{ on := 0, ground := Ground.data }, { on := 4, ground := Ground.data }], guard := none }) rfl (fun K hK => ?_) (AllReadyH.cons (o := { dst := some 10, op := Op.alloc 25, type := 0, pos := "patch.go:27", after := #[], guard := none }) rfl (fun K hK => ?_) AllReadyH.nil)
        · go_simp
          go_at_call 22
          refine (HFO.out _ (Below.drew (Below.refl W4.heap.size W4))).mono ?_
          rintro e w5 ⟨⟨ca, rfl, hca⟩, hb5⟩
          rw [HOB.out]
          obtain ⟨y, hy⟩ : ∃ y, (folV (pth xx) cur).getD V0 = y := ⟨_, rfl⟩
          rw [hy] at hca
          obtain ⟨yA, yc, yB, yd, rfl, -⟩ := hca.cells
          clear hca hy
          generalize y.k = yk at *
          generalize y.n = yn at *
          generalize strOf y.s = ys at *
          generalize y.l.length = yl at *
          generalize y.ms.length = ym at *
          have HB5 := Lib.hid (show Below W4.heap.size W4 w5 from (Below.drew (Below.refl W4.heap.size W4)).trans (hb5.mono (Below.drew (Below.refl W4.heap.size W4)).size))
          have HS5 := Lib.hid (show w5.heap[w.heap.size]? = some (.cells #[.int .i64 ck, .int .i64 cn, .string CS, .slice cA cl cc, .slice cB cm cd] 25 (0, 0)) ∧ w5.cell? ⟨g, k, none⟩ = some (.slice qA qn qc) from ⟨(HB5.out.block w.heap.size (HL4.out _ (by have := HLW.out; omega))).trans HS4.out.1, (HB5.out.cell (show g < _ from HPB4.out)).trans HS4.out.2⟩)
          clear hb5
          refine hK.out _ _ (HS5.out) (fun hHeld => ?_)
          clear hK K
          try simp only [Act.put, List.setIfInBounds_toArray, List.set_cons_zero, List.set_cons_succ]
          refine wpAnyH_take (i := 6) (oi := { dst := some 31, op := Op.move (Operand.tmp 37), type := 54, pos := "patch.go:27", after := #[{ on := 5, ground := Ground.data }], guard := none }) (v := ?_) rfl (by kernel_rfl) (by kernel_rfl) (by kernel_rfl) (fun _ _ _ h => h) (Or.inl ⟨by rfl, ?_⟩) hHeld ?_
          rotate_left
          · intro w hSw; (try dsimp only at hSw); go_simp; with_reducible rfl
          try simp only [Act.put, List.setIfInBounds_toArray, List.set_cons_zero, List.set_cons_succ]
          refine wpAnyH_take (i := 7) (oi := { dst := some 38, op := Op.extract (Operand.tmp 31) 0, type := 25, pos := "patch.go:27", after := #[{ on := 6, ground := Ground.data }], guard := none }) (v := ?_) rfl (by kernel_rfl) (by kernel_rfl) (by kernel_rfl) (fun _ _ _ h => h) (Or.inl ⟨by rfl, ?_⟩) hHeld ?_
          rotate_left
          · intro w hSw; (try dsimp only at hSw); go_simp; with_reducible rfl
          try simp only [Act.put, List.setIfInBounds_toArray, List.set_cons_zero, List.set_cons_succ]
          refine wpAnyH_take (i := 8) (oi := { dst := some 39, op := Op.extract (Operand.tmp 31) 1, type := 4, pos := "patch.go:27", after := #[{ on := 6, ground := Ground.data }, { on := 10, ground := Ground.gcOnly Departure.lateStores }], guard := none }) (v := ?_) rfl (by kernel_rfl) (by kernel_rfl) (by kernel_rfl) (fun _ _ _ h => h) (Or.inl ⟨by rfl, ?_⟩) hHeld ?_
          rotate_left
          · intro w hSw; (try dsimp only at hSw); go_simp; with_reducible rfl
          try simp only [Act.put, List.setIfInBounds_toArray, List.set_cons_zero, List.set_cons_succ]
          refine wpAnyH_ready (rs := [9]) (by kernel_rfl) (by simp) ?_
          refine AllReadyH.cons (o := { dst := some 10, op := Op.alloc 25, type := 0, pos := "patch.go:27", after := #[], guard := none }) rfl (fun K hK => ?_) AllReadyH.nil
          have HZ := Lib.hid (heapNew w5 (.cells #[.int .i64 0, .int .i64 0, .string ⟨#[]⟩, .slice none 0 0, .slice none 0 0] 25))
          go_simp
          refine hK.out _ _ (⟨heapOld hHeld.1 _, (World.cell?_of_block (Below.heap_alloc _ _ _ (lt_of_cell hHeld.2))).trans hHeld.2⟩) (fun hHeld => ?_)
          clear hK K
          try simp only [Act.put, List.setIfInBounds_toArray, List.set_cons_zero, List.set_cons_succ]
          refine wpAnyH_ready (rs := [10]) (by kernel_rfl) (by simp) ?_
          refine AllReadyH.cons (o := { dst := none, op := Op.store 25 (Operand.tmp 10) (Operand.tmp 38), type := 0, pos := "patch.go:27", after := #[{ on := 9, ground := Ground.data }, { on := 7, ground := Ground.data }, { on := 5, ground := Ground.chain }, { on := 0, ground := Ground.phase }, { on := 1, ground := Ground.phase }, { on := 2, ground := Ground.phase }, { on := 3, ground := Ground.phase }, { on := 4, ground := Ground.phase }, { on := 5, ground := Ground.phase }, { on := 6, ground := Ground.phase }, { on := 7, ground := Ground.phase }, { on := 8, ground := Ground.textOnly Departure.lateStores }, { on := 9, ground := Ground.phase }], guard := none }) rfl (fun K hK => ?_) AllReadyH.nil
          obtain ⟨⟨z0, z1, z2, z3, z4⟩, ⟨y0, y1, y2, y3, y4⟩⟩ := row5 HZ.out
          go_simp
          clear z0 z1 z2 z3 z4 y0 y1 y2 y3 y4
          refine hK.out _ _ (⟨heapOld HS5.out.1 _, (World.cell?_of_block (Below.heap_alloc _ _ _ (lt_of_cell HS5.out.2))).trans HS5.out.2⟩) (fun hHeld => ?_)
          clear hK K
          try simp only [Act.put, List.setIfInBounds_toArray, List.set_cons_zero, List.set_cons_succ]
          refine wpAnyH_take (i := 11) (oi := { dst := some 11, op := Op.assign (Operand.tmp 39), type := 4, pos := "patch.go:27", after := #[{ on := 8, ground := Ground.data }, { on := 10, ground := Ground.chain }, { on := 0, ground := Ground.phase }, { on := 1, ground := Ground.phase }, { on := 2, ground := Ground.phase }, { on := 3, ground := Ground.phase }, { on := 4, ground := Ground.phase }, { on := 5, ground := Ground.phase }, { on := 6, ground := Ground.phase }, { on := 7, ground := Ground.phase }, { on := 8, ground := Ground.phase }, { on := 9, ground := Ground.phase }, { on := 10, ground := Ground.phase }], guard := none }) (v := ?_) rfl (by kernel_rfl) (by kernel_rfl) (by kernel_rfl) (fun _ _ _ h => h) (Or.inl ⟨by rfl, ?_⟩) hHeld ?_
          rotate_left
          · intro w hSw; (try dsimp only at hSw); go_simp; with_reducible rfl
          try simp only [Act.put, List.setIfInBounds_toArray, List.set_cons_zero, List.set_cons_succ]
          refine wpAnyH_done (by kernel_rfl) ?_ _
          clear hHeld
          obtain ⟨W6, hW6⟩ : ∃ W6, W6 = w5.alloc (.cells #[.int .i64 yk, .int .i64 yn, .string ys, .slice yA yl yc, .slice yB ym yd] 25) := ⟨_, rfl⟩
          obtain ⟨E, hE⟩ : ∃ E, E = w5.heap.size := ⟨_, rfl⟩
          have HB6 := Lib.hid (show Below W4.heap.size W4 W6 by rw [hW6]; exact HB5.out.alloc HB5.out.size _)
          rw [← hW6, ← hE]
          clear hW6 hE HZ HB5 HS5
          have HBW6 := Lib.hid (HBW4.out.trans (HB6.out.mono HBW4.out.size))
          have HL6 := Lib.hid (show wr.heap.size + 1 ≤ W6.heap.size by have := HB6.out.size; rw [HSW4.out] at this; exact this)
          have HV6 := Lib.hid (show W6.heap[w.heap.size]? = some (.cells #[.int .i64 ck, .int .i64 cn, .string CS, .slice cA cl cc, .slice cB cm cd] 25 (0, 0)) from (HB6.out.block w.heap.size (by have := HSW4.out; have := HLW.out; omega)).trans HS4.out.1)
          have HS6 := Lib.hid (show W6.cell? ⟨g, k, none⟩ = some (.slice qA qn qc) ∧ W6.heap[wr.heap.size]? = some (.cells #[.string X, .int .i64 xk, .int .i64 xn, .string xs, .slice xA xl xc, .slice xB xm xd] 36 (0, 0)) from ⟨(HB6.out.cell (show g < _ from HPB4.out)).trans HS4.out.2, (HB6.out.block wr.heap.size (by have := HSW4.out; omega)).trans HM4.out⟩)
          obtain ⟨m0, m1, m2, m3, m4, m5⟩ := row6 HS6.out.2
          cases ob
          · by_cases hx1 : xk = 1
            · have t3 : (xk != 1) = false := by rw [hx1]; rfl
              have HSTP := Lib.hid (show aplV v ((lst p).take (k + 1)) = cur from HAS.out.trans (by
                unfold stpV
                rw [if_neg]
                rintro (h | h)
                · rw [HOB.out] at h; cases h
                · exact h (HXK.out.trans hx1)))
              clear hx1
              go_wp2
              go_roundw
              case rel =>
                refine ⟨k + 1, by go_num, by have := HLT.out; omega, ?_, (show Below _ _ _ from HBW6.out)⟩
                obtain ⟨k1, k2, k3⟩ := HRDF.out
                refine (show ApI _ _ _ _ _ _ _ from ⟨_, F, HV6.out, ?_, k2, fun x hx => ⟨(k3 x hx).1, by have := (k3 x hx).2; have := HL6.out; omega⟩, fun x hx hxb => ?_, by have := HL6.out; have := HSZ.out; omega⟩)
                · rw [HSTP.out]
                  exact RdF.keep _ _ _ (fun k hk => (HB6.out.block k (by have := (k3 k hk).2; have := HSW4.out; omega)).trans (HB4.out.block k (k3 k hk).2)) k1
                · exact (HB6.out.block x (by have := HSW4.out; have := HSZ.out; omega)).trans ((HB4.out.block x (by have := HSZ.out; omega)).trans (HOTH.out x hx hxb))
              case measure => have := HLT.out; simp [intOf]; omega
            · have t3 : (xk != 1) = true := bne_iff_ne.2 hx1
              have HSTP := Lib.hid (show aplV v ((lst p).take (k + 1)) = chgV (pth xx) x cur from HAS.out.trans (by
                unfold stpV
                rw [if_pos (.inr (by show x.k ≠ 1; rw [HXK.out]; exact hx1))]))
              clear hx1
              go_wp2_with fail
              refine wp_region_held_drew (S := fun W' => W'.cell? ⟨g, k, none⟩ = some (.slice qA qn qc) ∧ W'.heap[wr.heap.size]? = some (.cells #[.string X, .int .i64 xk, .int .i64 xn, .string xs, .slice xA xl xc, .slice xB xm xd] 36 (0, 0))) (by kernel_rfl) (HS6.out) (fun hHeld => ?_)
              refine wpAnyH_take (i := 1) (oi := { dst := some 48, op := Op.move (Operand.tmp 6), type := 51, pos := "patch.go:28", after := #[], guard := none }) (v := ?_) rfl (by kernel_rfl) (by kernel_rfl) (by kernel_rfl) (fun _ _ _ h => h) (Or.inl ⟨by rfl, ?_⟩) hHeld ?_
              rotate_left
              · intro w hSw; (try dsimp only at hSw); go_simp; with_reducible rfl
              try simp only [Act.put, List.setIfInBounds_toArray, List.set_cons_zero, List.set_cons_succ]
              refine wpAnyH_take (i := 2) (oi := { dst := some 49, op := Op.move (Operand.tmp 8), type := 3, pos := "patch.go:28", after := #[], guard := none }) (v := ?_) rfl (by kernel_rfl) (by kernel_rfl) (by kernel_rfl) (fun _ _ _ h => h) (Or.inl ⟨by rfl, ?_⟩) hHeld ?_
              rotate_left
              · intro w hSw; (try dsimp only at hSw); go_simp; with_reducible rfl
              try simp only [Act.put, List.setIfInBounds_toArray, List.set_cons_zero, List.set_cons_succ]
              refine wpAnyH_take (i := 3) (oi := { dst := some 50, op := Op.indexAddr 51 (Operand.tmp 48) (Operand.tmp 49), type := 0, pos := "patch.go:28", after := #[{ on := 1, ground := Ground.data }, { on := 2, ground := Ground.data }], guard := none }) (v := ?_) rfl (by kernel_rfl) (by kernel_rfl) (by kernel_rfl) (fun _ _ _ h => h) (Or.inl ⟨by rfl, ?_⟩) hHeld ?_
              rotate_left
              · intro w hSw; (try dsimp only at hSw); go_simp; with_reducible rfl
              try simp only [Act.put, List.setIfInBounds_toArray, List.set_cons_zero, List.set_cons_succ]
              refine wpAnyH_take (i := 4) (oi := { dst := some 51, op := Op.load 32 (Operand.tmp 50), type := 32, pos := "patch.go:28", after := #[{ on := 3, ground := Ground.data }], guard := none }) (v := ?_) rfl (by kernel_rfl) (by kernel_rfl) (by kernel_rfl) (fun _ _ _ h => h) (Or.inl ⟨by rfl, ?_⟩) hHeld ?_
              rotate_left
              · intro w hSw; (try dsimp only at hSw); have hx := hSw.1; go_simp; with_reducible rfl
              try simp only [Act.put, List.setIfInBounds_toArray, List.set_cons_zero, List.set_cons_succ]
              refine wpAnyH_take (i := 5) (oi := { dst := some 52, op := Op.fieldAddr 36 (Operand.tmp 9) 1, type := 0, pos := "patch.go:28", after := #[], guard := none }) (v := ?_) rfl (by kernel_rfl) (by kernel_rfl) (by kernel_rfl) (fun _ _ _ h => h) (Or.inl ⟨by rfl, ?_⟩) hHeld ?_
              rotate_left
              · intro w hSw; (try dsimp only at hSw); go_simp; with_reducible rfl
              try simp only [Act.put, List.setIfInBounds_toArray, List.set_cons_zero, List.set_cons_succ]
              refine wpAnyH_take (i := 6) (oi := { dst := some 53, op := Op.load 25 (Operand.tmp 52), type := 25, pos := "patch.go:28", after := #[{ on := 5, ground := Ground.data }], guard := none }) (v := ?_) rfl (by kernel_rfl) (by kernel_rfl) (by kernel_rfl) (fun _ _ _ h => h) (Or.inl ⟨by rfl, ?_⟩) hHeld ?_
              rotate_left
              · intro w hSw; (try dsimp only at hSw); obtain ⟨m0, m1, m2, m3, m4, m5⟩ := row6 hSw.2; go_simp; with_reducible rfl
              try simp only [Act.put, List.setIfInBounds_toArray, List.set_cons_zero, List.set_cons_succ]
              refine wpAnyH_ready (rs := [0]) (by kernel_rfl) (by simp) ?_
              refine AllReadyH.cons (o := { dst := some 47, op := Op.load 25 (Operand.tmp 2), type := 25, pos := "patch.go:28", after := #[], guard := none }) rfl (fun K hK => ?_) AllReadyH.nil
              obtain ⟨⟨p0, p1, p2, p3, p4⟩, -⟩ := row5 HV6.out
              go_simp
              clear p0 p1 p2 p3 p4
              refine hK.out _ _ (hHeld) (fun hHeld => ?_)
              clear hK K
              try simp only [Act.put, List.setIfInBounds_toArray, List.set_cons_zero, List.set_cons_succ]
              refine wpAnyH_ready (rs := [7]) (by kernel_rfl) (by simp) ?_
              refine AllReadyH.cons (o := { dst := some 54, op := Op.call { callee := Callee.value (Operand.func 23), args := #[Operand.tmp 47, Operand.tmp 51, Operand.tmp 53], argTypes := #[25, 32, 25] }, type := 25, pos := "patch.go:28", after := #[{ on := 0, ground := Ground.data }, { on := 4, ground := Ground.data }, { on := 6, ground := Ground.data }], guard := none }) rfl (fun K hK => ?_) AllReadyH.nil
              go_simp
              go_at_call 23
              refine (HCG.out _ HB6.out.drew).mono ?_
              rintro e w7 ⟨⟨cz, Fz, rfl, hcz, hnz, hsz', hlz⟩, hb7⟩
              have HB7 := Lib.hid (show Below W6.heap.size W6 w7 from (Below.drew (Below.refl W6.heap.size W6)).trans hb7)
              obtain ⟨zA, zc, zB, zd, FLz, FMz, rfl, -⟩ := hcz.cells
              have HRZ := Lib.hid (And.intro hcz (And.intro hnz (And.intro (show ∀ k ∈ Fz, k ∈ F ∨ W6.heap.size ≤ k from hsz') hlz)))
              have HS7 := Lib.hid (show w7.cell? ⟨g, k, none⟩ = some (.slice qA qn qc) ∧ w7.heap[wr.heap.size]? = some (.cells #[.string X, .int .i64 xk, .int .i64 xn, .string xs, .slice xA xl xc, .slice xB xm xd] 36 (0, 0)) from ⟨(HB7.out.cell (by show g < _; have := HL6.out; have := HPB4.out; have := HB6.out.size; omega)).trans HS6.out.1, (HB7.out.block wr.heap.size (by have := HL6.out; omega)).trans HS6.out.2⟩)
              have HV7 := Lib.hid ((HB7.out.block w.heap.size (by have := HL6.out; have := HLW.out; omega)).trans HV6.out)
              clear hcz hnz hsz' hlz hb7
              generalize (chgV (pth xx) x cur).k = zk at *
              generalize (chgV (pth xx) x cur).n = zn at *
              generalize strOf (chgV (pth xx) x cur).s = zs at *
              generalize (chgV (pth xx) x cur).l.length = zl at *
              generalize (chgV (pth xx) x cur).ms.length = zm at *
              refine hK.out _ _ (HS7.out) (fun hHeld => ?_)
              clear hK K
              try simp only [Act.put, List.setIfInBounds_toArray, List.set_cons_zero, List.set_cons_succ]
              refine wpAnyH_ready (rs := [8]) (by kernel_rfl) (by simp) ?_
              refine AllReadyH.cons (o := { dst := none, op := Op.store 25 (Operand.tmp 2) (Operand.tmp 54), type := 0, pos := "patch.go:28", after := #[{ on := 7, ground := Ground.data }, { on := 7, ground := Ground.chain }, { on := 0, ground := Ground.phase }, { on := 1, ground := Ground.phase }, { on := 2, ground := Ground.phase }, { on := 3, ground := Ground.phase }, { on := 4, ground := Ground.phase }, { on := 5, ground := Ground.phase }, { on := 6, ground := Ground.phase }, { on := 7, ground := Ground.phase }], guard := none }) rfl (fun K hK => ?_) AllReadyH.nil
              obtain ⟨⟨z0, z1, z2, z3, z4⟩, ⟨y0, y1, y2, y3, y4⟩⟩ := row5 HV7.out
              go_simp
              clear z0 z1 z2 z3 z4 y0 y1 y2 y3 y4
              obtain ⟨W8, hW8⟩ : ∃ W8, W8 = (((((w7.setCell ⟨w.heap.size, 0, none⟩ (.int .i64 zk)).setCell ⟨w.heap.size, 1, none⟩ (.int .i64 zn)).setCell ⟨w.heap.size, 2, none⟩ (.string zs)).setCell ⟨w.heap.size, 3, none⟩ (.slice zA zl zc)).setCell ⟨w.heap.size, 4, none⟩ (.slice zB zm zd)) := ⟨_, rfl⟩
              have HR8 := Lib.hid (show W8.heap[w.heap.size]? = some (.cells #[.int .i64 zk, .int .i64 zn, .string zs, .slice zA zl zc, .slice zB zm zd] 25 (0, 0)) by rw [hW8]; exact st5_row HV7.out _ _ _ _ _)
              have HO8 := Lib.hid (show ∀ k, k ≠ w.heap.size → W8.heap[k]? = w7.heap[k]? from fun k hk => by rw [hW8]; exact st5_other hk _ _ _ _ _)
              have HZ8 := Lib.hid (show W8.heap.size = w7.heap.size by rw [hW8]; exact st5_size (w := w7) (b := w.heap.size) _ _ _ _ _)
              have HBW7 := Lib.hid (HBW6.out.trans (HB7.out.mono HBW6.out.size))
              have HBW8 := Lib.hid (show Below w.heap.size w W8 by rw [hW8]; exact st5_below HBW7.out (Nat.le_refl _) _ _ _ _ _)
              rw [← hW8]
              clear hW8
              refine hK.out _ _ (⟨(World.cell?_of_block (HO8.out g HPBN.out)).trans HS7.out.1, (HO8.out wr.heap.size (by have := HLW.out; omega)).trans HS7.out.2⟩) (fun hHeld => ?_)
              clear hK K
              try simp only [Act.put, List.setIfInBounds_toArray, List.set_cons_zero, List.set_cons_succ]
              refine wpAnyH_done (by kernel_rfl) ?_ _
              clear hHeld
              go_wp2
              go_roundw
              case rel =>
                refine ⟨k + 1, by go_num, by have := HLT.out; omega, ?_, (show Below _ _ _ from HBW8.out)⟩
                obtain ⟨k1, k2, k3, k4⟩ := HRZ.out
                refine (show ApI _ _ _ _ _ _ _ from ⟨_, Fz, HR8.out, ?_, k2, fun x hx => ?_, fun x hx hxb => ?_, by rw [HZ8.out]; have := HB7.out.size; have := HL6.out; have := HSZ.out; omega⟩)
                · rw [HSTP.out]
                  exact RdF.keep _ _ _ (fun k hk => HO8.out k (by
                    rcases k3 k hk with h | h
                    · have := (HRDF.out.2.2 k h).1; have := HS1.out; omega
                    · have := HL6.out; have := HLW.out; omega)) k1
                · rw [HZ8.out]
                  refine ⟨?_, k4 x hx⟩
                  rcases k3 x hx with h | h
                  · exact (HRDF.out.2.2 x h).1
                  · have := HL6.out; have := HSZ.out; omega
                · exact (HO8.out x hxb).trans ((HB7.out.block x (by have := HL6.out; have := HSZ.out; omega)).trans ((HB6.out.block x (by have := HSW4.out; have := HSZ.out; omega)).trans ((HB4.out.block x (by have := HSZ.out; omega)).trans (HOTH.out x hx hxb))))
              case measure => have := HLT.out; simp [intOf]; omega
          · have HSTP := Lib.hid (show aplV v ((lst p).take (k + 1)) = chgV (pth xx) x cur from HAS.out.trans (by
              unfold stpV
              rw [if_pos (.inl (by rw [HOB.out]))]))
            go_wp2_with fail
            refine wp_region_held_drew (S := fun W' => W'.cell? ⟨g, k, none⟩ = some (.slice qA qn qc) ∧ W'.heap[wr.heap.size]? = some (.cells #[.string X, .int .i64 xk, .int .i64 xn, .string xs, .slice xA xl xc, .slice xB xm xd] 36 (0, 0))) (by kernel_rfl) (HS6.out) (fun hHeld => ?_)
            refine wpAnyH_take (i := 1) (oi := { dst := some 48, op := Op.move (Operand.tmp 6), type := 51, pos := "patch.go:28", after := #[], guard := none }) (v := ?_) rfl (by kernel_rfl) (by kernel_rfl) (by kernel_rfl) (fun _ _ _ h => h) (Or.inl ⟨by rfl, ?_⟩) hHeld ?_
            rotate_left
            · intro w hSw; (try dsimp only at hSw); go_simp; with_reducible rfl
            try simp only [Act.put, List.setIfInBounds_toArray, List.set_cons_zero, List.set_cons_succ]
            refine wpAnyH_take (i := 2) (oi := { dst := some 49, op := Op.move (Operand.tmp 8), type := 3, pos := "patch.go:28", after := #[], guard := none }) (v := ?_) rfl (by kernel_rfl) (by kernel_rfl) (by kernel_rfl) (fun _ _ _ h => h) (Or.inl ⟨by rfl, ?_⟩) hHeld ?_
            rotate_left
            · intro w hSw; (try dsimp only at hSw); go_simp; with_reducible rfl
            try simp only [Act.put, List.setIfInBounds_toArray, List.set_cons_zero, List.set_cons_succ]
            refine wpAnyH_take (i := 3) (oi := { dst := some 50, op := Op.indexAddr 51 (Operand.tmp 48) (Operand.tmp 49), type := 0, pos := "patch.go:28", after := #[{ on := 1, ground := Ground.data }, { on := 2, ground := Ground.data }], guard := none }) (v := ?_) rfl (by kernel_rfl) (by kernel_rfl) (by kernel_rfl) (fun _ _ _ h => h) (Or.inl ⟨by rfl, ?_⟩) hHeld ?_
            rotate_left
            · intro w hSw; (try dsimp only at hSw); go_simp; with_reducible rfl
            try simp only [Act.put, List.setIfInBounds_toArray, List.set_cons_zero, List.set_cons_succ]
            refine wpAnyH_take (i := 4) (oi := { dst := some 51, op := Op.load 32 (Operand.tmp 50), type := 32, pos := "patch.go:28", after := #[{ on := 3, ground := Ground.data }], guard := none }) (v := ?_) rfl (by kernel_rfl) (by kernel_rfl) (by kernel_rfl) (fun _ _ _ h => h) (Or.inl ⟨by rfl, ?_⟩) hHeld ?_
            rotate_left
            · intro w hSw; (try dsimp only at hSw); have hx := hSw.1; go_simp; with_reducible rfl
            try simp only [Act.put, List.setIfInBounds_toArray, List.set_cons_zero, List.set_cons_succ]
            refine wpAnyH_take (i := 5) (oi := { dst := some 52, op := Op.fieldAddr 36 (Operand.tmp 9) 1, type := 0, pos := "patch.go:28", after := #[], guard := none }) (v := ?_) rfl (by kernel_rfl) (by kernel_rfl) (by kernel_rfl) (fun _ _ _ h => h) (Or.inl ⟨by rfl, ?_⟩) hHeld ?_
            rotate_left
            · intro w hSw; (try dsimp only at hSw); go_simp; with_reducible rfl
            try simp only [Act.put, List.setIfInBounds_toArray, List.set_cons_zero, List.set_cons_succ]
            refine wpAnyH_take (i := 6) (oi := { dst := some 53, op := Op.load 25 (Operand.tmp 52), type := 25, pos := "patch.go:28", after := #[{ on := 5, ground := Ground.data }], guard := none }) (v := ?_) rfl (by kernel_rfl) (by kernel_rfl) (by kernel_rfl) (fun _ _ _ h => h) (Or.inl ⟨by rfl, ?_⟩) hHeld ?_
            rotate_left
            · intro w hSw; (try dsimp only at hSw); obtain ⟨m0, m1, m2, m3, m4, m5⟩ := row6 hSw.2; go_simp; with_reducible rfl
            try simp only [Act.put, List.setIfInBounds_toArray, List.set_cons_zero, List.set_cons_succ]
            refine wpAnyH_ready (rs := [0]) (by kernel_rfl) (by simp) ?_
            refine AllReadyH.cons (o := { dst := some 47, op := Op.load 25 (Operand.tmp 2), type := 25, pos := "patch.go:28", after := #[], guard := none }) rfl (fun K hK => ?_) AllReadyH.nil
            obtain ⟨⟨p0, p1, p2, p3, p4⟩, -⟩ := row5 HV6.out
            go_simp
            clear p0 p1 p2 p3 p4
            refine hK.out _ _ (hHeld) (fun hHeld => ?_)
            clear hK K
            try simp only [Act.put, List.setIfInBounds_toArray, List.set_cons_zero, List.set_cons_succ]
            refine wpAnyH_ready (rs := [7]) (by kernel_rfl) (by simp) ?_
            refine AllReadyH.cons (o := { dst := some 54, op := Op.call { callee := Callee.value (Operand.func 23), args := #[Operand.tmp 47, Operand.tmp 51, Operand.tmp 53], argTypes := #[25, 32, 25] }, type := 25, pos := "patch.go:28", after := #[{ on := 0, ground := Ground.data }, { on := 4, ground := Ground.data }, { on := 6, ground := Ground.data }], guard := none }) rfl (fun K hK => ?_) AllReadyH.nil
            go_simp
            go_at_call 23
            refine (HCG.out _ HB6.out.drew).mono ?_
            rintro e w7 ⟨⟨cz, Fz, rfl, hcz, hnz, hsz', hlz⟩, hb7⟩
            have HB7 := Lib.hid (show Below W6.heap.size W6 w7 from (Below.drew (Below.refl W6.heap.size W6)).trans hb7)
            obtain ⟨zA, zc, zB, zd, FLz, FMz, rfl, -⟩ := hcz.cells
            have HRZ := Lib.hid (And.intro hcz (And.intro hnz (And.intro (show ∀ k ∈ Fz, k ∈ F ∨ W6.heap.size ≤ k from hsz') hlz)))
            have HS7 := Lib.hid (show w7.cell? ⟨g, k, none⟩ = some (.slice qA qn qc) ∧ w7.heap[wr.heap.size]? = some (.cells #[.string X, .int .i64 xk, .int .i64 xn, .string xs, .slice xA xl xc, .slice xB xm xd] 36 (0, 0)) from ⟨(HB7.out.cell (by show g < _; have := HL6.out; have := HPB4.out; have := HB6.out.size; omega)).trans HS6.out.1, (HB7.out.block wr.heap.size (by have := HL6.out; omega)).trans HS6.out.2⟩)
            have HV7 := Lib.hid ((HB7.out.block w.heap.size (by have := HL6.out; have := HLW.out; omega)).trans HV6.out)
            clear hcz hnz hsz' hlz hb7
            generalize (chgV (pth xx) x cur).k = zk at *
            generalize (chgV (pth xx) x cur).n = zn at *
            generalize strOf (chgV (pth xx) x cur).s = zs at *
            generalize (chgV (pth xx) x cur).l.length = zl at *
            generalize (chgV (pth xx) x cur).ms.length = zm at *
            refine hK.out _ _ (HS7.out) (fun hHeld => ?_)
            clear hK K
            try simp only [Act.put, List.setIfInBounds_toArray, List.set_cons_zero, List.set_cons_succ]
            refine wpAnyH_ready (rs := [8]) (by kernel_rfl) (by simp) ?_
            refine AllReadyH.cons (o := { dst := none, op := Op.store 25 (Operand.tmp 2) (Operand.tmp 54), type := 0, pos := "patch.go:28", after := #[{ on := 7, ground := Ground.data }, { on := 7, ground := Ground.chain }, { on := 0, ground := Ground.phase }, { on := 1, ground := Ground.phase }, { on := 2, ground := Ground.phase }, { on := 3, ground := Ground.phase }, { on := 4, ground := Ground.phase }, { on := 5, ground := Ground.phase }, { on := 6, ground := Ground.phase }, { on := 7, ground := Ground.phase }], guard := none }) rfl (fun K hK => ?_) AllReadyH.nil
            obtain ⟨⟨z0, z1, z2, z3, z4⟩, ⟨y0, y1, y2, y3, y4⟩⟩ := row5 HV7.out
            go_simp
            clear z0 z1 z2 z3 z4 y0 y1 y2 y3 y4
            obtain ⟨W8, hW8⟩ : ∃ W8, W8 = (((((w7.setCell ⟨w.heap.size, 0, none⟩ (.int .i64 zk)).setCell ⟨w.heap.size, 1, none⟩ (.int .i64 zn)).setCell ⟨w.heap.size, 2, none⟩ (.string zs)).setCell ⟨w.heap.size, 3, none⟩ (.slice zA zl zc)).setCell ⟨w.heap.size, 4, none⟩ (.slice zB zm zd)) := ⟨_, rfl⟩
            have HR8 := Lib.hid (show W8.heap[w.heap.size]? = some (.cells #[.int .i64 zk, .int .i64 zn, .string zs, .slice zA zl zc, .slice zB zm zd] 25 (0, 0)) by rw [hW8]; exact st5_row HV7.out _ _ _ _ _)
            have HO8 := Lib.hid (show ∀ k, k ≠ w.heap.size → W8.heap[k]? = w7.heap[k]? from fun k hk => by rw [hW8]; exact st5_other hk _ _ _ _ _)
            have HZ8 := Lib.hid (show W8.heap.size = w7.heap.size by rw [hW8]; exact st5_size (w := w7) (b := w.heap.size) _ _ _ _ _)
            have HBW7 := Lib.hid (HBW6.out.trans (HB7.out.mono HBW6.out.size))
            have HBW8 := Lib.hid (show Below w.heap.size w W8 by rw [hW8]; exact st5_below HBW7.out (Nat.le_refl _) _ _ _ _ _)
            rw [← hW8]
            clear hW8
            refine hK.out _ _ (⟨(World.cell?_of_block (HO8.out g HPBN.out)).trans HS7.out.1, (HO8.out wr.heap.size (by have := HLW.out; omega)).trans HS7.out.2⟩) (fun hHeld => ?_)
            clear hK K
            try simp only [Act.put, List.setIfInBounds_toArray, List.set_cons_zero, List.set_cons_succ]
            refine wpAnyH_done (by kernel_rfl) ?_ _
            clear hHeld
            go_wp2
            go_roundw
            case rel =>
              refine ⟨k + 1, by go_num, by have := HLT.out; omega, ?_, (show Below _ _ _ from HBW8.out)⟩
              obtain ⟨k1, k2, k3, k4⟩ := HRZ.out
              refine (show ApI _ _ _ _ _ _ _ from ⟨_, Fz, HR8.out, ?_, k2, fun x hx => ?_, fun x hx hxb => ?_, by rw [HZ8.out]; have := HB7.out.size; have := HL6.out; have := HSZ.out; omega⟩)
              · rw [HSTP.out]
                exact RdF.keep _ _ _ (fun k hk => HO8.out k (by
                  rcases k3 k hk with h | h
                  · have := (HRDF.out.2.2 k h).1; have := HS1.out; omega
                  · have := HL6.out; have := HLW.out; omega)) k1
              · rw [HZ8.out]
                refine ⟨?_, k4 x hx⟩
                rcases k3 x hx with h | h
                · exact (HRDF.out.2.2 x h).1
                · have := HL6.out; have := HSZ.out; omega
              · exact (HO8.out x hxb).trans ((HB7.out.block x (by have := HL6.out; have := HSZ.out; omega)).trans ((HB6.out.block x (by have := HSW4.out; have := HSZ.out; omega)).trans ((HB4.out.block x (by have := HSZ.out; omega)).trans (HOTH.out x hx hxb))))
            case measure => have := HLT.out; simp [intOf]; omega
        · go_simp
          refine hK.out _ _ (⟨heapOld hHeld.1 _, (World.cell?_of_block (Below.heap_alloc _ _ _ (lt_of_cell hHeld.2))).trans hHeld.2⟩) (fun hHeld => ?_)
          clear hK K
          try simp only [Act.put, List.setIfInBounds_toArray, List.set_cons_zero, List.set_cons_succ]
          refine wpAnyH_ready (rs := [5]) (by kernel_rfl) (by simp) ?_
          refine AllReadyH.cons (o := { dst := some 37, op := Op.call { callee := Callee.value (Operand.func 22), args := #[Operand.tmp 32, Operand.tmp 36], argTypes := #[25, 32] }, type := 54, pos := "patch.go:27", after := #[{ on := 0, ground := Ground.data }, { on := 4, ground := Ground.data }], guard := none }) rfl (fun K hK => ?_) AllReadyH.nil
          go_simp
          go_at_call 22
          refine (HFO.out _ ((Below.drew (Below.refl W4.heap.size W4)).alloc (Nat.le_refl _) _)).mono ?_
          rintro e w5 ⟨⟨ca, rfl, hca⟩, hb5⟩
          rw [HOB.out]
          obtain ⟨y, hy⟩ : ∃ y, (folV (pth xx) cur).getD V0 = y := ⟨_, rfl⟩
          rw [hy] at hca
          obtain ⟨yA, yc, yB, yd, rfl, -⟩ := hca.cells
          clear hca hy
          generalize y.k = yk at *
          generalize y.n = yn at *
          generalize strOf y.s = ys at *
          generalize y.l.length = yl at *
          generalize y.ms.length = ym at *
          have HB5 := Lib.hid (show Below W4.heap.size W4 w5 from ((Below.drew (Below.refl W4.heap.size W4)).alloc (Nat.le_refl _) _).trans (hb5.mono ((Below.drew (Below.refl W4.heap.size W4)).alloc (Nat.le_refl _) _).size))
          have HS5 := Lib.hid (show w5.heap[w.heap.size]? = some (.cells #[.int .i64 ck, .int .i64 cn, .string CS, .slice cA cl cc, .slice cB cm cd] 25 (0, 0)) ∧ w5.cell? ⟨g, k, none⟩ = some (.slice qA qn qc) from ⟨(HB5.out.block w.heap.size (HL4.out _ (by have := HLW.out; omega))).trans HS4.out.1, (HB5.out.cell (show g < _ from HPB4.out)).trans HS4.out.2⟩)
          have hz1 := (hb5.block W4.heap.size (by simp)).trans (heapNew W4 (.cells #[.int .i64 0, .int .i64 0, .string ⟨#[]⟩, .slice none 0 0, .slice none 0 0] 25))
          have HZ := Lib.hid hz1
          clear hb5 hz1
          refine hK.out _ _ (HS5.out) (fun hHeld => ?_)
          clear hK K
          try simp only [Act.put, List.setIfInBounds_toArray, List.set_cons_zero, List.set_cons_succ]
          refine wpAnyH_take (i := 6) (oi := { dst := some 31, op := Op.move (Operand.tmp 37), type := 54, pos := "patch.go:27", after := #[{ on := 5, ground := Ground.data }], guard := none }) (v := ?_) rfl (by kernel_rfl) (by kernel_rfl) (by kernel_rfl) (fun _ _ _ h => h) (Or.inl ⟨by rfl, ?_⟩) hHeld ?_
          rotate_left
          · intro w hSw; (try dsimp only at hSw); go_simp; with_reducible rfl
          try simp only [Act.put, List.setIfInBounds_toArray, List.set_cons_zero, List.set_cons_succ]
          refine wpAnyH_take (i := 7) (oi := { dst := some 38, op := Op.extract (Operand.tmp 31) 0, type := 25, pos := "patch.go:27", after := #[{ on := 6, ground := Ground.data }], guard := none }) (v := ?_) rfl (by kernel_rfl) (by kernel_rfl) (by kernel_rfl) (fun _ _ _ h => h) (Or.inl ⟨by rfl, ?_⟩) hHeld ?_
          rotate_left
          · intro w hSw; (try dsimp only at hSw); go_simp; with_reducible rfl
          try simp only [Act.put, List.setIfInBounds_toArray, List.set_cons_zero, List.set_cons_succ]
          refine wpAnyH_take (i := 8) (oi := { dst := some 39, op := Op.extract (Operand.tmp 31) 1, type := 4, pos := "patch.go:27", after := #[{ on := 6, ground := Ground.data }, { on := 10, ground := Ground.gcOnly Departure.lateStores }], guard := none }) (v := ?_) rfl (by kernel_rfl) (by kernel_rfl) (by kernel_rfl) (fun _ _ _ h => h) (Or.inl ⟨by rfl, ?_⟩) hHeld ?_
          rotate_left
          · intro w hSw; (try dsimp only at hSw); go_simp; with_reducible rfl
          try simp only [Act.put, List.setIfInBounds_toArray, List.set_cons_zero, List.set_cons_succ]
          refine wpAnyH_ready (rs := [10]) (by kernel_rfl) (by simp) ?_
          refine AllReadyH.cons (o := { dst := none, op := Op.store 25 (Operand.tmp 10) (Operand.tmp 38), type := 0, pos := "patch.go:27", after := #[{ on := 9, ground := Ground.data }, { on := 7, ground := Ground.data }, { on := 5, ground := Ground.chain }, { on := 0, ground := Ground.phase }, { on := 1, ground := Ground.phase }, { on := 2, ground := Ground.phase }, { on := 3, ground := Ground.phase }, { on := 4, ground := Ground.phase }, { on := 5, ground := Ground.phase }, { on := 6, ground := Ground.phase }, { on := 7, ground := Ground.phase }, { on := 8, ground := Ground.textOnly Departure.lateStores }, { on := 9, ground := Ground.phase }], guard := none }) rfl (fun K hK => ?_) AllReadyH.nil
          obtain ⟨⟨z0, z1, z2, z3, z4⟩, ⟨y0, y1, y2, y3, y4⟩⟩ := row5 HZ.out
          go_simp
          clear z0 z1 z2 z3 z4 y0 y1 y2 y3 y4
          obtain ⟨W6, hW6⟩ : ∃ W6, W6 = (((((w5.setCell ⟨W4.heap.size, 0, none⟩ (.int .i64 yk)).setCell ⟨W4.heap.size, 1, none⟩ (.int .i64 yn)).setCell ⟨W4.heap.size, 2, none⟩ (.string ys)).setCell ⟨W4.heap.size, 3, none⟩ (.slice yA yl yc)).setCell ⟨W4.heap.size, 4, none⟩ (.slice yB ym yd)) := ⟨_, rfl⟩
          obtain ⟨E, hE⟩ : ∃ E, E = W4.heap.size := ⟨_, rfl⟩
          have HB6 := Lib.hid (show Below W4.heap.size W4 W6 by rw [hW6]; exact st5_below HB5.out (Nat.le_refl _) _ _ _ _ _)
          rw [← hW6, ← hE]
          clear hW6 hE HZ HB5 HS5
          refine hK.out _ _ (⟨(HB6.out.block w.heap.size (HL4.out _ (by have := HLW.out; omega))).trans HS4.out.1, (HB6.out.cell (show g < _ from HPB4.out)).trans HS4.out.2⟩) (fun hHeld => ?_)
          clear hK K
          try simp only [Act.put, List.setIfInBounds_toArray, List.set_cons_zero, List.set_cons_succ]
          refine wpAnyH_take (i := 11) (oi := { dst := some 11, op := Op.assign (Operand.tmp 39), type := 4, pos := "patch.go:27", after := #[{ on := 8, ground := Ground.data }, { on := 10, ground := Ground.chain }, { on := 0, ground := Ground.phase }, { on := 1, ground := Ground.phase }, { on := 2, ground := Ground.phase }, { on := 3, ground := Ground.phase }, { on := 4, ground := Ground.phase }, { on := 5, ground := Ground.phase }, { on := 6, ground := Ground.phase }, { on := 7, ground := Ground.phase }, { on := 8, ground := Ground.phase }, { on := 9, ground := Ground.phase }, { on := 10, ground := Ground.phase }], guard := none }) (v := ?_) rfl (by kernel_rfl) (by kernel_rfl) (by kernel_rfl) (fun _ _ _ h => h) (Or.inl ⟨by rfl, ?_⟩) hHeld ?_
          rotate_left
          · intro w hSw; (try dsimp only at hSw); go_simp; with_reducible rfl
          try simp only [Act.put, List.setIfInBounds_toArray, List.set_cons_zero, List.set_cons_succ]
          refine wpAnyH_done (by kernel_rfl) ?_ _
          clear hHeld
          have HBW6 := Lib.hid (HBW4.out.trans (HB6.out.mono HBW4.out.size))
          have HL6 := Lib.hid (show wr.heap.size + 1 ≤ W6.heap.size by have := HB6.out.size; rw [HSW4.out] at this; exact this)
          have HV6 := Lib.hid (show W6.heap[w.heap.size]? = some (.cells #[.int .i64 ck, .int .i64 cn, .string CS, .slice cA cl cc, .slice cB cm cd] 25 (0, 0)) from (HB6.out.block w.heap.size (by have := HSW4.out; have := HLW.out; omega)).trans HS4.out.1)
          have HS6 := Lib.hid (show W6.cell? ⟨g, k, none⟩ = some (.slice qA qn qc) ∧ W6.heap[wr.heap.size]? = some (.cells #[.string X, .int .i64 xk, .int .i64 xn, .string xs, .slice xA xl xc, .slice xB xm xd] 36 (0, 0)) from ⟨(HB6.out.cell (show g < _ from HPB4.out)).trans HS4.out.2, (HB6.out.block wr.heap.size (by have := HSW4.out; omega)).trans HM4.out⟩)
          obtain ⟨m0, m1, m2, m3, m4, m5⟩ := row6 HS6.out.2
          cases ob
          · by_cases hx1 : xk = 1
            · have t3 : (xk != 1) = false := by rw [hx1]; rfl
              have HSTP := Lib.hid (show aplV v ((lst p).take (k + 1)) = cur from HAS.out.trans (by
                unfold stpV
                rw [if_neg]
                rintro (h | h)
                · rw [HOB.out] at h; cases h
                · exact h (HXK.out.trans hx1)))
              clear hx1
              go_wp2
              go_roundw
              case rel =>
                refine ⟨k + 1, by go_num, by have := HLT.out; omega, ?_, (show Below _ _ _ from HBW6.out)⟩
                obtain ⟨k1, k2, k3⟩ := HRDF.out
                refine (show ApI _ _ _ _ _ _ _ from ⟨_, F, HV6.out, ?_, k2, fun x hx => ⟨(k3 x hx).1, by have := (k3 x hx).2; have := HL6.out; omega⟩, fun x hx hxb => ?_, by have := HL6.out; have := HSZ.out; omega⟩)
                · rw [HSTP.out]
                  exact RdF.keep _ _ _ (fun k hk => (HB6.out.block k (by have := (k3 k hk).2; have := HSW4.out; omega)).trans (HB4.out.block k (k3 k hk).2)) k1
                · exact (HB6.out.block x (by have := HSW4.out; have := HSZ.out; omega)).trans ((HB4.out.block x (by have := HSZ.out; omega)).trans (HOTH.out x hx hxb))
              case measure => have := HLT.out; simp [intOf]; omega
            · have t3 : (xk != 1) = true := bne_iff_ne.2 hx1
              have HSTP := Lib.hid (show aplV v ((lst p).take (k + 1)) = chgV (pth xx) x cur from HAS.out.trans (by
                unfold stpV
                rw [if_pos (.inr (by show x.k ≠ 1; rw [HXK.out]; exact hx1))]))
              clear hx1
              go_wp2_with fail
              refine wp_region_held_drew (S := fun W' => W'.cell? ⟨g, k, none⟩ = some (.slice qA qn qc) ∧ W'.heap[wr.heap.size]? = some (.cells #[.string X, .int .i64 xk, .int .i64 xn, .string xs, .slice xA xl xc, .slice xB xm xd] 36 (0, 0))) (by kernel_rfl) (HS6.out) (fun hHeld => ?_)
              refine wpAnyH_take (i := 1) (oi := { dst := some 48, op := Op.move (Operand.tmp 6), type := 51, pos := "patch.go:28", after := #[], guard := none }) (v := ?_) rfl (by kernel_rfl) (by kernel_rfl) (by kernel_rfl) (fun _ _ _ h => h) (Or.inl ⟨by rfl, ?_⟩) hHeld ?_
              rotate_left
              · intro w hSw; (try dsimp only at hSw); go_simp; with_reducible rfl
              try simp only [Act.put, List.setIfInBounds_toArray, List.set_cons_zero, List.set_cons_succ]
              refine wpAnyH_take (i := 2) (oi := { dst := some 49, op := Op.move (Operand.tmp 8), type := 3, pos := "patch.go:28", after := #[], guard := none }) (v := ?_) rfl (by kernel_rfl) (by kernel_rfl) (by kernel_rfl) (fun _ _ _ h => h) (Or.inl ⟨by rfl, ?_⟩) hHeld ?_
              rotate_left
              · intro w hSw; (try dsimp only at hSw); go_simp; with_reducible rfl
              try simp only [Act.put, List.setIfInBounds_toArray, List.set_cons_zero, List.set_cons_succ]
              refine wpAnyH_take (i := 3) (oi := { dst := some 50, op := Op.indexAddr 51 (Operand.tmp 48) (Operand.tmp 49), type := 0, pos := "patch.go:28", after := #[{ on := 1, ground := Ground.data }, { on := 2, ground := Ground.data }], guard := none }) (v := ?_) rfl (by kernel_rfl) (by kernel_rfl) (by kernel_rfl) (fun _ _ _ h => h) (Or.inl ⟨by rfl, ?_⟩) hHeld ?_
              rotate_left
              · intro w hSw; (try dsimp only at hSw); go_simp; with_reducible rfl
              try simp only [Act.put, List.setIfInBounds_toArray, List.set_cons_zero, List.set_cons_succ]
              refine wpAnyH_take (i := 4) (oi := { dst := some 51, op := Op.load 32 (Operand.tmp 50), type := 32, pos := "patch.go:28", after := #[{ on := 3, ground := Ground.data }], guard := none }) (v := ?_) rfl (by kernel_rfl) (by kernel_rfl) (by kernel_rfl) (fun _ _ _ h => h) (Or.inl ⟨by rfl, ?_⟩) hHeld ?_
              rotate_left
              · intro w hSw; (try dsimp only at hSw); have hx := hSw.1; go_simp; with_reducible rfl
              try simp only [Act.put, List.setIfInBounds_toArray, List.set_cons_zero, List.set_cons_succ]
              refine wpAnyH_take (i := 5) (oi := { dst := some 52, op := Op.fieldAddr 36 (Operand.tmp 9) 1, type := 0, pos := "patch.go:28", after := #[], guard := none }) (v := ?_) rfl (by kernel_rfl) (by kernel_rfl) (by kernel_rfl) (fun _ _ _ h => h) (Or.inl ⟨by rfl, ?_⟩) hHeld ?_
              rotate_left
              · intro w hSw; (try dsimp only at hSw); go_simp; with_reducible rfl
              try simp only [Act.put, List.setIfInBounds_toArray, List.set_cons_zero, List.set_cons_succ]
              refine wpAnyH_take (i := 6) (oi := { dst := some 53, op := Op.load 25 (Operand.tmp 52), type := 25, pos := "patch.go:28", after := #[{ on := 5, ground := Ground.data }], guard := none }) (v := ?_) rfl (by kernel_rfl) (by kernel_rfl) (by kernel_rfl) (fun _ _ _ h => h) (Or.inl ⟨by rfl, ?_⟩) hHeld ?_
              rotate_left
              · intro w hSw; (try dsimp only at hSw); obtain ⟨m0, m1, m2, m3, m4, m5⟩ := row6 hSw.2; go_simp; with_reducible rfl
              try simp only [Act.put, List.setIfInBounds_toArray, List.set_cons_zero, List.set_cons_succ]
              refine wpAnyH_ready (rs := [0]) (by kernel_rfl) (by simp) ?_
              refine AllReadyH.cons (o := { dst := some 47, op := Op.load 25 (Operand.tmp 2), type := 25, pos := "patch.go:28", after := #[], guard := none }) rfl (fun K hK => ?_) AllReadyH.nil
              obtain ⟨⟨p0, p1, p2, p3, p4⟩, -⟩ := row5 HV6.out
              go_simp
              clear p0 p1 p2 p3 p4
              refine hK.out _ _ (hHeld) (fun hHeld => ?_)
              clear hK K
              try simp only [Act.put, List.setIfInBounds_toArray, List.set_cons_zero, List.set_cons_succ]
              refine wpAnyH_ready (rs := [7]) (by kernel_rfl) (by simp) ?_
              refine AllReadyH.cons (o := { dst := some 54, op := Op.call { callee := Callee.value (Operand.func 23), args := #[Operand.tmp 47, Operand.tmp 51, Operand.tmp 53], argTypes := #[25, 32, 25] }, type := 25, pos := "patch.go:28", after := #[{ on := 0, ground := Ground.data }, { on := 4, ground := Ground.data }, { on := 6, ground := Ground.data }], guard := none }) rfl (fun K hK => ?_) AllReadyH.nil
              go_simp
              go_at_call 23
              refine (HCG.out _ HB6.out.drew).mono ?_
              rintro e w7 ⟨⟨cz, Fz, rfl, hcz, hnz, hsz', hlz⟩, hb7⟩
              have HB7 := Lib.hid (show Below W6.heap.size W6 w7 from (Below.drew (Below.refl W6.heap.size W6)).trans hb7)
              obtain ⟨zA, zc, zB, zd, FLz, FMz, rfl, -⟩ := hcz.cells
              have HRZ := Lib.hid (And.intro hcz (And.intro hnz (And.intro (show ∀ k ∈ Fz, k ∈ F ∨ W6.heap.size ≤ k from hsz') hlz)))
              have HS7 := Lib.hid (show w7.cell? ⟨g, k, none⟩ = some (.slice qA qn qc) ∧ w7.heap[wr.heap.size]? = some (.cells #[.string X, .int .i64 xk, .int .i64 xn, .string xs, .slice xA xl xc, .slice xB xm xd] 36 (0, 0)) from ⟨(HB7.out.cell (by show g < _; have := HL6.out; have := HPB4.out; have := HB6.out.size; omega)).trans HS6.out.1, (HB7.out.block wr.heap.size (by have := HL6.out; omega)).trans HS6.out.2⟩)
              have HV7 := Lib.hid ((HB7.out.block w.heap.size (by have := HL6.out; have := HLW.out; omega)).trans HV6.out)
              clear hcz hnz hsz' hlz hb7
              generalize (chgV (pth xx) x cur).k = zk at *
              generalize (chgV (pth xx) x cur).n = zn at *
              generalize strOf (chgV (pth xx) x cur).s = zs at *
              generalize (chgV (pth xx) x cur).l.length = zl at *
              generalize (chgV (pth xx) x cur).ms.length = zm at *
              refine hK.out _ _ (HS7.out) (fun hHeld => ?_)
              clear hK K
              try simp only [Act.put, List.setIfInBounds_toArray, List.set_cons_zero, List.set_cons_succ]
              refine wpAnyH_ready (rs := [8]) (by kernel_rfl) (by simp) ?_
              refine AllReadyH.cons (o := { dst := none, op := Op.store 25 (Operand.tmp 2) (Operand.tmp 54), type := 0, pos := "patch.go:28", after := #[{ on := 7, ground := Ground.data }, { on := 7, ground := Ground.chain }, { on := 0, ground := Ground.phase }, { on := 1, ground := Ground.phase }, { on := 2, ground := Ground.phase }, { on := 3, ground := Ground.phase }, { on := 4, ground := Ground.phase }, { on := 5, ground := Ground.phase }, { on := 6, ground := Ground.phase }, { on := 7, ground := Ground.phase }], guard := none }) rfl (fun K hK => ?_) AllReadyH.nil
              obtain ⟨⟨z0, z1, z2, z3, z4⟩, ⟨y0, y1, y2, y3, y4⟩⟩ := row5 HV7.out
              go_simp
              clear z0 z1 z2 z3 z4 y0 y1 y2 y3 y4
              obtain ⟨W8, hW8⟩ : ∃ W8, W8 = (((((w7.setCell ⟨w.heap.size, 0, none⟩ (.int .i64 zk)).setCell ⟨w.heap.size, 1, none⟩ (.int .i64 zn)).setCell ⟨w.heap.size, 2, none⟩ (.string zs)).setCell ⟨w.heap.size, 3, none⟩ (.slice zA zl zc)).setCell ⟨w.heap.size, 4, none⟩ (.slice zB zm zd)) := ⟨_, rfl⟩
              have HR8 := Lib.hid (show W8.heap[w.heap.size]? = some (.cells #[.int .i64 zk, .int .i64 zn, .string zs, .slice zA zl zc, .slice zB zm zd] 25 (0, 0)) by rw [hW8]; exact st5_row HV7.out _ _ _ _ _)
              have HO8 := Lib.hid (show ∀ k, k ≠ w.heap.size → W8.heap[k]? = w7.heap[k]? from fun k hk => by rw [hW8]; exact st5_other hk _ _ _ _ _)
              have HZ8 := Lib.hid (show W8.heap.size = w7.heap.size by rw [hW8]; exact st5_size (w := w7) (b := w.heap.size) _ _ _ _ _)
              have HBW7 := Lib.hid (HBW6.out.trans (HB7.out.mono HBW6.out.size))
              have HBW8 := Lib.hid (show Below w.heap.size w W8 by rw [hW8]; exact st5_below HBW7.out (Nat.le_refl _) _ _ _ _ _)
              rw [← hW8]
              clear hW8
              refine hK.out _ _ (⟨(World.cell?_of_block (HO8.out g HPBN.out)).trans HS7.out.1, (HO8.out wr.heap.size (by have := HLW.out; omega)).trans HS7.out.2⟩) (fun hHeld => ?_)
              clear hK K
              try simp only [Act.put, List.setIfInBounds_toArray, List.set_cons_zero, List.set_cons_succ]
              refine wpAnyH_done (by kernel_rfl) ?_ _
              clear hHeld
              go_wp2
              go_roundw
              case rel =>
                refine ⟨k + 1, by go_num, by have := HLT.out; omega, ?_, (show Below _ _ _ from HBW8.out)⟩
                obtain ⟨k1, k2, k3, k4⟩ := HRZ.out
                refine (show ApI _ _ _ _ _ _ _ from ⟨_, Fz, HR8.out, ?_, k2, fun x hx => ?_, fun x hx hxb => ?_, by rw [HZ8.out]; have := HB7.out.size; have := HL6.out; have := HSZ.out; omega⟩)
                · rw [HSTP.out]
                  exact RdF.keep _ _ _ (fun k hk => HO8.out k (by
                    rcases k3 k hk with h | h
                    · have := (HRDF.out.2.2 k h).1; have := HS1.out; omega
                    · have := HL6.out; have := HLW.out; omega)) k1
                · rw [HZ8.out]
                  refine ⟨?_, k4 x hx⟩
                  rcases k3 x hx with h | h
                  · exact (HRDF.out.2.2 x h).1
                  · have := HL6.out; have := HSZ.out; omega
                · exact (HO8.out x hxb).trans ((HB7.out.block x (by have := HL6.out; have := HSZ.out; omega)).trans ((HB6.out.block x (by have := HSW4.out; have := HSZ.out; omega)).trans ((HB4.out.block x (by have := HSZ.out; omega)).trans (HOTH.out x hx hxb))))
              case measure => have := HLT.out; simp [intOf]; omega
          · have HSTP := Lib.hid (show aplV v ((lst p).take (k + 1)) = chgV (pth xx) x cur from HAS.out.trans (by
              unfold stpV
              rw [if_pos (.inl (by rw [HOB.out]))]))
            go_wp2_with fail
            refine wp_region_held_drew (S := fun W' => W'.cell? ⟨g, k, none⟩ = some (.slice qA qn qc) ∧ W'.heap[wr.heap.size]? = some (.cells #[.string X, .int .i64 xk, .int .i64 xn, .string xs, .slice xA xl xc, .slice xB xm xd] 36 (0, 0))) (by kernel_rfl) (HS6.out) (fun hHeld => ?_)
            refine wpAnyH_take (i := 1) (oi := { dst := some 48, op := Op.move (Operand.tmp 6), type := 51, pos := "patch.go:28", after := #[], guard := none }) (v := ?_) rfl (by kernel_rfl) (by kernel_rfl) (by kernel_rfl) (fun _ _ _ h => h) (Or.inl ⟨by rfl, ?_⟩) hHeld ?_
            rotate_left
            · intro w hSw; (try dsimp only at hSw); go_simp; with_reducible rfl
            try simp only [Act.put, List.setIfInBounds_toArray, List.set_cons_zero, List.set_cons_succ]
            refine wpAnyH_take (i := 2) (oi := { dst := some 49, op := Op.move (Operand.tmp 8), type := 3, pos := "patch.go:28", after := #[], guard := none }) (v := ?_) rfl (by kernel_rfl) (by kernel_rfl) (by kernel_rfl) (fun _ _ _ h => h) (Or.inl ⟨by rfl, ?_⟩) hHeld ?_
            rotate_left
            · intro w hSw; (try dsimp only at hSw); go_simp; with_reducible rfl
            try simp only [Act.put, List.setIfInBounds_toArray, List.set_cons_zero, List.set_cons_succ]
            refine wpAnyH_take (i := 3) (oi := { dst := some 50, op := Op.indexAddr 51 (Operand.tmp 48) (Operand.tmp 49), type := 0, pos := "patch.go:28", after := #[{ on := 1, ground := Ground.data }, { on := 2, ground := Ground.data }], guard := none }) (v := ?_) rfl (by kernel_rfl) (by kernel_rfl) (by kernel_rfl) (fun _ _ _ h => h) (Or.inl ⟨by rfl, ?_⟩) hHeld ?_
            rotate_left
            · intro w hSw; (try dsimp only at hSw); go_simp; with_reducible rfl
            try simp only [Act.put, List.setIfInBounds_toArray, List.set_cons_zero, List.set_cons_succ]
            refine wpAnyH_take (i := 4) (oi := { dst := some 51, op := Op.load 32 (Operand.tmp 50), type := 32, pos := "patch.go:28", after := #[{ on := 3, ground := Ground.data }], guard := none }) (v := ?_) rfl (by kernel_rfl) (by kernel_rfl) (by kernel_rfl) (fun _ _ _ h => h) (Or.inl ⟨by rfl, ?_⟩) hHeld ?_
            rotate_left
            · intro w hSw; (try dsimp only at hSw); have hx := hSw.1; go_simp; with_reducible rfl
            try simp only [Act.put, List.setIfInBounds_toArray, List.set_cons_zero, List.set_cons_succ]
            refine wpAnyH_take (i := 5) (oi := { dst := some 52, op := Op.fieldAddr 36 (Operand.tmp 9) 1, type := 0, pos := "patch.go:28", after := #[], guard := none }) (v := ?_) rfl (by kernel_rfl) (by kernel_rfl) (by kernel_rfl) (fun _ _ _ h => h) (Or.inl ⟨by rfl, ?_⟩) hHeld ?_
            rotate_left
            · intro w hSw; (try dsimp only at hSw); go_simp; with_reducible rfl
            try simp only [Act.put, List.setIfInBounds_toArray, List.set_cons_zero, List.set_cons_succ]
            refine wpAnyH_take (i := 6) (oi := { dst := some 53, op := Op.load 25 (Operand.tmp 52), type := 25, pos := "patch.go:28", after := #[{ on := 5, ground := Ground.data }], guard := none }) (v := ?_) rfl (by kernel_rfl) (by kernel_rfl) (by kernel_rfl) (fun _ _ _ h => h) (Or.inl ⟨by rfl, ?_⟩) hHeld ?_
            rotate_left
            · intro w hSw; (try dsimp only at hSw); obtain ⟨m0, m1, m2, m3, m4, m5⟩ := row6 hSw.2; go_simp; with_reducible rfl
            try simp only [Act.put, List.setIfInBounds_toArray, List.set_cons_zero, List.set_cons_succ]
            refine wpAnyH_ready (rs := [0]) (by kernel_rfl) (by simp) ?_
            refine AllReadyH.cons (o := { dst := some 47, op := Op.load 25 (Operand.tmp 2), type := 25, pos := "patch.go:28", after := #[], guard := none }) rfl (fun K hK => ?_) AllReadyH.nil
            obtain ⟨⟨p0, p1, p2, p3, p4⟩, -⟩ := row5 HV6.out
            go_simp
            clear p0 p1 p2 p3 p4
            refine hK.out _ _ (hHeld) (fun hHeld => ?_)
            clear hK K
            try simp only [Act.put, List.setIfInBounds_toArray, List.set_cons_zero, List.set_cons_succ]
            refine wpAnyH_ready (rs := [7]) (by kernel_rfl) (by simp) ?_
            refine AllReadyH.cons (o := { dst := some 54, op := Op.call { callee := Callee.value (Operand.func 23), args := #[Operand.tmp 47, Operand.tmp 51, Operand.tmp 53], argTypes := #[25, 32, 25] }, type := 25, pos := "patch.go:28", after := #[{ on := 0, ground := Ground.data }, { on := 4, ground := Ground.data }, { on := 6, ground := Ground.data }], guard := none }) rfl (fun K hK => ?_) AllReadyH.nil
            go_simp
            go_at_call 23
            refine (HCG.out _ HB6.out.drew).mono ?_
            rintro e w7 ⟨⟨cz, Fz, rfl, hcz, hnz, hsz', hlz⟩, hb7⟩
            have HB7 := Lib.hid (show Below W6.heap.size W6 w7 from (Below.drew (Below.refl W6.heap.size W6)).trans hb7)
            obtain ⟨zA, zc, zB, zd, FLz, FMz, rfl, -⟩ := hcz.cells
            have HRZ := Lib.hid (And.intro hcz (And.intro hnz (And.intro (show ∀ k ∈ Fz, k ∈ F ∨ W6.heap.size ≤ k from hsz') hlz)))
            have HS7 := Lib.hid (show w7.cell? ⟨g, k, none⟩ = some (.slice qA qn qc) ∧ w7.heap[wr.heap.size]? = some (.cells #[.string X, .int .i64 xk, .int .i64 xn, .string xs, .slice xA xl xc, .slice xB xm xd] 36 (0, 0)) from ⟨(HB7.out.cell (by show g < _; have := HL6.out; have := HPB4.out; have := HB6.out.size; omega)).trans HS6.out.1, (HB7.out.block wr.heap.size (by have := HL6.out; omega)).trans HS6.out.2⟩)
            have HV7 := Lib.hid ((HB7.out.block w.heap.size (by have := HL6.out; have := HLW.out; omega)).trans HV6.out)
            clear hcz hnz hsz' hlz hb7
            generalize (chgV (pth xx) x cur).k = zk at *
            generalize (chgV (pth xx) x cur).n = zn at *
            generalize strOf (chgV (pth xx) x cur).s = zs at *
            generalize (chgV (pth xx) x cur).l.length = zl at *
            generalize (chgV (pth xx) x cur).ms.length = zm at *
            refine hK.out _ _ (HS7.out) (fun hHeld => ?_)
            clear hK K
            try simp only [Act.put, List.setIfInBounds_toArray, List.set_cons_zero, List.set_cons_succ]
            refine wpAnyH_ready (rs := [8]) (by kernel_rfl) (by simp) ?_
            refine AllReadyH.cons (o := { dst := none, op := Op.store 25 (Operand.tmp 2) (Operand.tmp 54), type := 0, pos := "patch.go:28", after := #[{ on := 7, ground := Ground.data }, { on := 7, ground := Ground.chain }, { on := 0, ground := Ground.phase }, { on := 1, ground := Ground.phase }, { on := 2, ground := Ground.phase }, { on := 3, ground := Ground.phase }, { on := 4, ground := Ground.phase }, { on := 5, ground := Ground.phase }, { on := 6, ground := Ground.phase }, { on := 7, ground := Ground.phase }], guard := none }) rfl (fun K hK => ?_) AllReadyH.nil
            obtain ⟨⟨z0, z1, z2, z3, z4⟩, ⟨y0, y1, y2, y3, y4⟩⟩ := row5 HV7.out
            go_simp
            clear z0 z1 z2 z3 z4 y0 y1 y2 y3 y4
            obtain ⟨W8, hW8⟩ : ∃ W8, W8 = (((((w7.setCell ⟨w.heap.size, 0, none⟩ (.int .i64 zk)).setCell ⟨w.heap.size, 1, none⟩ (.int .i64 zn)).setCell ⟨w.heap.size, 2, none⟩ (.string zs)).setCell ⟨w.heap.size, 3, none⟩ (.slice zA zl zc)).setCell ⟨w.heap.size, 4, none⟩ (.slice zB zm zd)) := ⟨_, rfl⟩
            have HR8 := Lib.hid (show W8.heap[w.heap.size]? = some (.cells #[.int .i64 zk, .int .i64 zn, .string zs, .slice zA zl zc, .slice zB zm zd] 25 (0, 0)) by rw [hW8]; exact st5_row HV7.out _ _ _ _ _)
            have HO8 := Lib.hid (show ∀ k, k ≠ w.heap.size → W8.heap[k]? = w7.heap[k]? from fun k hk => by rw [hW8]; exact st5_other hk _ _ _ _ _)
            have HZ8 := Lib.hid (show W8.heap.size = w7.heap.size by rw [hW8]; exact st5_size (w := w7) (b := w.heap.size) _ _ _ _ _)
            have HBW7 := Lib.hid (HBW6.out.trans (HB7.out.mono HBW6.out.size))
            have HBW8 := Lib.hid (show Below w.heap.size w W8 by rw [hW8]; exact st5_below HBW7.out (Nat.le_refl _) _ _ _ _ _)
            rw [← hW8]
            clear hW8
            refine hK.out _ _ (⟨(World.cell?_of_block (HO8.out g HPBN.out)).trans HS7.out.1, (HO8.out wr.heap.size (by have := HLW.out; omega)).trans HS7.out.2⟩) (fun hHeld => ?_)
            clear hK K
            try simp only [Act.put, List.setIfInBounds_toArray, List.set_cons_zero, List.set_cons_succ]
            refine wpAnyH_done (by kernel_rfl) ?_ _
            clear hHeld
            go_wp2
            go_roundw
            case rel =>
              refine ⟨k + 1, by go_num, by have := HLT.out; omega, ?_, (show Below _ _ _ from HBW8.out)⟩
              obtain ⟨k1, k2, k3, k4⟩ := HRZ.out
              refine (show ApI _ _ _ _ _ _ _ from ⟨_, Fz, HR8.out, ?_, k2, fun x hx => ?_, fun x hx hxb => ?_, by rw [HZ8.out]; have := HB7.out.size; have := HL6.out; have := HSZ.out; omega⟩)
              · rw [HSTP.out]
                exact RdF.keep _ _ _ (fun k hk => HO8.out k (by
                  rcases k3 k hk with h | h
                  · have := (HRDF.out.2.2 k h).1; have := HS1.out; omega
                  · have := HL6.out; have := HLW.out; omega)) k1
              · rw [HZ8.out]
                refine ⟨?_, k4 x hx⟩
                rcases k3 x hx with h | h
                · exact (HRDF.out.2.2 x h).1
                · have := HL6.out; have := HSZ.out; omega
              · exact (HO8.out x hxb).trans ((HB7.out.block x (by have := HL6.out; have := HSZ.out; omega)).trans ((HB6.out.block x (by have := HSW4.out; have := HSZ.out; omega)).trans ((HB4.out.block x (by have := HSZ.out; omega)).trans (HOTH.out x hx hxb))))
            case measure => have := HLT.out; simp [intOf]; omega
      · have t1 : decide ((k : Int) < (len : Int)) = false := decide_eq_false (by omega)
        have t2 : decide (k < len) = false := decide_eq_false hlt
        obtain rfl : k = len := by omega
        have HALL := Lib.hid (show (lst p).take k = lst p from List.take_of_length_le (by rw [lst_len HNL.out, HLN.out]; exact Nat.le_refl _))
        have hrr := (HOTH.out (w.heap.size + 1 + 1) (by have := HS1.out; omega) (by omega)).trans HR1.out
        have HRR := Lib.hid hrr
        have HRv := Lib.hid HRr.out
        generalize (aplV v ((lst p).take k)).k = ck at *
        generalize (aplV v ((lst p).take k)).n = cn at *
        generalize strOf (aplV v ((lst p).take k)).s = CS at *
        generalize (aplV v ((lst p).take k)).l.length = cl at *
        generalize (aplV v ((lst p).take k)).ms.length = cm at *
        obtain ⟨⟨p0, p1, p2, p3, p4⟩, -⟩ := row5 HRr.out
        obtain ⟨⟨r0, r1, r2, r3, r4⟩, ⟨f0, f1, f2, f3, f4⟩⟩ := row5 hrr
        clear hrr
        go_wp2
        refine bodyPost_ret (res5b rfl rfl rfl (st5_row HRR.out (.int .i64 ck) (.int .i64 cn) (.string CS) (.slice cA cl cc) (.slice cB cm cd))) rfl ?_
        obtain ⟨k1, k2, k3⟩ := HRDF.out
        rw [HALL.out] at k1
        refine ⟨⟨_, 0, rfl, .inl ⟨HFIT.out, rfl, F, RdF.keep _ _ _ (fun x hx => st5_other (by have := (k3 x hx).1; have := HS1.out; omega) _ _ _ _ _) k1, k2, fun x hx => ⟨by have := (k3 x hx).1; have := HS1.out; omega, ?_⟩⟩⟩, st5_below HBWr.out (by omega) _ _ _ _ _⟩
        exact Nat.lt_of_lt_of_eq (k3 x hx).2 (st5_size (w := wr) (b := w.heap.size + 1 + 1) _ _ _ _ _).symm
end Go.Proofs.Ytbfogkcnfnjcaaa.Pa
