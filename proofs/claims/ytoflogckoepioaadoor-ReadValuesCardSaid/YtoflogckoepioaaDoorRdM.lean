import Derived.Test.YtoflogckoepioaaDoorRdL
/- Contract of members of layer 5's document's answer. Written by tools/genRdM.py. -/
namespace Go.Proofs.YtoflogckoepioaaDoor.Re
open Go.RowKit
open Go.Proofs.YtoflogckoepioaaDoor.Utf
open Go.Proofs.YtoflogckoepioaaDoor.Sc

/-- a map that is being made -/
def MpD (w wr : World) (pb : Nat) (vL : Value) (ts : List Tok) (E : Int) (f d : Nat) (R : Rs (List (List UInt8) × List V)) : Prop :=
  ∃ (n j q : Nat) (vm : Value) (cs : List Value) (a y : Int),
    Prs wr pb vL E j q a y ∧ w.grownBy wr (some pb) ∧ wr.heap[w.heap.size]? = some (.cells #[.int .i64 0, .int .i64 0, .string ⟨#[]⟩, .slice none 0 0, .slice none 0 0] 25 (0, 0)) ∧
    wr.heap[w.heap.size + 1]? = some (.cells #[.int .i64 6, .int .i64 0, .string ⟨#[]⟩, .slice none 0 0, vm] 25 (0, 0)) ∧
    wr.ownsRow (w.heap.size + 2) 38 6 vm n cs ∧ j ≤ ts.length ∧ n ≤ j ∧
    ((a = 0 ∧ y = 0 ∧ ∃ (ns : List (List UInt8)) (av : List V) (f' : Nat), n = av.length ∧ R = (pM ts E f' d j q ns).map (fun x => (ns ++ x.1, av ++ x.2)) ∧ q ≤ 8192 ∧ f' ≤ f ∧ 2 * (ts.length - j) + 3 ≤ f' ∧ ItsM wr (w.heap.size + 2) vm.ownBlock ns av cs) ∨ (y ≠ 0 ∧ R = .bad a y))
/-- the names of a map that is being made -/
theorem names_at {w : World} {base n : Nat} {vm : Value} {cs : List Value} {ns : List (List UInt8)} {av : List V} (h : w.ownsRow base 38 6 vm n cs) (hn : n = av.length) (hi : ItsM w base vm.ownBlock ns av cs) :
    ns.length = n ∧ ∀ k (hk : k < ns.length), ∃ g c, vm = .slice (some ⟨g, 0, none⟩) n c ∧ g < w.heap.size ∧ w.cell? ⟨g, k * 6, none⟩ = some (.string (strOf ns[k])) := by
  have hl := hi.len
  refine ⟨by omega, fun k hk => ?_⟩
  subst hn
  have hV := RdV_mp h hi (lo := base) (hi := w.heap.size) (Nat.le_refl _) (Nat.le_refl _) (Nat.le_refl _)
  obtain ⟨A, c, A2, c2, e, _, _, hm⟩ := hV.cells
  simp only [mpV, V.l, V.ms, V.ns, List.cons.injEq, and_true] at e hm
  obtain ⟨_, _, _, _, rfl⟩ := e
  obtain ⟨g, rfl, _, g2, hM⟩ := hm (by omega)
  obtain ⟨h0, _⟩ := RdM.at_ _ _ 0 hM k (by omega) hk
  rw [Nat.zero_add] at h0
  exact ⟨g, c2, rfl, g2, h0⟩

set_option maxRecDepth 100000 in
set_option maxHeartbeats 8000000 in
theorem membersD_any (pb : Nat) (vL : Value) (ts : List Tok) (E : Int) (hi2 : ts.length ≤ 65536) (f : Nat) (IH : ∀ g, g < f → ValD pb vL ts E g) (d i p : Nat) (w : World) (hp : Prs w pb vL E i p 0 0) (hr : RdT w pb vL ts) (hi : i ≤ ts.length)
    (hpp : p ≤ 8192) (hd : d ≤ 16) (hf : 2 * (ts.length - i) + 3 ≤ f) :
    Calls Tryd.prog 24 #[.pointer (some ⟨pb, 0, none⟩), .int .i64 d] w (GivesV pb vL E ((gM ts E f d i p [] true).map mpV) w) := by
  have hlt := hp.cells.1
  obtain ⟨i0, hi0, hz0, hz1, hz2⟩ := info_parts infoMem
  obtain ⟨wa, hwa⟩ : ∃ wa, wa = (w.alloc (.cells #[.int .i64 0, .int .i64 0, .string ⟨#[]⟩, .slice none 0 0, .slice none 0 0] 25)).alloc (.cells #[.int .i64 6, .int .i64 0, .string ⟨#[]⟩, .slice none 0 0, .slice none 0 0] 25) := ⟨_, rfl⟩
  have hs1 : (w.alloc (.cells #[.int .i64 0, .int .i64 0, .string ⟨#[]⟩, .slice none 0 0, .slice none 0 0] 25)).heap.size = w.heap.size + 1 := szAlloc' _ _
  have hba : Below w.heap.size w wa := by rw [hwa]; exact ((Below.refl _ _).alloc (Nat.le_refl _) _).alloc (by rw [hs1]; omega) _
  have hsa : wa.heap.size = w.heap.size + 2 := by rw [hwa, szAlloc', szAlloc']
  have hza : wa.heap[w.heap.size]? = some (.cells #[.int .i64 0, .int .i64 0, .string ⟨#[]⟩, .slice none 0 0, .slice none 0 0] 25 (0, 0)) := by rw [hwa]; exact (heap_alloc_old _ _ (by rw [hs1]; omega)).trans (heap_alloc_new w _)
  have hzb : wa.heap[w.heap.size + 1]? = some (.cells #[.int .i64 6, .int .i64 0, .string ⟨#[]⟩, .slice none 0 0, .slice none 0 0] 25 (0, 0)) := by
    have := heap_alloc_new (w.alloc (.cells #[.int .i64 0, .int .i64 0, .string ⟨#[]⟩, .slice none 0 0, .slice none 0 0] 25)) (.cells #[.int .i64 6, .int .i64 0, .string ⟨#[]⟩, .slice none 0 0, .slice none 0 0] 25)
    rw [hs1] at this
    rw [hwa]; exact this
  have hM := mark_any pb vL ts E i p 0 0 125 ⟨#[125]⟩ wa (hp.below hba) (RdT_fr hr (Nat.le_of_lt hlt) (Fr.of pb hba)) (by rw [ByteArray.toList_eq]) (by omega)
  have hwr : IntKind.i64.wrap ((d : Int) + 1) = (d : Int) + 1 := IntWalk.i64_in _ (by omega)
  obtain ⟨R, hR⟩ : ∃ R, R = gM ts E f d i p [] true := ⟨_, rfl⟩
  rw [← hR]
  unfold gM at hR
  by_cases m1 : isM (tk ts E i) 125 = true
  · rw [if_pos m1] at hR
    rw [m1, if_pos rfl, hwa] at hM
    have HM := Lib.hid hM
    have HWA := Lib.hid hwa
    have HFA := Lib.hid (Fr.of pb hba)
    have HR := Lib.hid hR
    clear hM hwa hba hR hr IH hp m1 hwr
    go_enter Tryd.func24, Tryd.ntmps24
    go_wp2_with fail
    refine HM.out.mono ?_
    rw [← HWA.out]
    rintro e w6 ⟨rfl, hg6, hp6⟩
    have hs6 := hg6.size
    have hz6 := blk_fr hg6 (by omega) (by omega) hza
    have hv6 := blk_fr hg6 (by omega) (by omega) hzb
    obtain ⟨z0, z1, z2, z3, z4⟩ := cells5 hz6
    obtain ⟨qz0, qz1, qz2, qz3, qz4⟩ := frozen5 hz6
    have HZF := Lib.hid hz6; clear hz6
    obtain ⟨x0, x1, x2, x3, x4⟩ := cells5 hv6
    have HVF := Lib.hid hv6; clear hv6
    have HP6 := Lib.hid hp6; clear hp6
    have HG6 := Lib.hid hg6; clear hg6 hza hzb
    go_wp2_with fail
    have hn : w.heap.size ≠ pb := by omega
    have R5 := set5_row HZF.out (.int .i64 6) (.int .i64 0) (.string ⟨#[]⟩) (.slice none 0 0) (.slice none 0 0)
    have P5 := set5_prs HP6.out hn (.int .i64 6) (.int .i64 0) (.string ⟨#[]⟩) (.slice none 0 0) (.slice none 0 0)
    have F5 := set5_fr (Fr.trans HFA.out HG6.out) (Nat.le_refl _) (.int .i64 6) (.int .i64 0) (.string ⟨#[]⟩) (.slice none 0 0) (.slice none 0 0)
    refine bodyPost_ret (results5 rfl rfl R5) rfl ?_
    rw [HR.out]
    exact ⟨F5, _, _, _, _, _, _, _, _, _, rfl, RdV_leaf _ _ _ 6 0 [], P5⟩
  · rw [if_neg m1, if_pos rfl] at hR
    have m1' : isM (tk ts E i) 125 = false := by simpa using m1
    rw [m1', if_neg (by decide), hwa] at hM
    have HM := Lib.hid hM
    have HWA := Lib.hid hwa
    have HFA := Lib.hid (Fr.of pb hba)
    have HR := Lib.hid hR
    have HZA := Lib.hid hza
    have HZB := Lib.hid hzb
    have HRT := Lib.hid hr
    have HIH := Lib.hid IH
    clear hM hwa hba hR hr IH hp m1 m1' hza hzb
    go_enter Tryd.func24, Tryd.ntmps24
    go_wp2_with fail
    refine HM.out.mono ?_
    rw [← HWA.out]
    rintro e w1 ⟨rfl, hf1, hp1⟩
    have hlt1 := hp1.cells.1
    have HP1 := Lib.hid hp1; clear hp1
    have HF1 := Lib.hid hf1; clear hf1
    go_wp2_with fail
    go_loopw [6] (fun _ wr => MpD w wr pb vL ts E f d R) (fun _ wr => ts.length - nextD wr pb)
    case atStart =>
      refine ⟨0, i, p, .slice none 0 0, [], 0, 0, HP1.out, Fr.trans HFA.out HF1.out, blk_fr HF1.out (by omega) (by omega) HZA.out, blk_fr HF1.out (by omega) (by omega) HZB.out, World.ownsRow_nil _ _ _ _, hi, Nat.zero_le _, .inl ⟨rfl, rfl, [], [], f, rfl, ?_, hpp, Nat.le_refl _, hf, ⟨rfl, rfl⟩⟩⟩
      rw [HR.out]; exact (Rs.map_id _).symm
    case round =>
      obtain ⟨n, j, q, vm, cs, a, y, hpr, hgr, hz, hv, hown, hj, hnj, hcase⟩ := hrel
      have hltr := hpr.cells.1
      have cy := hpr.cells.2.2.2.2.2.2.1
      have hsr := hgr.size
      have hsv : w.heap.size + 1 < wr.heap.size := (Array.getElem?_eq_some_iff.1 hv).1
      rcases hcase with ⟨rfl, rfl, ns, av, f', hna, hR1, hq, hff, hfu, hits⟩ | ⟨hy, hR1⟩
      · obtain ⟨f'', rfl⟩ : ∃ g, f' = g + 1 := ⟨f' - 1, by omega⟩
        obtain ⟨wo, hwo⟩ : ∃ wo, wo = wr := ⟨_, rfl⟩
        subst hwo
        obtain ⟨hnl, hnk⟩ := names_at hown hna hits
        obtain ⟨A, c, rfl⟩ := own_sl hown
        have HNX := Lib.hid hpr.next
        have HRT2 := Lib.hid (RdT_fr HRT.out (Nat.le_of_lt hlt) hgr)
        have ht := token_any pb vL ts E j q 0 0 wo hpr (HRT2.out.more (Nat.le_of_lt hltr))
        unfold tokV at ht
        obtain ⟨x1, hx1⟩ : ∃ x, x = (tk ts E j).1 := ⟨_, rfl⟩
        obtain ⟨x2, hx2⟩ : ∃ x, x = (tk ts E j).2.1 := ⟨_, rfl⟩
        obtain ⟨nm, hnm⟩ : ∃ x, x = (tk ts E j).2.2.1 := ⟨_, rfl⟩
        obtain ⟨x4, hx4⟩ : ∃ x, x = (tk ts E j).2.2.2 := ⟨_, rfl⟩
        obtain ⟨X, hX⟩ : ∃ X, X = strOf nm := ⟨_, rfl⟩
        rw [← hx1, ← hx2, ← hnm, ← hx4, ← hX] at ht
        have HT := Lib.hid ht; clear ht
        have HX := Lib.hid hX; clear hX
        have HNK := Lib.hid hnk; clear hnk
        have HNL := Lib.hid hnl; clear hnl
        have HG := Lib.hid hgr; clear hgr
        have HZ := Lib.hid hz; clear hz
        have HV := Lib.hid hv; clear hv
        have HO := Lib.hid hown; clear hown
        have HI := Lib.hid hits; clear hits
        have HNA := Lib.hid hna; clear hna
        have HPR := Lib.hid hpr; clear hpr
        clear hx2 hx4
        by_cases h4 : x1 = 4
        · subst h4
          have h41 : (tk ts E j).1 = 4 := hx1.symm
          clear hx1
          have hjl : j < ts.length := tk_kind (ts := ts) (E := E) (by omega)
          go_wp2_with fail
          refine HT.out.mono ?_
          rintro e w1 ⟨rfl, hb1⟩
          obtain ⟨wt, hwt⟩ : ∃ wt, wt = w1.alloc (.cells #[.int .i64 4, .int .i64 x2, .string X, .int .i64 x4] 44) := ⟨_, rfl⟩
          obtain ⟨tb, htb0⟩ : ∃ tb, tb = w1.heap.size := ⟨_, rfl⟩
          have hbt : Below wo.heap.size wo wt := by rw [hwt]; exact hb1.alloc hb1.size _
          have hst : wt.heap.size = tb + 1 := by rw [hwt, szAlloc', htb0]
          have htw : wt.heap[tb]? = some (.cells #[.int .i64 4, .int .i64 x2, .string X, .int .i64 x4] 44 (0, 0)) := by rw [hwt, htb0]; exact heap_alloc_new w1 _
          have htr : wo.heap.size ≤ tb := by rw [htb0]; exact hb1.size
          have hpt := HPR.out.below hbt
          have hvt := (hbt.block (w.heap.size + 1) (by omega)).trans HV.out
          have HWT := Lib.hid hwt; clear hwt
          go_wp2_with fail
          rw [← HWT.out]
          rw [← htb0]
          have HTB := Lib.hid htb0; clear htb0
          have HBT := Lib.hid hbt; clear hbt hb1
          have HPT := Lib.hid hpt; clear hpt
          have HVT := Lib.hid hvt; clear hvt
          have HTW := Lib.hid htw; clear htw
          go_loopw [7] (fun i wr2 => ∃ k : Nat, i = .int .i64 k ∧ k ≤ n ∧ (∀ m (h : m < ns.length), m < k → ns[m] ≠ nm) ∧ Below wt.heap.size wt wr2) (fun i _ => n - (intOf i).toNat)
          case atStart => exact ⟨0, rfl, by omega, fun m _ h => absurd h (by omega), Below.refl _ _⟩
          case round =>
            obtain ⟨k, rfl, hk, hnk, hb2⟩ := hrel
            have hs2 := hb2.size
            have hv2 := (hb2.block (w.heap.size + 1) (by omega)).trans HVT.out
            have hB2 : Below wo.heap.size wo wr := HBT.out.trans (hb2.mono (by omega))
            have hp2 := HPT.out.below hb2
            have hr2 := RdT_fr HRT2.out (Nat.le_of_lt hltr) (Fr.of pb hB2)
            have hG2 := Fr.trans HG.out (Fr.of pb hB2)
            have hZ2 := (hB2.block w.heap.size (by omega)).trans HZ.out
            have htw2 := (hb2.block tb (by omega)).trans HTW.out
            have HZ2 := Lib.hid hZ2; clear hZ2
            have HG2 := Lib.hid hG2; clear hG2
            have HB2 := Lib.hid hB2; clear hB2
            by_cases hkn : k < n
            · have f1 := (cells5 hv2).2.2.2.2
              have t2 : wr.cell? ⟨tb, 2, none⟩ = some (.string X) := (cell_of_row _ _ 2 _ _ _ htw2).trans rfl
              have d1 : decide ((k : Int) < (n : Int)) = true := decide_eq_true (by omega)
              have d2' : decide (k < n) = true := decide_eq_true hkn
              have k0 : (0 : Int) ≤ (k : Int) := by omega
              have k1 : (k : Int) < (n : Int) := by omega
              have hkl : k < ns.length := by rw [HNL.out]; exact hkn
              obtain ⟨g, c', e1, hg, hnm1⟩ := HNK.out k hkl
              obtain ⟨rfl, rfl⟩ : A = some ⟨g, 0, none⟩ ∧ c = c' := by injection e1 with e1 e2 e3; exact ⟨e1, e3⟩
              have n1 := (HB2.out.cell (p := ⟨g, k * 6, none⟩) hg).trans hnm1
              clear hnm1
              by_cases heq : ns[k] = nm
              · have hin : nm ∈ ns := heq ▸ List.getElem_mem hkl
                have HRB := Lib.hid (show R = .bad (tk ts E j).2.2.2 52 by rw [hR1, pM_twice h41 (by rw [← hnm]; exact hin)]; rfl)
                rw [heq, ← HX.out] at n1
                have HFL := Lib.hid (fun k => fail_any pb vL ts E j q 0 52 (wr.drewN k) hp2 hr2)
                clear hp2 hr2 htw2 hv2 hR1 heq hin hnk
                have t1 : (X.toList == X.toList) = true := by rw [beq_iff_eq]
                go_wp2_with fail
                go_quiet (fail)
                go_wp2_with fail
                refine (HFL.out _).mono ?_
                rintro e wf ⟨rfl, hf3, hp3⟩
                have hz3 := blk_fr hf3 (show w.heap.size < wr.heap.size by omega) (by omega) HZ2.out
                obtain ⟨z0, z1, z2, z3, z4⟩ := cells5 hz3
                obtain ⟨qz0, qz1, qz2, qz3, qz4⟩ := frozen5 hz3
                have HZF := Lib.hid hz3; clear hz3
                have HPF := Lib.hid hp3; clear hp3
                have HGF := Lib.hid (Fr.trans (Fr.trans HG2.out (Fr.of pb (below_drewN (Below.refl wr.heap.size wr) _))) hf3); clear hf3
                unfold zeroV
                go_wp2_with fail
                have hn : w.heap.size ≠ pb := by omega
                have R5 := set5_row HZF.out (.int .i64 0) (.int .i64 0) (.string ⟨#[]⟩) (.slice none 0 0) (.slice none 0 0)
                have P5 := set5_prs HPF.out hn (.int .i64 0) (.int .i64 0) (.string ⟨#[]⟩) (.slice none 0 0) (.slice none 0 0)
                have F5 := set5_fr HGF.out (Nat.le_refl _) (.int .i64 0) (.int .i64 0) (.string ⟨#[]⟩) (.slice none 0 0) (.slice none 0 0)
                refine bodyPost_ret (results5 rfl rfl R5) rfl ?_
                rw [HRB.out]
                exact ⟨F5, _, _, _, _, _, _, _, _, _, rfl, _, _, P5⟩
              · have t1 : ((strOf ns[k]).toList == X.toList) = false := by rw [beq_eq_false_iff_ne, HX.out, strOf_list, strOf_list]; exact heq
                have HEQ := Lib.hid heq; clear heq
                have HNKK := Lib.hid hnk; clear hnk
                generalize hY : strOf ns[k] = Y at *
                have HB3 := Lib.hid hb2; clear hb2 hp2 hr2 htw2 hv2 hR1 hY
                go_wp2_with fail
                go_quiet (fail)
                go_wp2_with fail
                go_roundw
                case rel =>
                  refine ⟨k + 1, by go_num, by omega, fun m hm hmk => ?_, below_drewN HB3.out _⟩
                  by_cases hmk2 : m = k
                  · subst hmk2; exact HEQ.out
                  · exact HNKK.out m hm (by omega)
                case measure => simp [intOf]; omega
            · obtain rfl : n = k := by omega
              have hin : nm ∉ ns := fun h => by
                obtain ⟨m, hm, e⟩ := List.mem_iff_getElem.1 h
                exact hnk m hm (by rw [HNL.out] at hm; exact hm) e
              have d1 : decide ((n : Int) < (n : Int)) = false := decide_eq_false (by omega)
              obtain ⟨_, _, _, c2, _, _, _, fz⟩ := hp2.cells
              have fz2 := fz 2
              have f1 := (cells5 hv2).2.2.2.2
              obtain ⟨wq, hwq⟩ : ∃ wq, wq = wr.setCell ⟨pb, 2, none⟩ (.int .i64 ((j : Int) + 1)) := ⟨_, rfl⟩
              have hpq : Prs wq pb vL E (j + 1) q 0 0 := by rw [hwq]; exact hp2.seti (j + 1)
              have hgq : w.grownBy wq (some pb) := by rw [hwq]; exact Fr.trans HG2.out (Fr.set wr pb 2 _)
              have hg2q : wr.grownBy wq (some pb) := by rw [hwq]; exact Fr.set wr pb 2 _
              have hM1 := mark_any pb vL ts E (j + 1) q 0 0 58 ⟨#[58]⟩ wq hpq (RdT_fr HRT.out (Nat.le_of_lt hlt) hgq) (by rw [ByteArray.toList_eq]) (by omega)
              have HWQ := Lib.hid hwq; clear hwq
              have HGQ := Lib.hid hgq; clear hgq
              have HG2Q := Lib.hid hg2q; clear hg2q
              have HV2 := Lib.hid hv2; clear hv2
              have HTW2 := Lib.hid htw2; clear htw2
              clear hpq hp2 hr2 fz hnk
              have hsq : wq.heap.size = wr.heap.size := by rw [HWQ.out]; simp
              by_cases hc : isM (tk ts E (j + 1)) 58 = true
              · rw [hc, if_pos rfl] at hM1
                have hj4 := isM_in hc
                have HM1 := Lib.hid hM1; clear hM1
                go_wp2_with fail
                rw [← HWQ.out]
                refine HM1.out.mono ?_
                rintro e wn ⟨rfl, hgn, hpn⟩
                have hsn := hgn.size
                have hg2n := Fr.trans HG2Q.out hgn
                have hvn := blk_fr hg2n (by omega) (by omega) HV2.out
                have HZN := Lib.hid (blk_fr hg2n (by omega) (by omega) HZ2.out)
                have htn := blk_fr hg2n (b := tb) (by omega) (by omega) HTW2.out
                have HTN := Lib.hid (show wn.cell? ⟨tb, 2, none⟩ = some (.string X) from (cell_of_row _ _ 2 _ _ _ htn).trans rfl)
                have htb : tb < wn.heap.size := (Array.getElem?_eq_some_iff.1 htn).1
                have HGN := Lib.hid (Fr.trans HGQ.out hgn)
                have HRTN := Lib.hid (RdT_fr HRT.out (Nat.le_of_lt hlt) HGN.out)
                have hgrn := Fr.trans (Fr.of pb HB2.out) hg2n
                have HON := Lib.hid (HO.out.kept hgrn (.inr (own_ne HO.out (by omega))))
                have HIN := Lib.hid (HI.out.keep (w' := wn) (g' := (Value.slice A n c).ownBlock) (fun pp h1 h2 _ => World.cell?_of_block (hgrn.block pp.block h2 (fun e => by have := Option.some.inj e; omega))) hgrn.size (fun k hk => .inl hk))
                have HTO := Lib.hid (show ∀ b, (Value.slice A n c).ownBlock = some b → b ≠ tb from fun b hb e => by have := (HO.out.lt b hb).2; omega)
                obtain ⟨y0, y1, y2, y3, y4⟩ := cells5 hvn
                have HVN := Lib.hid hvn; clear hvn
                have HPN := Lib.hid hpn; clear hpn
                have hltn : pb < wn.heap.size := by omega
                have hnwn : w.heap.size + 2 ≤ wn.heap.size := by omega
                clear hgn hg2n htn hgrn f1 c2 fz2
                have hVC : ∀ w, Prs w pb vL E (j + 1 + 1) q 0 0 → RdT w pb vL ts → Calls Tryd.prog 13 #[.pointer (some ⟨pb, 0, none⟩), .int .i64 ((d : Int) + 1)] w (GivesV pb vL E (pV ts E f'' (d + 1) (j + 1 + 1) q) w) := fun w hp hr => HIH.out f'' (by omega) (d + 1) (j + 1 + 1) q w hp hr (by omega) hq (by omega) (by omega)
                rcases hres : pV ts E f'' (d + 1) (j + 1 + 1) q with ⟨a1, y1'⟩ | ⟨v, j1, q1⟩
                · rw [hres] at hVC
                  have HVC := Lib.hid hVC; clear hVC
                  have HRB := Lib.hid (show R = .bad a1 y1' by rw [hR1, pM_bad h41 (by rw [← hnm]; exact hin) hc hres]; rfl)
                  have hyb : (y1' != 0) = true := by
                    rw [bne_iff_ne]; have h := (p_bad ts E f'').1 _ _ _ _ _ hres
                    unfold why at h; omega
                  clear hR1 hres hin hc
                  go_wp2_with fail
                  refine wp_region_held_drew (S := fun w' => w'.cell? ⟨tb, 2, none⟩ = some (.string X)) (by kernel_rfl) (HTN.out) (fun hHeld => ?_)
                  refine wpAnyH_take (i := 0) (oi := { dst := some 54, op := Op.fieldAddr 25 (Operand.tmp 5) 4, type := 0, pos := "ref.go:117", after := #[], guard := none }) (v := ?_) rfl (by kernel_rfl) (by kernel_rfl) (by kernel_rfl) (fun _ _ _ h => h) (Or.inl ⟨by rfl, ?_⟩) hHeld ?_
                  rotate_left
                  · intro w hSw; (try dsimp only at hSw); go_simp; with_reducible rfl
                  try simp only [Act.put, List.setIfInBounds_toArray, List.set_cons_zero, List.set_cons_succ]
                  refine wpAnyH_take (i := 2) (oi := { dst := some 56, op := Op.fieldAddr 44 (Operand.tmp 6) 2, type := 0, pos := "ref.go:117", after := #[], guard := none }) (v := ?_) rfl (by kernel_rfl) (by kernel_rfl) (by kernel_rfl) (fun _ _ _ h => h) (Or.inl ⟨by rfl, ?_⟩) hHeld ?_
                  rotate_left
                  · intro w hSw; (try dsimp only at hSw); go_simp; with_reducible rfl
                  try simp only [Act.put, List.setIfInBounds_toArray, List.set_cons_zero, List.set_cons_succ]
                  refine wpAnyH_take (i := 3) (oi := { dst := some 57, op := Op.load 9 (Operand.tmp 56), type := 9, pos := "ref.go:117", after := #[{ on := 2, ground := Ground.data }], guard := none }) (v := ?_) rfl (by kernel_rfl) (by kernel_rfl) (by kernel_rfl) (fun _ _ _ h => h) (Or.inl ⟨by rfl, ?_⟩) hHeld ?_
                  rotate_left
                  · intro w hSw; (try dsimp only at hSw); go_simp; with_reducible rfl
                  try simp only [Act.put, List.setIfInBounds_toArray, List.set_cons_zero, List.set_cons_succ]
                  refine wpAnyH_take (i := 4) (oi := { dst := some 58, op := Op.move (Operand.tmp 0), type := 48, pos := "ref.go:117", after := #[], guard := none }) (v := ?_) rfl (by kernel_rfl) (by kernel_rfl) (by kernel_rfl) (fun _ _ _ h => h) (Or.inl ⟨by rfl, ?_⟩) hHeld ?_
                  rotate_left
                  · intro w hSw; (try dsimp only at hSw); go_simp; with_reducible rfl
                  try simp only [Act.put, List.setIfInBounds_toArray, List.set_cons_zero, List.set_cons_succ]
                  refine wpAnyH_take (i := 5) (oi := { dst := some 59, op := Op.move (Operand.tmp 1), type := 3, pos := "ref.go:117", after := #[], guard := none }) (v := ?_) rfl (by kernel_rfl) (by kernel_rfl) (by kernel_rfl) (fun _ _ _ h => h) (Or.inl ⟨by rfl, ?_⟩) hHeld ?_
                  rotate_left
                  · intro w hSw; (try dsimp only at hSw); go_simp; with_reducible rfl
                  try simp only [Act.put, List.setIfInBounds_toArray, List.set_cons_zero, List.set_cons_succ]
                  refine wpAnyH_take (i := 6) (oi := { dst := some 60, op := Op.binOp BinOp.add 3 (Operand.tmp 59) (Operand.const (Value.int IntKind.i64 1)) 3, type := 3, pos := "ref.go:117", after := #[{ on := 5, ground := Ground.data }], guard := none }) (v := ?_) rfl (by kernel_rfl) (by kernel_rfl) (by kernel_rfl) (fun _ _ _ h => h) (Or.inl ⟨by rfl, ?_⟩) hHeld ?_
                  rotate_left
                  · intro w hSw; (try dsimp only at hSw); go_simp; with_reducible rfl
                  try simp only [Act.put, List.setIfInBounds_toArray, List.set_cons_zero, List.set_cons_succ]
                  refine wpAnyH_ready (rs := [1, 7]) (by kernel_rfl) (by simp) ?_
                  refine AllReadyH.cons (o := { dst := some 55, op := Op.load 23 (Operand.tmp 54), type := 23, pos := "ref.go:117", after := #[{ on := 0, ground := Ground.data }], guard := none }) rfl (fun K hK => ?_) (AllReadyH.cons (o := { dst := some 61, op := Op.call { callee := Callee.value (Operand.func 13), args := #[Operand.tmp 58, Operand.tmp 60], argTypes := #[48, 3] }, type := 25, pos := "ref.go:117", after := #[{ on := 4, ground := Ground.data }, { on := 6, ground := Ground.data }], guard := none }) rfl (fun K hK => ?_) AllReadyH.nil)
                  · go_simp
                    refine hK.out _ _ (hHeld) (fun hHeld => ?_)
                    clear hK K
                    try simp only [Act.put, List.setIfInBounds_toArray, List.set_cons_zero, List.set_cons_succ]
                    refine wpAnyH_ready (rs := [7]) (by kernel_rfl) (by simp) ?_
                    refine AllReadyH.cons (o := { dst := some 61, op := Op.call { callee := Callee.value (Operand.func 13), args := #[Operand.tmp 58, Operand.tmp 60], argTypes := #[48, 3] }, type := 25, pos := "ref.go:117", after := #[{ on := 4, ground := Ground.data }, { on := 6, ground := Ground.data }], guard := none }) rfl (fun K hK => ?_) AllReadyH.nil
                    go_simp
                    go_at_call 13
                    refine (HVC.out wn.drew HPN.out HRTN.out).mono ?_
                    rintro e w3 ⟨hg3, k3, n3, s3, A3, l3, c3, B3, m3, d3, rfl, i3, p3, hp3⟩
                    have hgr3 := Fr.trans (Fr.drew (Fr.of pb (Below.refl wn.heap.size wn))) hg3
                    have hv3 := blk_fr hgr3 (by omega) (by omega) HVN.out
                    have x3w := (cells5 hv3).2.2.2.2
                    have hs23 : wn.heap.size ≤ w3.heap.size := hg3.size
                    have hown3 := HON.out.kept hgr3 (.inr (own_ne HON.out (by omega)))
                    have ht3 : w3.cell? ⟨tb, 2, none⟩ = some (.string X) := (World.cell?_of_block (hgr3.block tb htb (fun e => by have := Option.some.inj e; omega))).trans HTN.out
                    refine hK.out _ _ (ht3) (fun hHeld => ?_)
                    clear hK K
                    try simp only [Act.put, List.setIfInBounds_toArray, List.set_cons_zero, List.set_cons_succ]
                    refine wpAnyH_take (i := 8) (oi := { dst := some 62, op := Op.build 38 #[(0, Operand.tmp 57), (1, Operand.tmp 61)], type := 38, pos := "ref.go:117", after := #[{ on := 3, ground := Ground.data }, { on := 7, ground := Ground.data }], guard := none }) (v := ?_) rfl (by kernel_rfl) (by kernel_rfl) (by kernel_rfl) (fun _ _ _ h => h) (Or.inl ⟨by rfl, ?_⟩) hHeld ?_
                    rotate_left
                    · intro w hSw; (try dsimp only at hSw); go_simp; with_reducible rfl
                    try simp only [Act.put, List.setIfInBounds_toArray, List.set_cons_zero, List.set_cons_succ]
                    refine wpAnyH_ready (rs := [9]) (by kernel_rfl) (by simp) ?_
                    refine AllReadyH.cons (o := { dst := some 63, op := Op.buildSlice 23 1 #[(0, Operand.tmp 62)], type := 23, pos := "ref.go:117", after := #[{ on := 8, ground := Ground.data }], guard := none }) rfl (fun K hK => ?_) AllReadyH.nil
                    go_simp
                    refine hK.out _ _ ((World.cell?_of_block (heap_alloc_old w3 _ (by show tb < w3.heap.size; omega))).trans ht3) (fun hHeld => ?_)
                    clear hK K
                    try simp only [Act.put, List.setIfInBounds_toArray, List.set_cons_zero, List.set_cons_succ]
                    have x3b := (cells5 ((heap_alloc_old w3 (.cells #[.string X, .int .i64 k3, .int .i64 n3, .string s3, .slice A3 l3 c3, .slice B3 m3 d3] 38) (by omega)).trans hv3)).2.2.2.2
                    refine wpAnyH_ready (rs := [10]) (by kernel_rfl) (by simp) ?_
                    refine AllReadyH.cons (o := { dst := some 64, op := Op.call { callee := Callee.builtin Builtin.append, args := #[Operand.tmp 55, Operand.tmp 63], argTypes := #[23, 23] }, type := 23, pos := "ref.go:117", after := #[{ on := 1, ground := Ground.data }, { on := 9, ground := Ground.data }, { on := 7, ground := Ground.chain }], guard := none }) rfl (fun K hK => ?_) AllReadyH.nil
                    refine step_append_lies _ (by rfl) _ _ _ (by rfl) (w.heap.size + 2) 38 i0 _ 6 96 Tryd.underlying23 hi0 hz0 hz1 hz2 (by rfl) (by omega) (.slice A n c) n cs (by rfl) (hown3.alloc _) ⟨w3.heap.size, 0, none⟩ 1 1 [.string X, .int .i64 k3, .int .i64 n3, .string s3, .slice A3 l3 c3, .slice B3 m3 d3] (by rfl) (by rfl) (World.news_of_block (cs := #[.string X, .int .i64 k3, .int .i64 n3, .string s3, .slice A3 l3 c3, .slice B3 m3 d3]) (t := 38) (fr := (0, 0)) (heap_alloc_new w3 _)) (by simp [Value.oneCell']) (by omega) (by unfold maxLen; omega) (by omega) (by simp; omega) (w3.heap.size + 1) (by simp) ?_
                    intro g cap w4 hown4 hg4 hat hlt4
                    have hv4 := (blk_next hg4 (b := w.heap.size + 1) (by omega) (own_ne HON.out (by omega))).trans hv3
                    have x3w := (cells5 hv4).2.2.2.2
                    have f3w := (frozen5 hv4).2.2.2.2
                    have ht4 : w4.cell? ⟨tb, 2, none⟩ = some (.string X) := (World.cell?_of_block (blk_next hg4 (b := tb) (by omega) (fun e => HTO.out _ e rfl))).trans ht3
                    refine hK.out _ _ (ht4) (fun hHeld => ?_)
                    clear hK K
                    try simp only [Act.put, List.setIfInBounds_toArray, List.set_cons_zero, List.set_cons_succ]
                    refine wpAnyH_take (i := 11) (oi := { dst := some 65, op := Op.fieldAddr 25 (Operand.tmp 5) 4, type := 0, pos := "ref.go:117", after := #[{ on := 0, ground := Ground.phase }, { on := 1, ground := Ground.phase }, { on := 2, ground := Ground.phase }, { on := 3, ground := Ground.phase }, { on := 4, ground := Ground.phase }, { on := 5, ground := Ground.phase }, { on := 6, ground := Ground.phase }, { on := 7, ground := Ground.phase }, { on := 8, ground := Ground.phase }, { on := 9, ground := Ground.phase }, { on := 10, ground := Ground.phase }], guard := none }) (v := ?_) rfl (by kernel_rfl) (by kernel_rfl) (by kernel_rfl) (fun _ _ _ h => h) (Or.inl ⟨by rfl, ?_⟩) hHeld ?_
                    rotate_left
                    · intro w hSw; (try dsimp only at hSw); go_simp; with_reducible rfl
                    try simp only [Act.put, List.setIfInBounds_toArray, List.set_cons_zero, List.set_cons_succ]
                    refine wpAnyH_ready (rs := [12]) (by kernel_rfl) (by simp) ?_
                    refine AllReadyH.cons (o := { dst := none, op := Op.store 23 (Operand.tmp 65) (Operand.tmp 64), type := 0, pos := "ref.go:117", after := #[{ on := 11, ground := Ground.data }, { on := 10, ground := Ground.data }, { on := 10, ground := Ground.chain }, { on := 0, ground := Ground.phase }, { on := 1, ground := Ground.phase }, { on := 2, ground := Ground.phase }, { on := 3, ground := Ground.phase }, { on := 4, ground := Ground.phase }, { on := 5, ground := Ground.phase }, { on := 6, ground := Ground.phase }, { on := 7, ground := Ground.phase }, { on := 8, ground := Ground.phase }, { on := 9, ground := Ground.phase }, { on := 10, ground := Ground.phase }], guard := none }) rfl (fun K hK => ?_) AllReadyH.nil
                    go_simp
                    refine hK.out _ _ ((World.cell?_setCell_other w4 ⟨w.heap.size + 1, 4, none⟩ ⟨tb, 2, none⟩ _ (fun e => by have := congrArg Addr.block e; simp at this; omega)).trans ht4) (fun hHeld => ?_)
                    clear hK K
                    try simp only [Act.put, List.setIfInBounds_toArray, List.set_cons_zero, List.set_cons_succ]
                    refine wpAnyH_done (by kernel_rfl) ?_ _
                    obtain ⟨w5, hw5⟩ : ∃ w5, w5 = w4.setCell ⟨w.heap.size + 1, 4, none⟩ (.slice (some ⟨g, 0, none⟩) (n + 1) cap) := ⟨_, rfl⟩
                    have hv5 : w5.heap[w.heap.size + 1]? = some (.cells #[.int .i64 6, .int .i64 0, .string ⟨#[]⟩, .slice none 0 0, .slice (some ⟨g, 0, none⟩) (n + 1) cap] 25 (0, 0)) := by rw [hw5]; exact heap_setCell_same w4 (w.heap.size + 1) 4 _ _ _ hv4
                    have hz5 : w5.heap[w.heap.size]? = some (.cells #[.int .i64 0, .int .i64 0, .string ⟨#[]⟩, .slice none 0 0, .slice none 0 0] 25 (0, 0)) := by rw [hw5]; exact (heap_setCell_other w4 ⟨w.heap.size + 1, 4, none⟩ w.heap.size _ (by show w.heap.size ≠ w.heap.size + 1; omega)).trans ((blk_next hg4 (by omega) (own_ne HON.out (by omega))).trans (blk_fr hgr3 (by omega) (by omega) HZN.out))
                    have hp5 : Prs w5 pb vL E i3 p3 a1 y1' := by rw [hw5]; exact (heap_setCell_other w4 ⟨w.heap.size + 1, 4, none⟩ pb _ (by show pb ≠ w.heap.size + 1; omega)).trans ((blk_next hg4 (by omega) (own_ne HON.out (by omega))).trans hp3)
                    have hgr5 : w.grownBy w5 (some pb) := by rw [hw5]; exact Fr.next (Fr.trans HGN.out hgr3) hg4 (fun k hk => by have := (HON.out.lt k hk).1; omega) ⟨w.heap.size + 1, 4, none⟩ (by show w.heap.size ≤ w.heap.size + 1; omega) _
                    have hown5 : w5.ownsRow (w.heap.size + 2) 38 6 (.slice (some ⟨g, 0, none⟩) (n + 1) cap) (n + 1) (cs ++ [.string X, .int .i64 k3, .int .i64 n3, .string s3, .slice A3 l3 c3, .slice B3 m3 d3]) := by rw [hw5]; exact ownsRow_setCell_below hown4 (by show w.heap.size + 1 < w.heap.size + 2; omega) _
                    rw [← hw5]
                    have hlt5 := hp5.cells.1
                    have c5 := hp5.cells.2.2.2.2.2.2.1
                    have hs5 : w.heap.size + 1 < w5.heap.size := (Array.getElem?_eq_some_iff.1 hv5).1
                    clear hw5 hv4 hg4 hat hlt4 hown4 hv3 x3w f3w hgr3 hg3 hp3 hown3 ht3 ht4 hHeld
                    obtain ⟨z0, z1, z2, z3, z4⟩ := cells5 hz5
                    obtain ⟨qz0, qz1, qz2, qz3, qz4⟩ := frozen5 hz5
                    have HZF := Lib.hid hz5; clear hz5
                    obtain ⟨x0, x1, x2, x3, x4⟩ := cells5 hv5
                    have HVF := Lib.hid hv5; clear hv5
                    have HP5 := Lib.hid hp5; clear hp5
                    have HG5 := Lib.hid hgr5; clear hgr5
                    go_wp2_with fail
                    have hn : w.heap.size ≠ pb := by omega
                    have R5 := set5_row HZF.out (.int .i64 6) (.int .i64 0) (.string ⟨#[]⟩) (.slice none 0 0) (.slice (some ⟨g, 0, none⟩) (n + 1) cap)
                    have P5 := set5_prs HP5.out hn (.int .i64 6) (.int .i64 0) (.string ⟨#[]⟩) (.slice none 0 0) (.slice (some ⟨g, 0, none⟩) (n + 1) cap)
                    have F5 := set5_fr (HG5.out) (Nat.le_refl _) (.int .i64 6) (.int .i64 0) (.string ⟨#[]⟩) (.slice none 0 0) (.slice (some ⟨g, 0, none⟩) (n + 1) cap)
                    refine bodyPost_ret (results5 rfl rfl R5) rfl ?_
                    rw [HRB.out]
                    exact ⟨F5, _, _, _, _, _, _, _, _, _, rfl, _, _, P5⟩
                  · go_simp
                    go_at_call 13
                    refine (HVC.out wn.drew HPN.out HRTN.out).mono ?_
                    rintro e w3 ⟨hg3, k3, n3, s3, A3, l3, c3, B3, m3, d3, rfl, i3, p3, hp3⟩
                    have hgr3 := Fr.trans (Fr.drew (Fr.of pb (Below.refl wn.heap.size wn))) hg3
                    have hv3 := blk_fr hgr3 (by omega) (by omega) HVN.out
                    have x3w := (cells5 hv3).2.2.2.2
                    have hs23 : wn.heap.size ≤ w3.heap.size := hg3.size
                    have hown3 := HON.out.kept hgr3 (.inr (own_ne HON.out (by omega)))
                    have ht3 : w3.cell? ⟨tb, 2, none⟩ = some (.string X) := (World.cell?_of_block (hgr3.block tb htb (fun e => by have := Option.some.inj e; omega))).trans HTN.out
                    refine hK.out _ _ (ht3) (fun hHeld => ?_)
                    clear hK K
                    try simp only [Act.put, List.setIfInBounds_toArray, List.set_cons_zero, List.set_cons_succ]
                    refine wpAnyH_take (i := 8) (oi := { dst := some 62, op := Op.build 38 #[(0, Operand.tmp 57), (1, Operand.tmp 61)], type := 38, pos := "ref.go:117", after := #[{ on := 3, ground := Ground.data }, { on := 7, ground := Ground.data }], guard := none }) (v := ?_) rfl (by kernel_rfl) (by kernel_rfl) (by kernel_rfl) (fun _ _ _ h => h) (Or.inl ⟨by rfl, ?_⟩) hHeld ?_
                    rotate_left
                    · intro w hSw; (try dsimp only at hSw); go_simp; with_reducible rfl
                    try simp only [Act.put, List.setIfInBounds_toArray, List.set_cons_zero, List.set_cons_succ]
                    refine wpAnyH_ready (rs := [1, 9]) (by kernel_rfl) (by simp) ?_
                    refine AllReadyH.cons (o := { dst := some 55, op := Op.load 23 (Operand.tmp 54), type := 23, pos := "ref.go:117", after := #[{ on := 0, ground := Ground.data }], guard := none }) rfl (fun K hK => ?_) (AllReadyH.cons (o := { dst := some 63, op := Op.buildSlice 23 1 #[(0, Operand.tmp 62)], type := 23, pos := "ref.go:117", after := #[{ on := 8, ground := Ground.data }], guard := none }) rfl (fun K hK => ?_) AllReadyH.nil)
                    · go_simp
                      refine hK.out _ _ (hHeld) (fun hHeld => ?_)
                      clear hK K
                      try simp only [Act.put, List.setIfInBounds_toArray, List.set_cons_zero, List.set_cons_succ]
                      refine wpAnyH_ready (rs := [9]) (by kernel_rfl) (by simp) ?_
                      refine AllReadyH.cons (o := { dst := some 63, op := Op.buildSlice 23 1 #[(0, Operand.tmp 62)], type := 23, pos := "ref.go:117", after := #[{ on := 8, ground := Ground.data }], guard := none }) rfl (fun K hK => ?_) AllReadyH.nil
                      go_simp
                      refine hK.out _ _ ((World.cell?_of_block (heap_alloc_old w3 _ (by show tb < w3.heap.size; omega))).trans ht3) (fun hHeld => ?_)
                      clear hK K
                      try simp only [Act.put, List.setIfInBounds_toArray, List.set_cons_zero, List.set_cons_succ]
                      have x3b := (cells5 ((heap_alloc_old w3 (.cells #[.string X, .int .i64 k3, .int .i64 n3, .string s3, .slice A3 l3 c3, .slice B3 m3 d3] 38) (by omega)).trans hv3)).2.2.2.2
                      refine wpAnyH_ready (rs := [10]) (by kernel_rfl) (by simp) ?_
                      refine AllReadyH.cons (o := { dst := some 64, op := Op.call { callee := Callee.builtin Builtin.append, args := #[Operand.tmp 55, Operand.tmp 63], argTypes := #[23, 23] }, type := 23, pos := "ref.go:117", after := #[{ on := 1, ground := Ground.data }, { on := 9, ground := Ground.data }, { on := 7, ground := Ground.chain }], guard := none }) rfl (fun K hK => ?_) AllReadyH.nil
                      refine step_append_lies _ (by rfl) _ _ _ (by rfl) (w.heap.size + 2) 38 i0 _ 6 96 Tryd.underlying23 hi0 hz0 hz1 hz2 (by rfl) (by omega) (.slice A n c) n cs (by rfl) (hown3.alloc _) ⟨w3.heap.size, 0, none⟩ 1 1 [.string X, .int .i64 k3, .int .i64 n3, .string s3, .slice A3 l3 c3, .slice B3 m3 d3] (by rfl) (by rfl) (World.news_of_block (cs := #[.string X, .int .i64 k3, .int .i64 n3, .string s3, .slice A3 l3 c3, .slice B3 m3 d3]) (t := 38) (fr := (0, 0)) (heap_alloc_new w3 _)) (by simp [Value.oneCell']) (by omega) (by unfold maxLen; omega) (by omega) (by simp; omega) (w3.heap.size + 1) (by simp) ?_
                      intro g cap w4 hown4 hg4 hat hlt4
                      have hv4 := (blk_next hg4 (b := w.heap.size + 1) (by omega) (own_ne HON.out (by omega))).trans hv3
                      have x3w := (cells5 hv4).2.2.2.2
                      have f3w := (frozen5 hv4).2.2.2.2
                      have ht4 : w4.cell? ⟨tb, 2, none⟩ = some (.string X) := (World.cell?_of_block (blk_next hg4 (b := tb) (by omega) (fun e => HTO.out _ e rfl))).trans ht3
                      refine hK.out _ _ (ht4) (fun hHeld => ?_)
                      clear hK K
                      try simp only [Act.put, List.setIfInBounds_toArray, List.set_cons_zero, List.set_cons_succ]
                      refine wpAnyH_take (i := 11) (oi := { dst := some 65, op := Op.fieldAddr 25 (Operand.tmp 5) 4, type := 0, pos := "ref.go:117", after := #[{ on := 0, ground := Ground.phase }, { on := 1, ground := Ground.phase }, { on := 2, ground := Ground.phase }, { on := 3, ground := Ground.phase }, { on := 4, ground := Ground.phase }, { on := 5, ground := Ground.phase }, { on := 6, ground := Ground.phase }, { on := 7, ground := Ground.phase }, { on := 8, ground := Ground.phase }, { on := 9, ground := Ground.phase }, { on := 10, ground := Ground.phase }], guard := none }) (v := ?_) rfl (by kernel_rfl) (by kernel_rfl) (by kernel_rfl) (fun _ _ _ h => h) (Or.inl ⟨by rfl, ?_⟩) hHeld ?_
                      rotate_left
                      · intro w hSw; (try dsimp only at hSw); go_simp; with_reducible rfl
                      try simp only [Act.put, List.setIfInBounds_toArray, List.set_cons_zero, List.set_cons_succ]
                      refine wpAnyH_ready (rs := [12]) (by kernel_rfl) (by simp) ?_
                      refine AllReadyH.cons (o := { dst := none, op := Op.store 23 (Operand.tmp 65) (Operand.tmp 64), type := 0, pos := "ref.go:117", after := #[{ on := 11, ground := Ground.data }, { on := 10, ground := Ground.data }, { on := 10, ground := Ground.chain }, { on := 0, ground := Ground.phase }, { on := 1, ground := Ground.phase }, { on := 2, ground := Ground.phase }, { on := 3, ground := Ground.phase }, { on := 4, ground := Ground.phase }, { on := 5, ground := Ground.phase }, { on := 6, ground := Ground.phase }, { on := 7, ground := Ground.phase }, { on := 8, ground := Ground.phase }, { on := 9, ground := Ground.phase }, { on := 10, ground := Ground.phase }], guard := none }) rfl (fun K hK => ?_) AllReadyH.nil
                      go_simp
                      refine hK.out _ _ ((World.cell?_setCell_other w4 ⟨w.heap.size + 1, 4, none⟩ ⟨tb, 2, none⟩ _ (fun e => by have := congrArg Addr.block e; simp at this; omega)).trans ht4) (fun hHeld => ?_)
                      clear hK K
                      try simp only [Act.put, List.setIfInBounds_toArray, List.set_cons_zero, List.set_cons_succ]
                      refine wpAnyH_done (by kernel_rfl) ?_ _
                      obtain ⟨w5, hw5⟩ : ∃ w5, w5 = w4.setCell ⟨w.heap.size + 1, 4, none⟩ (.slice (some ⟨g, 0, none⟩) (n + 1) cap) := ⟨_, rfl⟩
                      have hv5 : w5.heap[w.heap.size + 1]? = some (.cells #[.int .i64 6, .int .i64 0, .string ⟨#[]⟩, .slice none 0 0, .slice (some ⟨g, 0, none⟩) (n + 1) cap] 25 (0, 0)) := by rw [hw5]; exact heap_setCell_same w4 (w.heap.size + 1) 4 _ _ _ hv4
                      have hz5 : w5.heap[w.heap.size]? = some (.cells #[.int .i64 0, .int .i64 0, .string ⟨#[]⟩, .slice none 0 0, .slice none 0 0] 25 (0, 0)) := by rw [hw5]; exact (heap_setCell_other w4 ⟨w.heap.size + 1, 4, none⟩ w.heap.size _ (by show w.heap.size ≠ w.heap.size + 1; omega)).trans ((blk_next hg4 (by omega) (own_ne HON.out (by omega))).trans (blk_fr hgr3 (by omega) (by omega) HZN.out))
                      have hp5 : Prs w5 pb vL E i3 p3 a1 y1' := by rw [hw5]; exact (heap_setCell_other w4 ⟨w.heap.size + 1, 4, none⟩ pb _ (by show pb ≠ w.heap.size + 1; omega)).trans ((blk_next hg4 (by omega) (own_ne HON.out (by omega))).trans hp3)
                      have hgr5 : w.grownBy w5 (some pb) := by rw [hw5]; exact Fr.next (Fr.trans HGN.out hgr3) hg4 (fun k hk => by have := (HON.out.lt k hk).1; omega) ⟨w.heap.size + 1, 4, none⟩ (by show w.heap.size ≤ w.heap.size + 1; omega) _
                      have hown5 : w5.ownsRow (w.heap.size + 2) 38 6 (.slice (some ⟨g, 0, none⟩) (n + 1) cap) (n + 1) (cs ++ [.string X, .int .i64 k3, .int .i64 n3, .string s3, .slice A3 l3 c3, .slice B3 m3 d3]) := by rw [hw5]; exact ownsRow_setCell_below hown4 (by show w.heap.size + 1 < w.heap.size + 2; omega) _
                      rw [← hw5]
                      have hlt5 := hp5.cells.1
                      have c5 := hp5.cells.2.2.2.2.2.2.1
                      have hs5 : w.heap.size + 1 < w5.heap.size := (Array.getElem?_eq_some_iff.1 hv5).1
                      clear hw5 hv4 hg4 hat hlt4 hown4 hv3 x3w f3w hgr3 hg3 hp3 hown3 ht3 ht4 hHeld
                      obtain ⟨z0, z1, z2, z3, z4⟩ := cells5 hz5
                      obtain ⟨qz0, qz1, qz2, qz3, qz4⟩ := frozen5 hz5
                      have HZF := Lib.hid hz5; clear hz5
                      obtain ⟨x0, x1, x2, x3, x4⟩ := cells5 hv5
                      have HVF := Lib.hid hv5; clear hv5
                      have HP5 := Lib.hid hp5; clear hp5
                      have HG5 := Lib.hid hgr5; clear hgr5
                      go_wp2_with fail
                      have hn : w.heap.size ≠ pb := by omega
                      have R5 := set5_row HZF.out (.int .i64 6) (.int .i64 0) (.string ⟨#[]⟩) (.slice none 0 0) (.slice (some ⟨g, 0, none⟩) (n + 1) cap)
                      have P5 := set5_prs HP5.out hn (.int .i64 6) (.int .i64 0) (.string ⟨#[]⟩) (.slice none 0 0) (.slice (some ⟨g, 0, none⟩) (n + 1) cap)
                      have F5 := set5_fr (HG5.out) (Nat.le_refl _) (.int .i64 6) (.int .i64 0) (.string ⟨#[]⟩) (.slice none 0 0) (.slice (some ⟨g, 0, none⟩) (n + 1) cap)
                      refine bodyPost_ret (results5 rfl rfl R5) rfl ?_
                      rw [HRB.out]
                      exact ⟨F5, _, _, _, _, _, _, _, _, _, rfl, _, _, P5⟩
                    · go_simp
                      refine hK.out _ _ ((World.cell?_of_block (heap_alloc_old w3 _ (by show tb < w3.heap.size; omega))).trans ht3) (fun hHeld => ?_)
                      clear hK K
                      try simp only [Act.put, List.setIfInBounds_toArray, List.set_cons_zero, List.set_cons_succ]
                      have x3b := (cells5 ((heap_alloc_old w3 (.cells #[.string X, .int .i64 k3, .int .i64 n3, .string s3, .slice A3 l3 c3, .slice B3 m3 d3] 38) (by omega)).trans hv3)).2.2.2.2
                      refine wpAnyH_ready (rs := [1]) (by kernel_rfl) (by simp) ?_
                      refine AllReadyH.cons (o := { dst := some 55, op := Op.load 23 (Operand.tmp 54), type := 23, pos := "ref.go:117", after := #[{ on := 0, ground := Ground.data }], guard := none }) rfl (fun K hK => ?_) AllReadyH.nil
                      go_simp
                      refine hK.out _ _ (hHeld) (fun hHeld => ?_)
                      clear hK K
                      try simp only [Act.put, List.setIfInBounds_toArray, List.set_cons_zero, List.set_cons_succ]
                      refine wpAnyH_ready (rs := [10]) (by kernel_rfl) (by simp) ?_
                      refine AllReadyH.cons (o := { dst := some 64, op := Op.call { callee := Callee.builtin Builtin.append, args := #[Operand.tmp 55, Operand.tmp 63], argTypes := #[23, 23] }, type := 23, pos := "ref.go:117", after := #[{ on := 1, ground := Ground.data }, { on := 9, ground := Ground.data }, { on := 7, ground := Ground.chain }], guard := none }) rfl (fun K hK => ?_) AllReadyH.nil
                      refine step_append_lies _ (by rfl) _ _ _ (by rfl) (w.heap.size + 2) 38 i0 _ 6 96 Tryd.underlying23 hi0 hz0 hz1 hz2 (by rfl) (by omega) (.slice A n c) n cs (by rfl) (hown3.alloc _) ⟨w3.heap.size, 0, none⟩ 1 1 [.string X, .int .i64 k3, .int .i64 n3, .string s3, .slice A3 l3 c3, .slice B3 m3 d3] (by rfl) (by rfl) (World.news_of_block (cs := #[.string X, .int .i64 k3, .int .i64 n3, .string s3, .slice A3 l3 c3, .slice B3 m3 d3]) (t := 38) (fr := (0, 0)) (heap_alloc_new w3 _)) (by simp [Value.oneCell']) (by omega) (by unfold maxLen; omega) (by omega) (by simp; omega) (w3.heap.size + 1) (by simp) ?_
                      intro g cap w4 hown4 hg4 hat hlt4
                      have hv4 := (blk_next hg4 (b := w.heap.size + 1) (by omega) (own_ne HON.out (by omega))).trans hv3
                      have x3w := (cells5 hv4).2.2.2.2
                      have f3w := (frozen5 hv4).2.2.2.2
                      have ht4 : w4.cell? ⟨tb, 2, none⟩ = some (.string X) := (World.cell?_of_block (blk_next hg4 (b := tb) (by omega) (fun e => HTO.out _ e rfl))).trans ht3
                      refine hK.out _ _ (ht4) (fun hHeld => ?_)
                      clear hK K
                      try simp only [Act.put, List.setIfInBounds_toArray, List.set_cons_zero, List.set_cons_succ]
                      refine wpAnyH_take (i := 11) (oi := { dst := some 65, op := Op.fieldAddr 25 (Operand.tmp 5) 4, type := 0, pos := "ref.go:117", after := #[{ on := 0, ground := Ground.phase }, { on := 1, ground := Ground.phase }, { on := 2, ground := Ground.phase }, { on := 3, ground := Ground.phase }, { on := 4, ground := Ground.phase }, { on := 5, ground := Ground.phase }, { on := 6, ground := Ground.phase }, { on := 7, ground := Ground.phase }, { on := 8, ground := Ground.phase }, { on := 9, ground := Ground.phase }, { on := 10, ground := Ground.phase }], guard := none }) (v := ?_) rfl (by kernel_rfl) (by kernel_rfl) (by kernel_rfl) (fun _ _ _ h => h) (Or.inl ⟨by rfl, ?_⟩) hHeld ?_
                      rotate_left
                      · intro w hSw; (try dsimp only at hSw); go_simp; with_reducible rfl
                      try simp only [Act.put, List.setIfInBounds_toArray, List.set_cons_zero, List.set_cons_succ]
                      refine wpAnyH_ready (rs := [12]) (by kernel_rfl) (by simp) ?_
                      refine AllReadyH.cons (o := { dst := none, op := Op.store 23 (Operand.tmp 65) (Operand.tmp 64), type := 0, pos := "ref.go:117", after := #[{ on := 11, ground := Ground.data }, { on := 10, ground := Ground.data }, { on := 10, ground := Ground.chain }, { on := 0, ground := Ground.phase }, { on := 1, ground := Ground.phase }, { on := 2, ground := Ground.phase }, { on := 3, ground := Ground.phase }, { on := 4, ground := Ground.phase }, { on := 5, ground := Ground.phase }, { on := 6, ground := Ground.phase }, { on := 7, ground := Ground.phase }, { on := 8, ground := Ground.phase }, { on := 9, ground := Ground.phase }, { on := 10, ground := Ground.phase }], guard := none }) rfl (fun K hK => ?_) AllReadyH.nil
                      go_simp
                      refine hK.out _ _ ((World.cell?_setCell_other w4 ⟨w.heap.size + 1, 4, none⟩ ⟨tb, 2, none⟩ _ (fun e => by have := congrArg Addr.block e; simp at this; omega)).trans ht4) (fun hHeld => ?_)
                      clear hK K
                      try simp only [Act.put, List.setIfInBounds_toArray, List.set_cons_zero, List.set_cons_succ]
                      refine wpAnyH_done (by kernel_rfl) ?_ _
                      obtain ⟨w5, hw5⟩ : ∃ w5, w5 = w4.setCell ⟨w.heap.size + 1, 4, none⟩ (.slice (some ⟨g, 0, none⟩) (n + 1) cap) := ⟨_, rfl⟩
                      have hv5 : w5.heap[w.heap.size + 1]? = some (.cells #[.int .i64 6, .int .i64 0, .string ⟨#[]⟩, .slice none 0 0, .slice (some ⟨g, 0, none⟩) (n + 1) cap] 25 (0, 0)) := by rw [hw5]; exact heap_setCell_same w4 (w.heap.size + 1) 4 _ _ _ hv4
                      have hz5 : w5.heap[w.heap.size]? = some (.cells #[.int .i64 0, .int .i64 0, .string ⟨#[]⟩, .slice none 0 0, .slice none 0 0] 25 (0, 0)) := by rw [hw5]; exact (heap_setCell_other w4 ⟨w.heap.size + 1, 4, none⟩ w.heap.size _ (by show w.heap.size ≠ w.heap.size + 1; omega)).trans ((blk_next hg4 (by omega) (own_ne HON.out (by omega))).trans (blk_fr hgr3 (by omega) (by omega) HZN.out))
                      have hp5 : Prs w5 pb vL E i3 p3 a1 y1' := by rw [hw5]; exact (heap_setCell_other w4 ⟨w.heap.size + 1, 4, none⟩ pb _ (by show pb ≠ w.heap.size + 1; omega)).trans ((blk_next hg4 (by omega) (own_ne HON.out (by omega))).trans hp3)
                      have hgr5 : w.grownBy w5 (some pb) := by rw [hw5]; exact Fr.next (Fr.trans HGN.out hgr3) hg4 (fun k hk => by have := (HON.out.lt k hk).1; omega) ⟨w.heap.size + 1, 4, none⟩ (by show w.heap.size ≤ w.heap.size + 1; omega) _
                      have hown5 : w5.ownsRow (w.heap.size + 2) 38 6 (.slice (some ⟨g, 0, none⟩) (n + 1) cap) (n + 1) (cs ++ [.string X, .int .i64 k3, .int .i64 n3, .string s3, .slice A3 l3 c3, .slice B3 m3 d3]) := by rw [hw5]; exact ownsRow_setCell_below hown4 (by show w.heap.size + 1 < w.heap.size + 2; omega) _
                      rw [← hw5]
                      have hlt5 := hp5.cells.1
                      have c5 := hp5.cells.2.2.2.2.2.2.1
                      have hs5 : w.heap.size + 1 < w5.heap.size := (Array.getElem?_eq_some_iff.1 hv5).1
                      clear hw5 hv4 hg4 hat hlt4 hown4 hv3 x3w f3w hgr3 hg3 hp3 hown3 ht3 ht4 hHeld
                      obtain ⟨z0, z1, z2, z3, z4⟩ := cells5 hz5
                      obtain ⟨qz0, qz1, qz2, qz3, qz4⟩ := frozen5 hz5
                      have HZF := Lib.hid hz5; clear hz5
                      obtain ⟨x0, x1, x2, x3, x4⟩ := cells5 hv5
                      have HVF := Lib.hid hv5; clear hv5
                      have HP5 := Lib.hid hp5; clear hp5
                      have HG5 := Lib.hid hgr5; clear hgr5
                      go_wp2_with fail
                      have hn : w.heap.size ≠ pb := by omega
                      have R5 := set5_row HZF.out (.int .i64 6) (.int .i64 0) (.string ⟨#[]⟩) (.slice none 0 0) (.slice (some ⟨g, 0, none⟩) (n + 1) cap)
                      have P5 := set5_prs HP5.out hn (.int .i64 6) (.int .i64 0) (.string ⟨#[]⟩) (.slice none 0 0) (.slice (some ⟨g, 0, none⟩) (n + 1) cap)
                      have F5 := set5_fr (HG5.out) (Nat.le_refl _) (.int .i64 6) (.int .i64 0) (.string ⟨#[]⟩) (.slice none 0 0) (.slice (some ⟨g, 0, none⟩) (n + 1) cap)
                      refine bodyPost_ret (results5 rfl rfl R5) rfl ?_
                      rw [HRB.out]
                      exact ⟨F5, _, _, _, _, _, _, _, _, _, rfl, _, _, P5⟩
                · rw [hres] at hVC
                  have hok := (p_ok ts E f'').1 _ _ _ _ _ _ hres hq
                  have hrn := hR1.trans (gM_step ns av h41 (by rw [← hnm]; exact hin) hc hres)
                  rw [← hnm] at hrn
                  have HRN := Lib.hid hrn; clear hrn
                  have HVC := Lib.hid hVC; clear hVC
                  obtain ⟨ok1, ok2, _, ok3, _, _⟩ := hok
                  clear hR1 hres hin hc
                  go_wp2_with fail
                  refine wp_region_held_drew (S := fun w' => w'.cell? ⟨tb, 2, none⟩ = some (.string X)) (by kernel_rfl) (HTN.out) (fun hHeld => ?_)
                  refine wpAnyH_take (i := 0) (oi := { dst := some 54, op := Op.fieldAddr 25 (Operand.tmp 5) 4, type := 0, pos := "ref.go:117", after := #[], guard := none }) (v := ?_) rfl (by kernel_rfl) (by kernel_rfl) (by kernel_rfl) (fun _ _ _ h => h) (Or.inl ⟨by rfl, ?_⟩) hHeld ?_
                  rotate_left
                  · intro w hSw; (try dsimp only at hSw); go_simp; with_reducible rfl
                  try simp only [Act.put, List.setIfInBounds_toArray, List.set_cons_zero, List.set_cons_succ]
                  refine wpAnyH_take (i := 2) (oi := { dst := some 56, op := Op.fieldAddr 44 (Operand.tmp 6) 2, type := 0, pos := "ref.go:117", after := #[], guard := none }) (v := ?_) rfl (by kernel_rfl) (by kernel_rfl) (by kernel_rfl) (fun _ _ _ h => h) (Or.inl ⟨by rfl, ?_⟩) hHeld ?_
                  rotate_left
                  · intro w hSw; (try dsimp only at hSw); go_simp; with_reducible rfl
                  try simp only [Act.put, List.setIfInBounds_toArray, List.set_cons_zero, List.set_cons_succ]
                  refine wpAnyH_take (i := 3) (oi := { dst := some 57, op := Op.load 9 (Operand.tmp 56), type := 9, pos := "ref.go:117", after := #[{ on := 2, ground := Ground.data }], guard := none }) (v := ?_) rfl (by kernel_rfl) (by kernel_rfl) (by kernel_rfl) (fun _ _ _ h => h) (Or.inl ⟨by rfl, ?_⟩) hHeld ?_
                  rotate_left
                  · intro w hSw; (try dsimp only at hSw); go_simp; with_reducible rfl
                  try simp only [Act.put, List.setIfInBounds_toArray, List.set_cons_zero, List.set_cons_succ]
                  refine wpAnyH_take (i := 4) (oi := { dst := some 58, op := Op.move (Operand.tmp 0), type := 48, pos := "ref.go:117", after := #[], guard := none }) (v := ?_) rfl (by kernel_rfl) (by kernel_rfl) (by kernel_rfl) (fun _ _ _ h => h) (Or.inl ⟨by rfl, ?_⟩) hHeld ?_
                  rotate_left
                  · intro w hSw; (try dsimp only at hSw); go_simp; with_reducible rfl
                  try simp only [Act.put, List.setIfInBounds_toArray, List.set_cons_zero, List.set_cons_succ]
                  refine wpAnyH_take (i := 5) (oi := { dst := some 59, op := Op.move (Operand.tmp 1), type := 3, pos := "ref.go:117", after := #[], guard := none }) (v := ?_) rfl (by kernel_rfl) (by kernel_rfl) (by kernel_rfl) (fun _ _ _ h => h) (Or.inl ⟨by rfl, ?_⟩) hHeld ?_
                  rotate_left
                  · intro w hSw; (try dsimp only at hSw); go_simp; with_reducible rfl
                  try simp only [Act.put, List.setIfInBounds_toArray, List.set_cons_zero, List.set_cons_succ]
                  refine wpAnyH_take (i := 6) (oi := { dst := some 60, op := Op.binOp BinOp.add 3 (Operand.tmp 59) (Operand.const (Value.int IntKind.i64 1)) 3, type := 3, pos := "ref.go:117", after := #[{ on := 5, ground := Ground.data }], guard := none }) (v := ?_) rfl (by kernel_rfl) (by kernel_rfl) (by kernel_rfl) (fun _ _ _ h => h) (Or.inl ⟨by rfl, ?_⟩) hHeld ?_
                  rotate_left
                  · intro w hSw; (try dsimp only at hSw); go_simp; with_reducible rfl
                  try simp only [Act.put, List.setIfInBounds_toArray, List.set_cons_zero, List.set_cons_succ]
                  refine wpAnyH_ready (rs := [1, 7]) (by kernel_rfl) (by simp) ?_
                  refine AllReadyH.cons (o := { dst := some 55, op := Op.load 23 (Operand.tmp 54), type := 23, pos := "ref.go:117", after := #[{ on := 0, ground := Ground.data }], guard := none }) rfl (fun K hK => ?_) (AllReadyH.cons (o := { dst := some 61, op := Op.call { callee := Callee.value (Operand.func 13), args := #[Operand.tmp 58, Operand.tmp 60], argTypes := #[48, 3] }, type := 25, pos := "ref.go:117", after := #[{ on := 4, ground := Ground.data }, { on := 6, ground := Ground.data }], guard := none }) rfl (fun K hK => ?_) AllReadyH.nil)
                  · go_simp
                    refine hK.out _ _ (hHeld) (fun hHeld => ?_)
                    clear hK K
                    try simp only [Act.put, List.setIfInBounds_toArray, List.set_cons_zero, List.set_cons_succ]
                    refine wpAnyH_ready (rs := [7]) (by kernel_rfl) (by simp) ?_
                    refine AllReadyH.cons (o := { dst := some 61, op := Op.call { callee := Callee.value (Operand.func 13), args := #[Operand.tmp 58, Operand.tmp 60], argTypes := #[48, 3] }, type := 25, pos := "ref.go:117", after := #[{ on := 4, ground := Ground.data }, { on := 6, ground := Ground.data }], guard := none }) rfl (fun K hK => ?_) AllReadyH.nil
                    go_simp
                    go_at_call 13
                    refine (HVC.out wn.drew HPN.out HRTN.out).mono ?_
                    rintro e w3 ⟨hg3, k3, n3, s3, A3, l3, c3, B3, m3, d3, rfl, hV3, hp3⟩
                    have hgr3 := Fr.trans (Fr.drew (Fr.of pb (Below.refl wn.heap.size wn))) hg3
                    have hv3 := blk_fr hgr3 (by omega) (by omega) HVN.out
                    have x3w := (cells5 hv3).2.2.2.2
                    have hs23 : wn.heap.size ≤ w3.heap.size := hg3.size
                    have hown3 := HON.out.kept hgr3 (.inr (own_ne HON.out (by omega)))
                    have ht3 : w3.cell? ⟨tb, 2, none⟩ = some (.string X) := (World.cell?_of_block (hgr3.block tb htb (fun e => by have := Option.some.inj e; omega))).trans HTN.out
                    refine hK.out _ _ (ht3) (fun hHeld => ?_)
                    clear hK K
                    try simp only [Act.put, List.setIfInBounds_toArray, List.set_cons_zero, List.set_cons_succ]
                    refine wpAnyH_take (i := 8) (oi := { dst := some 62, op := Op.build 38 #[(0, Operand.tmp 57), (1, Operand.tmp 61)], type := 38, pos := "ref.go:117", after := #[{ on := 3, ground := Ground.data }, { on := 7, ground := Ground.data }], guard := none }) (v := ?_) rfl (by kernel_rfl) (by kernel_rfl) (by kernel_rfl) (fun _ _ _ h => h) (Or.inl ⟨by rfl, ?_⟩) hHeld ?_
                    rotate_left
                    · intro w hSw; (try dsimp only at hSw); go_simp; with_reducible rfl
                    try simp only [Act.put, List.setIfInBounds_toArray, List.set_cons_zero, List.set_cons_succ]
                    refine wpAnyH_ready (rs := [9]) (by kernel_rfl) (by simp) ?_
                    refine AllReadyH.cons (o := { dst := some 63, op := Op.buildSlice 23 1 #[(0, Operand.tmp 62)], type := 23, pos := "ref.go:117", after := #[{ on := 8, ground := Ground.data }], guard := none }) rfl (fun K hK => ?_) AllReadyH.nil
                    go_simp
                    refine hK.out _ _ ((World.cell?_of_block (heap_alloc_old w3 _ (by show tb < w3.heap.size; omega))).trans ht3) (fun hHeld => ?_)
                    clear hK K
                    try simp only [Act.put, List.setIfInBounds_toArray, List.set_cons_zero, List.set_cons_succ]
                    have x3b := (cells5 ((heap_alloc_old w3 (.cells #[.string X, .int .i64 k3, .int .i64 n3, .string s3, .slice A3 l3 c3, .slice B3 m3 d3] 38) (by omega)).trans hv3)).2.2.2.2
                    refine wpAnyH_ready (rs := [10]) (by kernel_rfl) (by simp) ?_
                    refine AllReadyH.cons (o := { dst := some 64, op := Op.call { callee := Callee.builtin Builtin.append, args := #[Operand.tmp 55, Operand.tmp 63], argTypes := #[23, 23] }, type := 23, pos := "ref.go:117", after := #[{ on := 1, ground := Ground.data }, { on := 9, ground := Ground.data }, { on := 7, ground := Ground.chain }], guard := none }) rfl (fun K hK => ?_) AllReadyH.nil
                    refine step_append_lies _ (by rfl) _ _ _ (by rfl) (w.heap.size + 2) 38 i0 _ 6 96 Tryd.underlying23 hi0 hz0 hz1 hz2 (by rfl) (by omega) (.slice A n c) n cs (by rfl) (hown3.alloc _) ⟨w3.heap.size, 0, none⟩ 1 1 [.string X, .int .i64 k3, .int .i64 n3, .string s3, .slice A3 l3 c3, .slice B3 m3 d3] (by rfl) (by rfl) (World.news_of_block (cs := #[.string X, .int .i64 k3, .int .i64 n3, .string s3, .slice A3 l3 c3, .slice B3 m3 d3]) (t := 38) (fr := (0, 0)) (heap_alloc_new w3 _)) (by simp [Value.oneCell']) (by omega) (by unfold maxLen; omega) (by omega) (by simp; omega) (w3.heap.size + 1) (by simp) ?_
                    intro g cap w4 hown4 hg4 hat hlt4
                    have hv4 := (blk_next hg4 (b := w.heap.size + 1) (by omega) (own_ne HON.out (by omega))).trans hv3
                    have x3w := (cells5 hv4).2.2.2.2
                    have f3w := (frozen5 hv4).2.2.2.2
                    have ht4 : w4.cell? ⟨tb, 2, none⟩ = some (.string X) := (World.cell?_of_block (blk_next hg4 (b := tb) (by omega) (fun e => HTO.out _ e rfl))).trans ht3
                    refine hK.out _ _ (ht4) (fun hHeld => ?_)
                    clear hK K
                    try simp only [Act.put, List.setIfInBounds_toArray, List.set_cons_zero, List.set_cons_succ]
                    refine wpAnyH_take (i := 11) (oi := { dst := some 65, op := Op.fieldAddr 25 (Operand.tmp 5) 4, type := 0, pos := "ref.go:117", after := #[{ on := 0, ground := Ground.phase }, { on := 1, ground := Ground.phase }, { on := 2, ground := Ground.phase }, { on := 3, ground := Ground.phase }, { on := 4, ground := Ground.phase }, { on := 5, ground := Ground.phase }, { on := 6, ground := Ground.phase }, { on := 7, ground := Ground.phase }, { on := 8, ground := Ground.phase }, { on := 9, ground := Ground.phase }, { on := 10, ground := Ground.phase }], guard := none }) (v := ?_) rfl (by kernel_rfl) (by kernel_rfl) (by kernel_rfl) (fun _ _ _ h => h) (Or.inl ⟨by rfl, ?_⟩) hHeld ?_
                    rotate_left
                    · intro w hSw; (try dsimp only at hSw); go_simp; with_reducible rfl
                    try simp only [Act.put, List.setIfInBounds_toArray, List.set_cons_zero, List.set_cons_succ]
                    refine wpAnyH_ready (rs := [12]) (by kernel_rfl) (by simp) ?_
                    refine AllReadyH.cons (o := { dst := none, op := Op.store 23 (Operand.tmp 65) (Operand.tmp 64), type := 0, pos := "ref.go:117", after := #[{ on := 11, ground := Ground.data }, { on := 10, ground := Ground.data }, { on := 10, ground := Ground.chain }, { on := 0, ground := Ground.phase }, { on := 1, ground := Ground.phase }, { on := 2, ground := Ground.phase }, { on := 3, ground := Ground.phase }, { on := 4, ground := Ground.phase }, { on := 5, ground := Ground.phase }, { on := 6, ground := Ground.phase }, { on := 7, ground := Ground.phase }, { on := 8, ground := Ground.phase }, { on := 9, ground := Ground.phase }, { on := 10, ground := Ground.phase }], guard := none }) rfl (fun K hK => ?_) AllReadyH.nil
                    go_simp
                    refine hK.out _ _ ((World.cell?_setCell_other w4 ⟨w.heap.size + 1, 4, none⟩ ⟨tb, 2, none⟩ _ (fun e => by have := congrArg Addr.block e; simp at this; omega)).trans ht4) (fun hHeld => ?_)
                    clear hK K
                    try simp only [Act.put, List.setIfInBounds_toArray, List.set_cons_zero, List.set_cons_succ]
                    refine wpAnyH_done (by kernel_rfl) ?_ _
                    obtain ⟨w5, hw5⟩ : ∃ w5, w5 = w4.setCell ⟨w.heap.size + 1, 4, none⟩ (.slice (some ⟨g, 0, none⟩) (n + 1) cap) := ⟨_, rfl⟩
                    have hv5 : w5.heap[w.heap.size + 1]? = some (.cells #[.int .i64 6, .int .i64 0, .string ⟨#[]⟩, .slice none 0 0, .slice (some ⟨g, 0, none⟩) (n + 1) cap] 25 (0, 0)) := by rw [hw5]; exact heap_setCell_same w4 (w.heap.size + 1) 4 _ _ _ hv4
                    have hz5 : w5.heap[w.heap.size]? = some (.cells #[.int .i64 0, .int .i64 0, .string ⟨#[]⟩, .slice none 0 0, .slice none 0 0] 25 (0, 0)) := by rw [hw5]; exact (heap_setCell_other w4 ⟨w.heap.size + 1, 4, none⟩ w.heap.size _ (by show w.heap.size ≠ w.heap.size + 1; omega)).trans ((blk_next hg4 (by omega) (own_ne HON.out (by omega))).trans (blk_fr hgr3 (by omega) (by omega) HZN.out))
                    have hp5 : Prs w5 pb vL E j1 q1 0 0 := by rw [hw5]; exact (heap_setCell_other w4 ⟨w.heap.size + 1, 4, none⟩ pb _ (by show pb ≠ w.heap.size + 1; omega)).trans ((blk_next hg4 (by omega) (own_ne HON.out (by omega))).trans hp3)
                    have hgr5 : w.grownBy w5 (some pb) := by rw [hw5]; exact Fr.next (Fr.trans HGN.out hgr3) hg4 (fun k hk => by have := (HON.out.lt k hk).1; omega) ⟨w.heap.size + 1, 4, none⟩ (by show w.heap.size ≤ w.heap.size + 1; omega) _
                    have hown5 : w5.ownsRow (w.heap.size + 2) 38 6 (.slice (some ⟨g, 0, none⟩) (n + 1) cap) (n + 1) (cs ++ [.string X, .int .i64 k3, .int .i64 n3, .string s3, .slice A3 l3 c3, .slice B3 m3 d3]) := by rw [hw5]; exact ownsRow_setCell_below hown4 (by show w.heap.size + 1 < w.heap.size + 2; omega) _
                    have hits5 : ItsM w5 (w.heap.size + 2) (some g) (ns ++ [nm]) (av ++ [v]) (cs ++ [.string X, .int .i64 k3, .int .i64 n3, .string s3, .slice A3 l3 c3, .slice B3 m3 d3]) := by rw [hw5, HX.out]; exact ItsM.next hgr3 (by omega) (by omega) hg4 (fun k hk => (HON.out.lt k hk).2) hat HIN.out rfl (by simp [Value.oneCell']) (Nat.le_refl _) hV3 ⟨w.heap.size + 1, 4, none⟩ (by show w.heap.size + 1 < w.heap.size + 2; omega) _
                    rw [← hw5]
                    have hlt5 := hp5.cells.1
                    have c5 := hp5.cells.2.2.2.2.2.2.1
                    have hs5 : w.heap.size + 1 < w5.heap.size := (Array.getElem?_eq_some_iff.1 hv5).1
                    clear hw5 hv4 hg4 hat hlt4 hown4 hv3 x3w f3w hgr3 hg3 hp3 hown3 ht3 ht4 hHeld
                    have hr5 := RdT_fr HRT.out (Nat.le_of_lt hlt) hgr5
                    have hM1 := mark_any pb vL ts E j1 q1 0 0 125 ⟨#[125]⟩ w5 hp5 hr5 (by rw [ByteArray.toList_eq]) (by omega)
                    by_cases b1 : isM (tk ts E j1) 125 = true
                    · rw [b1, if_pos rfl] at hM1
                      have HR6 := Lib.hid (show R = .ok ((ns ++ [nm]) ++ [], (av ++ [v]) ++ []) (j1 + 1) q1 by have h := HRN.out; unfold gM at h; rw [if_pos b1] at h; exact h)
                      have HM1 := Lib.hid hM1; clear hM1 hp5 hr5 b1
                      go_wp2_with fail
                      refine HM1.out.mono ?_
                      rintro e w6 ⟨rfl, hg6, hp6⟩
                      have hs6 := hg6.size
                      have hz6 := blk_fr hg6 (by omega) (by omega) hz5
                      have hv6 := blk_fr hg6 (by omega) (by omega) hv5
                      obtain ⟨z0, z1, z2, z3, z4⟩ := cells5 hz6
                      obtain ⟨qz0, qz1, qz2, qz3, qz4⟩ := frozen5 hz6
                      have HZF := Lib.hid hz6; clear hz6
                      obtain ⟨x0, x1, x2, x3, x4⟩ := cells5 hv6
                      have HVF := Lib.hid hv6; clear hv6
                      have HO5 := Lib.hid hown5; clear hown5
                      have HI5 := Lib.hid hits5; clear hits5
                      have HP6 := Lib.hid hp6; clear hp6
                      have HG6 := Lib.hid hg6; clear hg6
                      have HG5 := Lib.hid hgr5; clear hgr5 hz5 hv5
                      go_wp2_with fail
                      have hown6 := HO5.out.kept HG6.out (.inr (own_ne HO5.out (by omega)))
                      have hits6 := HI5.out.keep (w' := w6) (g' := (Value.slice (some ⟨g, 0, none⟩) (n + 1) cap).ownBlock) (fun pp h1 h2 _ => World.cell?_of_block (HG6.out.block pp.block h2 (fun e => by have := Option.some.inj e; omega))) hs6 (fun k hk => .inl hk)
                      have hl1 : (av ++ [v]).length = n + 1 := by rw [List.length_append, ← HNA.out]; rfl
                      rw [← hl1] at hown6
                      have hn : w.heap.size ≠ pb := by omega
                      have R5 := set5_row HZF.out (.int .i64 6) (.int .i64 0) (.string ⟨#[]⟩) (.slice none 0 0) (.slice (some ⟨g, 0, none⟩) (n + 1) cap)
                      have P5 := set5_prs HP6.out hn (.int .i64 6) (.int .i64 0) (.string ⟨#[]⟩) (.slice none 0 0) (.slice (some ⟨g, 0, none⟩) (n + 1) cap)
                      have F5 := set5_fr (Fr.trans HG5.out HG6.out) (Nat.le_refl _) (.int .i64 6) (.int .i64 0) (.string ⟨#[]⟩) (.slice none 0 0) (.slice (some ⟨g, 0, none⟩) (n + 1) cap)
                      refine bodyPost_ret (results5 rfl rfl R5) rfl ?_
                      rw [HR6.out, List.append_nil, List.append_nil]
                      refine ⟨F5, _, _, _, _, _, _, _, _, _, rfl, ?_, P5⟩
                      have hV2 := RdV_mp hown6 hits6 (lo := w.heap.size + 2) (hi := w6.heap.size) (by omega) (by omega) (Nat.le_refl _)
                      rw [hl1] at hV2
                      exact RdV.keep (fun pp h1 h2 => cell_set5 _ _ _ (by omega) _ _ _ _ _) (by omega) (by simp) _ _ hV2
                    · have b1' : isM (tk ts E j1) 125 = false := by simpa using b1
                      rw [b1', if_neg (by decide)] at hM1
                      have HM1 := Lib.hid hM1; clear hM1 hp5
                      have HO5 := Lib.hid hown5; clear hown5
                      have HI5 := Lib.hid hits5; clear hits5
                      have HRT5 := Lib.hid hr5; clear hr5
                      have HG5 := Lib.hid hgr5; clear hgr5
                      have HV5 := Lib.hid hv5; clear hv5
                      have HZ5 := Lib.hid hz5; clear hz5
                      go_wp2_with fail
                      refine HM1.out.mono ?_
                      rintro e w6 ⟨rfl, hg6, hp6⟩
                      have hs6 := hg6.size
                      have hr6 := RdT_fr HRT5.out (Nat.le_of_lt hlt5) hg6
                      have hM2 := mark_any pb vL ts E j1 q1 0 0 44 ⟨#[44]⟩ w6 hp6 hr6 (by rw [ByteArray.toList_eq]) (by omega)
                      have HG6 := Lib.hid hg6; clear hg6
                      by_cases b2 : isM (tk ts E j1) 44 = true
                      · rw [b2, if_pos rfl] at hM2
                        have HR6 := Lib.hid (show R = (pM ts E f'' d (j1 + 1) q1 (ns ++ [nm])).map (fun x => ((ns ++ [nm]) ++ x.1, (av ++ [v]) ++ x.2)) by have h := HRN.out; unfold gM at h; rw [if_neg b1, if_neg (by decide), if_pos b2] at h; exact h)
                        have hin := isM_in b2
                        have HM2 := Lib.hid hM2; clear hM2 hp6 hr6 b1 b1' b2
                        go_wp2_with fail
                        refine HM2.out.mono ?_
                        rintro e w7 ⟨rfl, hg7, hp7⟩
                        have HG7 := Lib.hid (Fr.trans HG6.out hg7); clear hg7
                        have HP7 := Lib.hid hp7; clear hp7
                        go_wp2_with fail
                        go_roundw
                        case rel =>
                          refine ⟨n + 1, j1 + 1, q1, .slice (some ⟨g, 0, none⟩) (n + 1) cap, cs ++ [.string X, .int .i64 k3, .int .i64 n3, .string s3, .slice A3 l3 c3, .slice B3 m3 d3], 0, 0, HP7.out, Fr.trans HG5.out HG7.out, blk_fr HG7.out (by omega) (by omega) HZ5.out, blk_fr HG7.out (by omega) (by omega) HV5.out, HO5.out.kept HG7.out (.inr (own_ne HO5.out (by omega))), by omega, by omega, .inl ⟨rfl, rfl, ns ++ [nm], av ++ [v], f'', ?_, HR6.out, by omega, by omega, by omega, ?_⟩⟩
                          · rw [List.length_append, ← HNA.out]; rfl
                          · exact HI5.out.keep (fun pp h1 h2 _ => World.cell?_of_block (HG7.out.block pp.block h2 (fun e => by have := Option.some.inj e; omega))) HG7.out.size (fun k hk => .inl hk)
                        case measure =>
                          have m2 := HP7.out.next
                          rw [HNX.out, m2]
                          omega
                      · have b2' : isM (tk ts E j1) 44 = false := by simpa using b2
                        rw [b2', if_neg (by decide)] at hM2
                        have HR6 := Lib.hid (show R = .bad (tk ts E j1).2.2.2 50 by have h := HRN.out; unfold gM at h; rw [if_neg b1, if_neg (by decide), if_neg b2] at h; exact h)
                        have HM2 := Lib.hid hM2; clear hM2 hp6 hr6 b1 b1' b2 b2'
                        go_wp2_with fail
                        refine HM2.out.mono ?_
                        rintro e w7 ⟨rfl, hg7, hp7⟩
                        have hFL := fail_any pb vL ts E j1 q1 0 50 w7 hp7 (RdT_fr HRT5.out (Nat.le_of_lt hlt5) (Fr.trans HG6.out hg7))
                        have HFL := Lib.hid hFL; clear hFL hp7
                        have HG7 := Lib.hid (Fr.trans HG6.out hg7); clear hg7
                        go_wp2_with fail
                        refine HFL.out.mono ?_
                        rintro e w8 ⟨rfl, hg8, hp8⟩
                        have HG8 := Lib.hid (Fr.trans HG7.out hg8); clear hg8
                        have HP8 := Lib.hid hp8; clear hp8
                        unfold zeroV
                        go_wp2_with fail
                        go_roundw
                        case rel =>
                          exact ⟨n + 1, j1, q1, .slice (some ⟨g, 0, none⟩) (n + 1) cap, cs ++ [.string X, .int .i64 k3, .int .i64 n3, .string s3, .slice A3 l3 c3, .slice B3 m3 d3], _, _, HP8.out, Fr.trans HG5.out HG8.out, blk_fr HG8.out (by omega) (by omega) HZ5.out, blk_fr HG8.out (by omega) (by omega) HV5.out, HO5.out.kept HG8.out (.inr (own_ne HO5.out (by omega))), by omega, by omega, .inr ⟨by decide, HR6.out⟩⟩
                        case measure =>
                          have m2 := HP8.out.next
                          rw [HNX.out, m2]
                          omega
                  · go_simp
                    go_at_call 13
                    refine (HVC.out wn.drew HPN.out HRTN.out).mono ?_
                    rintro e w3 ⟨hg3, k3, n3, s3, A3, l3, c3, B3, m3, d3, rfl, hV3, hp3⟩
                    have hgr3 := Fr.trans (Fr.drew (Fr.of pb (Below.refl wn.heap.size wn))) hg3
                    have hv3 := blk_fr hgr3 (by omega) (by omega) HVN.out
                    have x3w := (cells5 hv3).2.2.2.2
                    have hs23 : wn.heap.size ≤ w3.heap.size := hg3.size
                    have hown3 := HON.out.kept hgr3 (.inr (own_ne HON.out (by omega)))
                    have ht3 : w3.cell? ⟨tb, 2, none⟩ = some (.string X) := (World.cell?_of_block (hgr3.block tb htb (fun e => by have := Option.some.inj e; omega))).trans HTN.out
                    refine hK.out _ _ (ht3) (fun hHeld => ?_)
                    clear hK K
                    try simp only [Act.put, List.setIfInBounds_toArray, List.set_cons_zero, List.set_cons_succ]
                    refine wpAnyH_take (i := 8) (oi := { dst := some 62, op := Op.build 38 #[(0, Operand.tmp 57), (1, Operand.tmp 61)], type := 38, pos := "ref.go:117", after := #[{ on := 3, ground := Ground.data }, { on := 7, ground := Ground.data }], guard := none }) (v := ?_) rfl (by kernel_rfl) (by kernel_rfl) (by kernel_rfl) (fun _ _ _ h => h) (Or.inl ⟨by rfl, ?_⟩) hHeld ?_
                    rotate_left
                    · intro w hSw; (try dsimp only at hSw); go_simp; with_reducible rfl
                    try simp only [Act.put, List.setIfInBounds_toArray, List.set_cons_zero, List.set_cons_succ]
                    refine wpAnyH_ready (rs := [1, 9]) (by kernel_rfl) (by simp) ?_
                    refine AllReadyH.cons (o := { dst := some 55, op := Op.load 23 (Operand.tmp 54), type := 23, pos := "ref.go:117", after := #[{ on := 0, ground := Ground.data }], guard := none }) rfl (fun K hK => ?_) (AllReadyH.cons (o := { dst := some 63, op := Op.buildSlice 23 1 #[(0, Operand.tmp 62)], type := 23, pos := "ref.go:117", after := #[{ on := 8, ground := Ground.data }], guard := none }) rfl (fun K hK => ?_) AllReadyH.nil)
                    · go_simp
                      refine hK.out _ _ (hHeld) (fun hHeld => ?_)
                      clear hK K
                      try simp only [Act.put, List.setIfInBounds_toArray, List.set_cons_zero, List.set_cons_succ]
                      refine wpAnyH_ready (rs := [9]) (by kernel_rfl) (by simp) ?_
                      refine AllReadyH.cons (o := { dst := some 63, op := Op.buildSlice 23 1 #[(0, Operand.tmp 62)], type := 23, pos := "ref.go:117", after := #[{ on := 8, ground := Ground.data }], guard := none }) rfl (fun K hK => ?_) AllReadyH.nil
                      go_simp
                      refine hK.out _ _ ((World.cell?_of_block (heap_alloc_old w3 _ (by show tb < w3.heap.size; omega))).trans ht3) (fun hHeld => ?_)
                      clear hK K
                      try simp only [Act.put, List.setIfInBounds_toArray, List.set_cons_zero, List.set_cons_succ]
                      have x3b := (cells5 ((heap_alloc_old w3 (.cells #[.string X, .int .i64 k3, .int .i64 n3, .string s3, .slice A3 l3 c3, .slice B3 m3 d3] 38) (by omega)).trans hv3)).2.2.2.2
                      refine wpAnyH_ready (rs := [10]) (by kernel_rfl) (by simp) ?_
                      refine AllReadyH.cons (o := { dst := some 64, op := Op.call { callee := Callee.builtin Builtin.append, args := #[Operand.tmp 55, Operand.tmp 63], argTypes := #[23, 23] }, type := 23, pos := "ref.go:117", after := #[{ on := 1, ground := Ground.data }, { on := 9, ground := Ground.data }, { on := 7, ground := Ground.chain }], guard := none }) rfl (fun K hK => ?_) AllReadyH.nil
                      refine step_append_lies _ (by rfl) _ _ _ (by rfl) (w.heap.size + 2) 38 i0 _ 6 96 Tryd.underlying23 hi0 hz0 hz1 hz2 (by rfl) (by omega) (.slice A n c) n cs (by rfl) (hown3.alloc _) ⟨w3.heap.size, 0, none⟩ 1 1 [.string X, .int .i64 k3, .int .i64 n3, .string s3, .slice A3 l3 c3, .slice B3 m3 d3] (by rfl) (by rfl) (World.news_of_block (cs := #[.string X, .int .i64 k3, .int .i64 n3, .string s3, .slice A3 l3 c3, .slice B3 m3 d3]) (t := 38) (fr := (0, 0)) (heap_alloc_new w3 _)) (by simp [Value.oneCell']) (by omega) (by unfold maxLen; omega) (by omega) (by simp; omega) (w3.heap.size + 1) (by simp) ?_
                      intro g cap w4 hown4 hg4 hat hlt4
                      have hv4 := (blk_next hg4 (b := w.heap.size + 1) (by omega) (own_ne HON.out (by omega))).trans hv3
                      have x3w := (cells5 hv4).2.2.2.2
                      have f3w := (frozen5 hv4).2.2.2.2
                      have ht4 : w4.cell? ⟨tb, 2, none⟩ = some (.string X) := (World.cell?_of_block (blk_next hg4 (b := tb) (by omega) (fun e => HTO.out _ e rfl))).trans ht3
                      refine hK.out _ _ (ht4) (fun hHeld => ?_)
                      clear hK K
                      try simp only [Act.put, List.setIfInBounds_toArray, List.set_cons_zero, List.set_cons_succ]
                      refine wpAnyH_take (i := 11) (oi := { dst := some 65, op := Op.fieldAddr 25 (Operand.tmp 5) 4, type := 0, pos := "ref.go:117", after := #[{ on := 0, ground := Ground.phase }, { on := 1, ground := Ground.phase }, { on := 2, ground := Ground.phase }, { on := 3, ground := Ground.phase }, { on := 4, ground := Ground.phase }, { on := 5, ground := Ground.phase }, { on := 6, ground := Ground.phase }, { on := 7, ground := Ground.phase }, { on := 8, ground := Ground.phase }, { on := 9, ground := Ground.phase }, { on := 10, ground := Ground.phase }], guard := none }) (v := ?_) rfl (by kernel_rfl) (by kernel_rfl) (by kernel_rfl) (fun _ _ _ h => h) (Or.inl ⟨by rfl, ?_⟩) hHeld ?_
                      rotate_left
                      · intro w hSw; (try dsimp only at hSw); go_simp; with_reducible rfl
                      try simp only [Act.put, List.setIfInBounds_toArray, List.set_cons_zero, List.set_cons_succ]
                      refine wpAnyH_ready (rs := [12]) (by kernel_rfl) (by simp) ?_
                      refine AllReadyH.cons (o := { dst := none, op := Op.store 23 (Operand.tmp 65) (Operand.tmp 64), type := 0, pos := "ref.go:117", after := #[{ on := 11, ground := Ground.data }, { on := 10, ground := Ground.data }, { on := 10, ground := Ground.chain }, { on := 0, ground := Ground.phase }, { on := 1, ground := Ground.phase }, { on := 2, ground := Ground.phase }, { on := 3, ground := Ground.phase }, { on := 4, ground := Ground.phase }, { on := 5, ground := Ground.phase }, { on := 6, ground := Ground.phase }, { on := 7, ground := Ground.phase }, { on := 8, ground := Ground.phase }, { on := 9, ground := Ground.phase }, { on := 10, ground := Ground.phase }], guard := none }) rfl (fun K hK => ?_) AllReadyH.nil
                      go_simp
                      refine hK.out _ _ ((World.cell?_setCell_other w4 ⟨w.heap.size + 1, 4, none⟩ ⟨tb, 2, none⟩ _ (fun e => by have := congrArg Addr.block e; simp at this; omega)).trans ht4) (fun hHeld => ?_)
                      clear hK K
                      try simp only [Act.put, List.setIfInBounds_toArray, List.set_cons_zero, List.set_cons_succ]
                      refine wpAnyH_done (by kernel_rfl) ?_ _
                      obtain ⟨w5, hw5⟩ : ∃ w5, w5 = w4.setCell ⟨w.heap.size + 1, 4, none⟩ (.slice (some ⟨g, 0, none⟩) (n + 1) cap) := ⟨_, rfl⟩
                      have hv5 : w5.heap[w.heap.size + 1]? = some (.cells #[.int .i64 6, .int .i64 0, .string ⟨#[]⟩, .slice none 0 0, .slice (some ⟨g, 0, none⟩) (n + 1) cap] 25 (0, 0)) := by rw [hw5]; exact heap_setCell_same w4 (w.heap.size + 1) 4 _ _ _ hv4
                      have hz5 : w5.heap[w.heap.size]? = some (.cells #[.int .i64 0, .int .i64 0, .string ⟨#[]⟩, .slice none 0 0, .slice none 0 0] 25 (0, 0)) := by rw [hw5]; exact (heap_setCell_other w4 ⟨w.heap.size + 1, 4, none⟩ w.heap.size _ (by show w.heap.size ≠ w.heap.size + 1; omega)).trans ((blk_next hg4 (by omega) (own_ne HON.out (by omega))).trans (blk_fr hgr3 (by omega) (by omega) HZN.out))
                      have hp5 : Prs w5 pb vL E j1 q1 0 0 := by rw [hw5]; exact (heap_setCell_other w4 ⟨w.heap.size + 1, 4, none⟩ pb _ (by show pb ≠ w.heap.size + 1; omega)).trans ((blk_next hg4 (by omega) (own_ne HON.out (by omega))).trans hp3)
                      have hgr5 : w.grownBy w5 (some pb) := by rw [hw5]; exact Fr.next (Fr.trans HGN.out hgr3) hg4 (fun k hk => by have := (HON.out.lt k hk).1; omega) ⟨w.heap.size + 1, 4, none⟩ (by show w.heap.size ≤ w.heap.size + 1; omega) _
                      have hown5 : w5.ownsRow (w.heap.size + 2) 38 6 (.slice (some ⟨g, 0, none⟩) (n + 1) cap) (n + 1) (cs ++ [.string X, .int .i64 k3, .int .i64 n3, .string s3, .slice A3 l3 c3, .slice B3 m3 d3]) := by rw [hw5]; exact ownsRow_setCell_below hown4 (by show w.heap.size + 1 < w.heap.size + 2; omega) _
                      have hits5 : ItsM w5 (w.heap.size + 2) (some g) (ns ++ [nm]) (av ++ [v]) (cs ++ [.string X, .int .i64 k3, .int .i64 n3, .string s3, .slice A3 l3 c3, .slice B3 m3 d3]) := by rw [hw5, HX.out]; exact ItsM.next hgr3 (by omega) (by omega) hg4 (fun k hk => (HON.out.lt k hk).2) hat HIN.out rfl (by simp [Value.oneCell']) (Nat.le_refl _) hV3 ⟨w.heap.size + 1, 4, none⟩ (by show w.heap.size + 1 < w.heap.size + 2; omega) _
                      rw [← hw5]
                      have hlt5 := hp5.cells.1
                      have c5 := hp5.cells.2.2.2.2.2.2.1
                      have hs5 : w.heap.size + 1 < w5.heap.size := (Array.getElem?_eq_some_iff.1 hv5).1
                      clear hw5 hv4 hg4 hat hlt4 hown4 hv3 x3w f3w hgr3 hg3 hp3 hown3 ht3 ht4 hHeld
                      have hr5 := RdT_fr HRT.out (Nat.le_of_lt hlt) hgr5
                      have hM1 := mark_any pb vL ts E j1 q1 0 0 125 ⟨#[125]⟩ w5 hp5 hr5 (by rw [ByteArray.toList_eq]) (by omega)
                      by_cases b1 : isM (tk ts E j1) 125 = true
                      · rw [b1, if_pos rfl] at hM1
                        have HR6 := Lib.hid (show R = .ok ((ns ++ [nm]) ++ [], (av ++ [v]) ++ []) (j1 + 1) q1 by have h := HRN.out; unfold gM at h; rw [if_pos b1] at h; exact h)
                        have HM1 := Lib.hid hM1; clear hM1 hp5 hr5 b1
                        go_wp2_with fail
                        refine HM1.out.mono ?_
                        rintro e w6 ⟨rfl, hg6, hp6⟩
                        have hs6 := hg6.size
                        have hz6 := blk_fr hg6 (by omega) (by omega) hz5
                        have hv6 := blk_fr hg6 (by omega) (by omega) hv5
                        obtain ⟨z0, z1, z2, z3, z4⟩ := cells5 hz6
                        obtain ⟨qz0, qz1, qz2, qz3, qz4⟩ := frozen5 hz6
                        have HZF := Lib.hid hz6; clear hz6
                        obtain ⟨x0, x1, x2, x3, x4⟩ := cells5 hv6
                        have HVF := Lib.hid hv6; clear hv6
                        have HO5 := Lib.hid hown5; clear hown5
                        have HI5 := Lib.hid hits5; clear hits5
                        have HP6 := Lib.hid hp6; clear hp6
                        have HG6 := Lib.hid hg6; clear hg6
                        have HG5 := Lib.hid hgr5; clear hgr5 hz5 hv5
                        go_wp2_with fail
                        have hown6 := HO5.out.kept HG6.out (.inr (own_ne HO5.out (by omega)))
                        have hits6 := HI5.out.keep (w' := w6) (g' := (Value.slice (some ⟨g, 0, none⟩) (n + 1) cap).ownBlock) (fun pp h1 h2 _ => World.cell?_of_block (HG6.out.block pp.block h2 (fun e => by have := Option.some.inj e; omega))) hs6 (fun k hk => .inl hk)
                        have hl1 : (av ++ [v]).length = n + 1 := by rw [List.length_append, ← HNA.out]; rfl
                        rw [← hl1] at hown6
                        have hn : w.heap.size ≠ pb := by omega
                        have R5 := set5_row HZF.out (.int .i64 6) (.int .i64 0) (.string ⟨#[]⟩) (.slice none 0 0) (.slice (some ⟨g, 0, none⟩) (n + 1) cap)
                        have P5 := set5_prs HP6.out hn (.int .i64 6) (.int .i64 0) (.string ⟨#[]⟩) (.slice none 0 0) (.slice (some ⟨g, 0, none⟩) (n + 1) cap)
                        have F5 := set5_fr (Fr.trans HG5.out HG6.out) (Nat.le_refl _) (.int .i64 6) (.int .i64 0) (.string ⟨#[]⟩) (.slice none 0 0) (.slice (some ⟨g, 0, none⟩) (n + 1) cap)
                        refine bodyPost_ret (results5 rfl rfl R5) rfl ?_
                        rw [HR6.out, List.append_nil, List.append_nil]
                        refine ⟨F5, _, _, _, _, _, _, _, _, _, rfl, ?_, P5⟩
                        have hV2 := RdV_mp hown6 hits6 (lo := w.heap.size + 2) (hi := w6.heap.size) (by omega) (by omega) (Nat.le_refl _)
                        rw [hl1] at hV2
                        exact RdV.keep (fun pp h1 h2 => cell_set5 _ _ _ (by omega) _ _ _ _ _) (by omega) (by simp) _ _ hV2
                      · have b1' : isM (tk ts E j1) 125 = false := by simpa using b1
                        rw [b1', if_neg (by decide)] at hM1
                        have HM1 := Lib.hid hM1; clear hM1 hp5
                        have HO5 := Lib.hid hown5; clear hown5
                        have HI5 := Lib.hid hits5; clear hits5
                        have HRT5 := Lib.hid hr5; clear hr5
                        have HG5 := Lib.hid hgr5; clear hgr5
                        have HV5 := Lib.hid hv5; clear hv5
                        have HZ5 := Lib.hid hz5; clear hz5
                        go_wp2_with fail
                        refine HM1.out.mono ?_
                        rintro e w6 ⟨rfl, hg6, hp6⟩
                        have hs6 := hg6.size
                        have hr6 := RdT_fr HRT5.out (Nat.le_of_lt hlt5) hg6
                        have hM2 := mark_any pb vL ts E j1 q1 0 0 44 ⟨#[44]⟩ w6 hp6 hr6 (by rw [ByteArray.toList_eq]) (by omega)
                        have HG6 := Lib.hid hg6; clear hg6
                        by_cases b2 : isM (tk ts E j1) 44 = true
                        · rw [b2, if_pos rfl] at hM2
                          have HR6 := Lib.hid (show R = (pM ts E f'' d (j1 + 1) q1 (ns ++ [nm])).map (fun x => ((ns ++ [nm]) ++ x.1, (av ++ [v]) ++ x.2)) by have h := HRN.out; unfold gM at h; rw [if_neg b1, if_neg (by decide), if_pos b2] at h; exact h)
                          have hin := isM_in b2
                          have HM2 := Lib.hid hM2; clear hM2 hp6 hr6 b1 b1' b2
                          go_wp2_with fail
                          refine HM2.out.mono ?_
                          rintro e w7 ⟨rfl, hg7, hp7⟩
                          have HG7 := Lib.hid (Fr.trans HG6.out hg7); clear hg7
                          have HP7 := Lib.hid hp7; clear hp7
                          go_wp2_with fail
                          go_roundw
                          case rel =>
                            refine ⟨n + 1, j1 + 1, q1, .slice (some ⟨g, 0, none⟩) (n + 1) cap, cs ++ [.string X, .int .i64 k3, .int .i64 n3, .string s3, .slice A3 l3 c3, .slice B3 m3 d3], 0, 0, HP7.out, Fr.trans HG5.out HG7.out, blk_fr HG7.out (by omega) (by omega) HZ5.out, blk_fr HG7.out (by omega) (by omega) HV5.out, HO5.out.kept HG7.out (.inr (own_ne HO5.out (by omega))), by omega, by omega, .inl ⟨rfl, rfl, ns ++ [nm], av ++ [v], f'', ?_, HR6.out, by omega, by omega, by omega, ?_⟩⟩
                            · rw [List.length_append, ← HNA.out]; rfl
                            · exact HI5.out.keep (fun pp h1 h2 _ => World.cell?_of_block (HG7.out.block pp.block h2 (fun e => by have := Option.some.inj e; omega))) HG7.out.size (fun k hk => .inl hk)
                          case measure =>
                            have m2 := HP7.out.next
                            rw [HNX.out, m2]
                            omega
                        · have b2' : isM (tk ts E j1) 44 = false := by simpa using b2
                          rw [b2', if_neg (by decide)] at hM2
                          have HR6 := Lib.hid (show R = .bad (tk ts E j1).2.2.2 50 by have h := HRN.out; unfold gM at h; rw [if_neg b1, if_neg (by decide), if_neg b2] at h; exact h)
                          have HM2 := Lib.hid hM2; clear hM2 hp6 hr6 b1 b1' b2 b2'
                          go_wp2_with fail
                          refine HM2.out.mono ?_
                          rintro e w7 ⟨rfl, hg7, hp7⟩
                          have hFL := fail_any pb vL ts E j1 q1 0 50 w7 hp7 (RdT_fr HRT5.out (Nat.le_of_lt hlt5) (Fr.trans HG6.out hg7))
                          have HFL := Lib.hid hFL; clear hFL hp7
                          have HG7 := Lib.hid (Fr.trans HG6.out hg7); clear hg7
                          go_wp2_with fail
                          refine HFL.out.mono ?_
                          rintro e w8 ⟨rfl, hg8, hp8⟩
                          have HG8 := Lib.hid (Fr.trans HG7.out hg8); clear hg8
                          have HP8 := Lib.hid hp8; clear hp8
                          unfold zeroV
                          go_wp2_with fail
                          go_roundw
                          case rel =>
                            exact ⟨n + 1, j1, q1, .slice (some ⟨g, 0, none⟩) (n + 1) cap, cs ++ [.string X, .int .i64 k3, .int .i64 n3, .string s3, .slice A3 l3 c3, .slice B3 m3 d3], _, _, HP8.out, Fr.trans HG5.out HG8.out, blk_fr HG8.out (by omega) (by omega) HZ5.out, blk_fr HG8.out (by omega) (by omega) HV5.out, HO5.out.kept HG8.out (.inr (own_ne HO5.out (by omega))), by omega, by omega, .inr ⟨by decide, HR6.out⟩⟩
                          case measure =>
                            have m2 := HP8.out.next
                            rw [HNX.out, m2]
                            omega
                    · go_simp
                      refine hK.out _ _ ((World.cell?_of_block (heap_alloc_old w3 _ (by show tb < w3.heap.size; omega))).trans ht3) (fun hHeld => ?_)
                      clear hK K
                      try simp only [Act.put, List.setIfInBounds_toArray, List.set_cons_zero, List.set_cons_succ]
                      have x3b := (cells5 ((heap_alloc_old w3 (.cells #[.string X, .int .i64 k3, .int .i64 n3, .string s3, .slice A3 l3 c3, .slice B3 m3 d3] 38) (by omega)).trans hv3)).2.2.2.2
                      refine wpAnyH_ready (rs := [1]) (by kernel_rfl) (by simp) ?_
                      refine AllReadyH.cons (o := { dst := some 55, op := Op.load 23 (Operand.tmp 54), type := 23, pos := "ref.go:117", after := #[{ on := 0, ground := Ground.data }], guard := none }) rfl (fun K hK => ?_) AllReadyH.nil
                      go_simp
                      refine hK.out _ _ (hHeld) (fun hHeld => ?_)
                      clear hK K
                      try simp only [Act.put, List.setIfInBounds_toArray, List.set_cons_zero, List.set_cons_succ]
                      refine wpAnyH_ready (rs := [10]) (by kernel_rfl) (by simp) ?_
                      refine AllReadyH.cons (o := { dst := some 64, op := Op.call { callee := Callee.builtin Builtin.append, args := #[Operand.tmp 55, Operand.tmp 63], argTypes := #[23, 23] }, type := 23, pos := "ref.go:117", after := #[{ on := 1, ground := Ground.data }, { on := 9, ground := Ground.data }, { on := 7, ground := Ground.chain }], guard := none }) rfl (fun K hK => ?_) AllReadyH.nil
                      refine step_append_lies _ (by rfl) _ _ _ (by rfl) (w.heap.size + 2) 38 i0 _ 6 96 Tryd.underlying23 hi0 hz0 hz1 hz2 (by rfl) (by omega) (.slice A n c) n cs (by rfl) (hown3.alloc _) ⟨w3.heap.size, 0, none⟩ 1 1 [.string X, .int .i64 k3, .int .i64 n3, .string s3, .slice A3 l3 c3, .slice B3 m3 d3] (by rfl) (by rfl) (World.news_of_block (cs := #[.string X, .int .i64 k3, .int .i64 n3, .string s3, .slice A3 l3 c3, .slice B3 m3 d3]) (t := 38) (fr := (0, 0)) (heap_alloc_new w3 _)) (by simp [Value.oneCell']) (by omega) (by unfold maxLen; omega) (by omega) (by simp; omega) (w3.heap.size + 1) (by simp) ?_
                      intro g cap w4 hown4 hg4 hat hlt4
                      have hv4 := (blk_next hg4 (b := w.heap.size + 1) (by omega) (own_ne HON.out (by omega))).trans hv3
                      have x3w := (cells5 hv4).2.2.2.2
                      have f3w := (frozen5 hv4).2.2.2.2
                      have ht4 : w4.cell? ⟨tb, 2, none⟩ = some (.string X) := (World.cell?_of_block (blk_next hg4 (b := tb) (by omega) (fun e => HTO.out _ e rfl))).trans ht3
                      refine hK.out _ _ (ht4) (fun hHeld => ?_)
                      clear hK K
                      try simp only [Act.put, List.setIfInBounds_toArray, List.set_cons_zero, List.set_cons_succ]
                      refine wpAnyH_take (i := 11) (oi := { dst := some 65, op := Op.fieldAddr 25 (Operand.tmp 5) 4, type := 0, pos := "ref.go:117", after := #[{ on := 0, ground := Ground.phase }, { on := 1, ground := Ground.phase }, { on := 2, ground := Ground.phase }, { on := 3, ground := Ground.phase }, { on := 4, ground := Ground.phase }, { on := 5, ground := Ground.phase }, { on := 6, ground := Ground.phase }, { on := 7, ground := Ground.phase }, { on := 8, ground := Ground.phase }, { on := 9, ground := Ground.phase }, { on := 10, ground := Ground.phase }], guard := none }) (v := ?_) rfl (by kernel_rfl) (by kernel_rfl) (by kernel_rfl) (fun _ _ _ h => h) (Or.inl ⟨by rfl, ?_⟩) hHeld ?_
                      rotate_left
                      · intro w hSw; (try dsimp only at hSw); go_simp; with_reducible rfl
                      try simp only [Act.put, List.setIfInBounds_toArray, List.set_cons_zero, List.set_cons_succ]
                      refine wpAnyH_ready (rs := [12]) (by kernel_rfl) (by simp) ?_
                      refine AllReadyH.cons (o := { dst := none, op := Op.store 23 (Operand.tmp 65) (Operand.tmp 64), type := 0, pos := "ref.go:117", after := #[{ on := 11, ground := Ground.data }, { on := 10, ground := Ground.data }, { on := 10, ground := Ground.chain }, { on := 0, ground := Ground.phase }, { on := 1, ground := Ground.phase }, { on := 2, ground := Ground.phase }, { on := 3, ground := Ground.phase }, { on := 4, ground := Ground.phase }, { on := 5, ground := Ground.phase }, { on := 6, ground := Ground.phase }, { on := 7, ground := Ground.phase }, { on := 8, ground := Ground.phase }, { on := 9, ground := Ground.phase }, { on := 10, ground := Ground.phase }], guard := none }) rfl (fun K hK => ?_) AllReadyH.nil
                      go_simp
                      refine hK.out _ _ ((World.cell?_setCell_other w4 ⟨w.heap.size + 1, 4, none⟩ ⟨tb, 2, none⟩ _ (fun e => by have := congrArg Addr.block e; simp at this; omega)).trans ht4) (fun hHeld => ?_)
                      clear hK K
                      try simp only [Act.put, List.setIfInBounds_toArray, List.set_cons_zero, List.set_cons_succ]
                      refine wpAnyH_done (by kernel_rfl) ?_ _
                      obtain ⟨w5, hw5⟩ : ∃ w5, w5 = w4.setCell ⟨w.heap.size + 1, 4, none⟩ (.slice (some ⟨g, 0, none⟩) (n + 1) cap) := ⟨_, rfl⟩
                      have hv5 : w5.heap[w.heap.size + 1]? = some (.cells #[.int .i64 6, .int .i64 0, .string ⟨#[]⟩, .slice none 0 0, .slice (some ⟨g, 0, none⟩) (n + 1) cap] 25 (0, 0)) := by rw [hw5]; exact heap_setCell_same w4 (w.heap.size + 1) 4 _ _ _ hv4
                      have hz5 : w5.heap[w.heap.size]? = some (.cells #[.int .i64 0, .int .i64 0, .string ⟨#[]⟩, .slice none 0 0, .slice none 0 0] 25 (0, 0)) := by rw [hw5]; exact (heap_setCell_other w4 ⟨w.heap.size + 1, 4, none⟩ w.heap.size _ (by show w.heap.size ≠ w.heap.size + 1; omega)).trans ((blk_next hg4 (by omega) (own_ne HON.out (by omega))).trans (blk_fr hgr3 (by omega) (by omega) HZN.out))
                      have hp5 : Prs w5 pb vL E j1 q1 0 0 := by rw [hw5]; exact (heap_setCell_other w4 ⟨w.heap.size + 1, 4, none⟩ pb _ (by show pb ≠ w.heap.size + 1; omega)).trans ((blk_next hg4 (by omega) (own_ne HON.out (by omega))).trans hp3)
                      have hgr5 : w.grownBy w5 (some pb) := by rw [hw5]; exact Fr.next (Fr.trans HGN.out hgr3) hg4 (fun k hk => by have := (HON.out.lt k hk).1; omega) ⟨w.heap.size + 1, 4, none⟩ (by show w.heap.size ≤ w.heap.size + 1; omega) _
                      have hown5 : w5.ownsRow (w.heap.size + 2) 38 6 (.slice (some ⟨g, 0, none⟩) (n + 1) cap) (n + 1) (cs ++ [.string X, .int .i64 k3, .int .i64 n3, .string s3, .slice A3 l3 c3, .slice B3 m3 d3]) := by rw [hw5]; exact ownsRow_setCell_below hown4 (by show w.heap.size + 1 < w.heap.size + 2; omega) _
                      have hits5 : ItsM w5 (w.heap.size + 2) (some g) (ns ++ [nm]) (av ++ [v]) (cs ++ [.string X, .int .i64 k3, .int .i64 n3, .string s3, .slice A3 l3 c3, .slice B3 m3 d3]) := by rw [hw5, HX.out]; exact ItsM.next hgr3 (by omega) (by omega) hg4 (fun k hk => (HON.out.lt k hk).2) hat HIN.out rfl (by simp [Value.oneCell']) (Nat.le_refl _) hV3 ⟨w.heap.size + 1, 4, none⟩ (by show w.heap.size + 1 < w.heap.size + 2; omega) _
                      rw [← hw5]
                      have hlt5 := hp5.cells.1
                      have c5 := hp5.cells.2.2.2.2.2.2.1
                      have hs5 : w.heap.size + 1 < w5.heap.size := (Array.getElem?_eq_some_iff.1 hv5).1
                      clear hw5 hv4 hg4 hat hlt4 hown4 hv3 x3w f3w hgr3 hg3 hp3 hown3 ht3 ht4 hHeld
                      have hr5 := RdT_fr HRT.out (Nat.le_of_lt hlt) hgr5
                      have hM1 := mark_any pb vL ts E j1 q1 0 0 125 ⟨#[125]⟩ w5 hp5 hr5 (by rw [ByteArray.toList_eq]) (by omega)
                      by_cases b1 : isM (tk ts E j1) 125 = true
                      · rw [b1, if_pos rfl] at hM1
                        have HR6 := Lib.hid (show R = .ok ((ns ++ [nm]) ++ [], (av ++ [v]) ++ []) (j1 + 1) q1 by have h := HRN.out; unfold gM at h; rw [if_pos b1] at h; exact h)
                        have HM1 := Lib.hid hM1; clear hM1 hp5 hr5 b1
                        go_wp2_with fail
                        refine HM1.out.mono ?_
                        rintro e w6 ⟨rfl, hg6, hp6⟩
                        have hs6 := hg6.size
                        have hz6 := blk_fr hg6 (by omega) (by omega) hz5
                        have hv6 := blk_fr hg6 (by omega) (by omega) hv5
                        obtain ⟨z0, z1, z2, z3, z4⟩ := cells5 hz6
                        obtain ⟨qz0, qz1, qz2, qz3, qz4⟩ := frozen5 hz6
                        have HZF := Lib.hid hz6; clear hz6
                        obtain ⟨x0, x1, x2, x3, x4⟩ := cells5 hv6
                        have HVF := Lib.hid hv6; clear hv6
                        have HO5 := Lib.hid hown5; clear hown5
                        have HI5 := Lib.hid hits5; clear hits5
                        have HP6 := Lib.hid hp6; clear hp6
                        have HG6 := Lib.hid hg6; clear hg6
                        have HG5 := Lib.hid hgr5; clear hgr5 hz5 hv5
                        go_wp2_with fail
                        have hown6 := HO5.out.kept HG6.out (.inr (own_ne HO5.out (by omega)))
                        have hits6 := HI5.out.keep (w' := w6) (g' := (Value.slice (some ⟨g, 0, none⟩) (n + 1) cap).ownBlock) (fun pp h1 h2 _ => World.cell?_of_block (HG6.out.block pp.block h2 (fun e => by have := Option.some.inj e; omega))) hs6 (fun k hk => .inl hk)
                        have hl1 : (av ++ [v]).length = n + 1 := by rw [List.length_append, ← HNA.out]; rfl
                        rw [← hl1] at hown6
                        have hn : w.heap.size ≠ pb := by omega
                        have R5 := set5_row HZF.out (.int .i64 6) (.int .i64 0) (.string ⟨#[]⟩) (.slice none 0 0) (.slice (some ⟨g, 0, none⟩) (n + 1) cap)
                        have P5 := set5_prs HP6.out hn (.int .i64 6) (.int .i64 0) (.string ⟨#[]⟩) (.slice none 0 0) (.slice (some ⟨g, 0, none⟩) (n + 1) cap)
                        have F5 := set5_fr (Fr.trans HG5.out HG6.out) (Nat.le_refl _) (.int .i64 6) (.int .i64 0) (.string ⟨#[]⟩) (.slice none 0 0) (.slice (some ⟨g, 0, none⟩) (n + 1) cap)
                        refine bodyPost_ret (results5 rfl rfl R5) rfl ?_
                        rw [HR6.out, List.append_nil, List.append_nil]
                        refine ⟨F5, _, _, _, _, _, _, _, _, _, rfl, ?_, P5⟩
                        have hV2 := RdV_mp hown6 hits6 (lo := w.heap.size + 2) (hi := w6.heap.size) (by omega) (by omega) (Nat.le_refl _)
                        rw [hl1] at hV2
                        exact RdV.keep (fun pp h1 h2 => cell_set5 _ _ _ (by omega) _ _ _ _ _) (by omega) (by simp) _ _ hV2
                      · have b1' : isM (tk ts E j1) 125 = false := by simpa using b1
                        rw [b1', if_neg (by decide)] at hM1
                        have HM1 := Lib.hid hM1; clear hM1 hp5
                        have HO5 := Lib.hid hown5; clear hown5
                        have HI5 := Lib.hid hits5; clear hits5
                        have HRT5 := Lib.hid hr5; clear hr5
                        have HG5 := Lib.hid hgr5; clear hgr5
                        have HV5 := Lib.hid hv5; clear hv5
                        have HZ5 := Lib.hid hz5; clear hz5
                        go_wp2_with fail
                        refine HM1.out.mono ?_
                        rintro e w6 ⟨rfl, hg6, hp6⟩
                        have hs6 := hg6.size
                        have hr6 := RdT_fr HRT5.out (Nat.le_of_lt hlt5) hg6
                        have hM2 := mark_any pb vL ts E j1 q1 0 0 44 ⟨#[44]⟩ w6 hp6 hr6 (by rw [ByteArray.toList_eq]) (by omega)
                        have HG6 := Lib.hid hg6; clear hg6
                        by_cases b2 : isM (tk ts E j1) 44 = true
                        · rw [b2, if_pos rfl] at hM2
                          have HR6 := Lib.hid (show R = (pM ts E f'' d (j1 + 1) q1 (ns ++ [nm])).map (fun x => ((ns ++ [nm]) ++ x.1, (av ++ [v]) ++ x.2)) by have h := HRN.out; unfold gM at h; rw [if_neg b1, if_neg (by decide), if_pos b2] at h; exact h)
                          have hin := isM_in b2
                          have HM2 := Lib.hid hM2; clear hM2 hp6 hr6 b1 b1' b2
                          go_wp2_with fail
                          refine HM2.out.mono ?_
                          rintro e w7 ⟨rfl, hg7, hp7⟩
                          have HG7 := Lib.hid (Fr.trans HG6.out hg7); clear hg7
                          have HP7 := Lib.hid hp7; clear hp7
                          go_wp2_with fail
                          go_roundw
                          case rel =>
                            refine ⟨n + 1, j1 + 1, q1, .slice (some ⟨g, 0, none⟩) (n + 1) cap, cs ++ [.string X, .int .i64 k3, .int .i64 n3, .string s3, .slice A3 l3 c3, .slice B3 m3 d3], 0, 0, HP7.out, Fr.trans HG5.out HG7.out, blk_fr HG7.out (by omega) (by omega) HZ5.out, blk_fr HG7.out (by omega) (by omega) HV5.out, HO5.out.kept HG7.out (.inr (own_ne HO5.out (by omega))), by omega, by omega, .inl ⟨rfl, rfl, ns ++ [nm], av ++ [v], f'', ?_, HR6.out, by omega, by omega, by omega, ?_⟩⟩
                            · rw [List.length_append, ← HNA.out]; rfl
                            · exact HI5.out.keep (fun pp h1 h2 _ => World.cell?_of_block (HG7.out.block pp.block h2 (fun e => by have := Option.some.inj e; omega))) HG7.out.size (fun k hk => .inl hk)
                          case measure =>
                            have m2 := HP7.out.next
                            rw [HNX.out, m2]
                            omega
                        · have b2' : isM (tk ts E j1) 44 = false := by simpa using b2
                          rw [b2', if_neg (by decide)] at hM2
                          have HR6 := Lib.hid (show R = .bad (tk ts E j1).2.2.2 50 by have h := HRN.out; unfold gM at h; rw [if_neg b1, if_neg (by decide), if_neg b2] at h; exact h)
                          have HM2 := Lib.hid hM2; clear hM2 hp6 hr6 b1 b1' b2 b2'
                          go_wp2_with fail
                          refine HM2.out.mono ?_
                          rintro e w7 ⟨rfl, hg7, hp7⟩
                          have hFL := fail_any pb vL ts E j1 q1 0 50 w7 hp7 (RdT_fr HRT5.out (Nat.le_of_lt hlt5) (Fr.trans HG6.out hg7))
                          have HFL := Lib.hid hFL; clear hFL hp7
                          have HG7 := Lib.hid (Fr.trans HG6.out hg7); clear hg7
                          go_wp2_with fail
                          refine HFL.out.mono ?_
                          rintro e w8 ⟨rfl, hg8, hp8⟩
                          have HG8 := Lib.hid (Fr.trans HG7.out hg8); clear hg8
                          have HP8 := Lib.hid hp8; clear hp8
                          unfold zeroV
                          go_wp2_with fail
                          go_roundw
                          case rel =>
                            exact ⟨n + 1, j1, q1, .slice (some ⟨g, 0, none⟩) (n + 1) cap, cs ++ [.string X, .int .i64 k3, .int .i64 n3, .string s3, .slice A3 l3 c3, .slice B3 m3 d3], _, _, HP8.out, Fr.trans HG5.out HG8.out, blk_fr HG8.out (by omega) (by omega) HZ5.out, blk_fr HG8.out (by omega) (by omega) HV5.out, HO5.out.kept HG8.out (.inr (own_ne HO5.out (by omega))), by omega, by omega, .inr ⟨by decide, HR6.out⟩⟩
                          case measure =>
                            have m2 := HP8.out.next
                            rw [HNX.out, m2]
                            omega
              · have hc' : isM (tk ts E (j + 1)) 58 = false := by simpa using hc
                rw [hc', if_neg (by decide)] at hM1
                have HM1 := Lib.hid hM1; clear hM1
                have HRB := Lib.hid (show R = .bad (tk ts E (j + 1)).2.2.2 50 by rw [hR1, pM_colon h41 (by rw [← hnm]; exact hin) hc']; rfl)
                clear hR1 hin hc hc'
                go_wp2_with fail
                rw [← HWQ.out]
                refine HM1.out.mono ?_
                rintro e wn ⟨rfl, hgn, hpn⟩
                have hsn := hgn.size
                have HFL := Lib.hid (fail_any pb vL ts E (j + 1) q 0 50 wn hpn (RdT_fr HRT.out (Nat.le_of_lt hlt) (Fr.trans HGQ.out hgn)))
                have HZQ := Lib.hid (blk_fr hgn (by omega) (by omega) (blk_fr HG2Q.out (by omega) (by omega) HZ2.out))
                have HGQ2 := Lib.hid (Fr.trans HGQ.out hgn)
                clear hpn hgn
                go_wp2_with fail
                refine HFL.out.mono ?_
                rintro e wf ⟨rfl, hf3, hp3⟩
                have hz3 := blk_fr hf3 (by omega) (by omega) HZQ.out
                obtain ⟨z0, z1, z2, z3, z4⟩ := cells5 hz3
                obtain ⟨qz0, qz1, qz2, qz3, qz4⟩ := frozen5 hz3
                have HZF := Lib.hid hz3; clear hz3
                have HPF := Lib.hid hp3; clear hp3
                have HGF := Lib.hid (Fr.trans (HGQ2.out) hf3); clear hf3
                unfold zeroV
                go_wp2_with fail
                have hn : w.heap.size ≠ pb := by omega
                have R5 := set5_row HZF.out (.int .i64 0) (.int .i64 0) (.string ⟨#[]⟩) (.slice none 0 0) (.slice none 0 0)
                have P5 := set5_prs HPF.out hn (.int .i64 0) (.int .i64 0) (.string ⟨#[]⟩) (.slice none 0 0) (.slice none 0 0)
                have F5 := set5_fr HGF.out (Nat.le_refl _) (.int .i64 0) (.int .i64 0) (.string ⟨#[]⟩) (.slice none 0 0) (.slice none 0 0)
                refine bodyPost_ret (results5 rfl rfl R5) rfl ?_
                rw [HRB.out]
                exact ⟨F5, _, _, _, _, _, _, _, _, _, rfl, _, _, P5⟩
        · have b1 : (x1 != 4) = true := by rw [bne_iff_ne]; exact h4
          have HRB := Lib.hid (show R = .bad (tk ts E j).2.2.2 50 by rw [hR1, pM_syn (by rw [← hx1]; exact h4)]; rfl)
          clear hR1 hx1 h4
          go_wp2_with fail
          refine HT.out.mono ?_
          rintro e w1 ⟨rfl, hb1⟩
          obtain ⟨wt, hwt⟩ : ∃ wt, wt = w1.alloc (.cells #[.int .i64 x1, .int .i64 x2, .string X, .int .i64 x4] 44) := ⟨_, rfl⟩
          have hbt : Below wo.heap.size wo wt := by rw [hwt]; exact hb1.alloc hb1.size _
          have hst := hbt.size
          have HWT := Lib.hid hwt; clear hwt
          have HFL := Lib.hid (fail_any pb vL ts E j q 0 50 wt (HPR.out.below hbt) (RdT_fr HRT2.out (Nat.le_of_lt hltr) (Fr.of pb hbt)))
          have HZQ := Lib.hid ((hbt.block w.heap.size (by omega)).trans HZ.out)
          have HGQ2 := Lib.hid (Fr.trans HG.out (Fr.of pb hbt))
          clear hbt
          go_wp2_with fail
          rw [← HWT.out]
          refine HFL.out.mono ?_
          rintro e wf ⟨rfl, hf3, hp3⟩
          have hz3 := blk_fr hf3 (by omega) (by omega) HZQ.out
          obtain ⟨z0, z1, z2, z3, z4⟩ := cells5 hz3
          obtain ⟨qz0, qz1, qz2, qz3, qz4⟩ := frozen5 hz3
          have HZF := Lib.hid hz3; clear hz3
          have HPF := Lib.hid hp3; clear hp3
          have HGF := Lib.hid (Fr.trans (HGQ2.out) hf3); clear hf3
          unfold zeroV
          go_wp2_with fail
          have hn : w.heap.size ≠ pb := by omega
          have R5 := set5_row HZF.out (.int .i64 0) (.int .i64 0) (.string ⟨#[]⟩) (.slice none 0 0) (.slice none 0 0)
          have P5 := set5_prs HPF.out hn (.int .i64 0) (.int .i64 0) (.string ⟨#[]⟩) (.slice none 0 0) (.slice none 0 0)
          have F5 := set5_fr HGF.out (Nat.le_refl _) (.int .i64 0) (.int .i64 0) (.string ⟨#[]⟩) (.slice none 0 0) (.slice none 0 0)
          refine bodyPost_ret (results5 rfl rfl R5) rfl ?_
          rw [HRB.out]
          exact ⟨F5, _, _, _, _, _, _, _, _, _, rfl, _, _, P5⟩
      · have hyn : (y == 0) = false := by rw [beq_eq_false_iff_ne]; exact hy
        obtain ⟨A, c, rfl⟩ := own_sl hown
        obtain ⟨z0, z1, z2, z3, z4⟩ := cells5 hz
        obtain ⟨qz0, qz1, qz2, qz3, qz4⟩ := frozen5 hz
        have HZF := Lib.hid hz; clear hz
        obtain ⟨x0, x1, x2, x3, x4⟩ := cells5 hv
        have HVF := Lib.hid hv; clear hv
        have HPR := Lib.hid hpr; clear hpr
        have HG := Lib.hid hgr; clear hgr
        have HRB := Lib.hid hR1; clear hR1
        go_wp2_with fail
        have hn : w.heap.size ≠ pb := by omega
        have R5 := set5_row HZF.out (.int .i64 6) (.int .i64 0) (.string ⟨#[]⟩) (.slice none 0 0) (.slice A n c)
        have P5 := set5_prs HPR.out hn (.int .i64 6) (.int .i64 0) (.string ⟨#[]⟩) (.slice none 0 0) (.slice A n c)
        have F5 := set5_fr (HG.out) (Nat.le_refl _) (.int .i64 6) (.int .i64 0) (.string ⟨#[]⟩) (.slice none 0 0) (.slice A n c)
        refine bodyPost_ret (results5 rfl rfl R5) rfl ?_
        rw [HRB.out]
        exact ⟨F5, _, _, _, _, _, _, _, _, _, rfl, _, _, P5⟩
end Go.Proofs.YtoflogckoepioaaDoor.Re
