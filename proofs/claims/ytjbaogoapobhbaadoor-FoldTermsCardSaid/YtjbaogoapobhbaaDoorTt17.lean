/- Merged: FoC. -/
import Derived.Test.YtjbaogoapobhbaaDoorTt12
import Derived.Test.YtjbaogoapobhbaaDoorTt16
import Derived.Lib.QuietBelow
import Derived.BigQuiet
namespace Go.Proofs.YtjbaogoapobhbaaDoor.Fo
open Go.Proofs Go.RowKit
open Go.Proofs.YtjbaogoapobhbaaDoor.Utf
open Go.Proofs.YtjbaogoapobhbaaDoor.Sc
open Go.Proofs.YtjbaogoapobhbaaDoor.Po

def okT (xs : List (List UInt8)) (t : List UInt8) : Bool := xs.any fun x => hasL (low x) (low t)
theorem mat_yes {q : List UInt8} {xs T : List (List UInt8)} (hT : tms q = T) (h : ∀ j (hj : j < T.length), okT xs T[j] = true) : matS q xs = true := by
  unfold matS
  rw [hT, List.all_eq_true]
  intro t ht
  obtain ⟨j, hj, rfl⟩ := List.getElem_of_mem ht
  exact h j hj
theorem mat_no {q : List UInt8} {xs T : List (List UInt8)} (hT : tms q = T) {i : Nat} (hi : i < T.length) (h : okT xs T[i] = false) : matS q xs = false := by
  unfold matS
  rw [hT]
  exact List.all_eq_false.2 ⟨T[i], List.getElem_mem hi, by unfold okT at h; rw [h]; simp⟩
theorem trm_sz : ∀ (l : List UInt8) (m : Nat) (cur : List UInt8), ∀ t ∈ trm l m cur, t.length ≤ l.length + cur.length
  | [], m, cur, t, ht => by
    rw [trm] at ht
    split at ht
    · cases ht
    · split at ht
      · rw [List.mem_singleton] at ht; subst ht; simp
      · split at ht
        · cases ht
        · rw [List.mem_singleton] at ht; subst ht; simp
  | c :: r, m, cur, t, ht => by
    have h0 := trm_sz r 0 [] t
    have h1 := trm_sz r 1 [c] t
    have h2 := trm_sz r 2 [] t
    have h3 := trm_sz r 1 (cur ++ [c]) t
    have h4 := trm_sz r 2 (cur ++ [c]) t
    simp only [List.length_append, List.length_cons, List.length_nil] at h0 h1 h2 h3 h4 ⊢
    rw [trm] at ht
    split at ht
    · split at ht
      · have := h0 ht; omega
      · split at ht
        · have := h2 ht; omega
        · have := h1 ht; omega
    · split at ht
      · split at ht
        · rcases List.mem_cons.1 ht with rfl | ht
          · omega
          · have := h0 ht; omega
        · split at ht
          · rcases List.mem_cons.1 ht with rfl | ht
            · omega
            · have := h2 ht; omega
          · have := h3 ht; omega
      · split at ht
        · rcases List.mem_append.1 ht with ht | ht
          · split at ht
            · cases ht
            · rw [List.mem_singleton] at ht; subst ht; omega
          · have := h0 ht; omega
        · have := h4 ht; omega
theorem tms_sz {q t : List UInt8} (h : t ∈ tms q) : t.length ≤ q.length := by have := trm_sz q 0 [] t h; simpa using this
theorem rd_at {w w' : World} {v : Value} {xs : List (List UInt8)} (h : Rd w w.heap.size v (strC xs)) (hb : Below w.heap.size w w') {k : Nat} (hk : k < xs.length) : ∃ ad c, v = .slice (some ad) xs.length c ∧ w'.cell? (ad.add k) = some (.string (strOf xs[k])) := by
  obtain ⟨A, c, rfl, hA⟩ := h
  rw [strC_len] at hA ⊢
  obtain ⟨ad, rfl, hab, hx⟩ := hA (by omega)
  exact ⟨ad, c, rfl, (hb.cell (p := ad.add k) (by rw [blk_add]; exact hab)).trans (hx k _ (strC_at xs k hk))⟩
theorem rd_form {w : World} {v : Value} {xs : List (List UInt8)} (h : Rd w w.heap.size v (strC xs)) : ∃ A c, v = .slice A xs.length c := by
  obtain ⟨A, c, rfl, -⟩ := h
  exact ⟨A, c, by rw [strC_len]⟩
theorem any_take {F : List (List UInt8)} {p : List UInt8 → Bool} {k : Nat} (h : (F.take k).any p = true) : F.any p = true := by
  rw [List.any_eq_true] at h ⊢
  obtain ⟨x, hx, hp⟩ := h
  exact ⟨x, List.mem_of_mem_take hx, hp⟩
theorem any_step {F : List (List UInt8)} {p : List UInt8 → Bool} {k : Nat} (hk : k < F.length) (h : (F.take k).any p = false) : (F.take (k + 1)).any p = p F[k] := by
  rw [List.take_succ_eq_append_getElem hk, List.any_append, h]; simp
theorem ok_fold (xs : List (List UInt8)) (t : List UInt8) : (xs.map low).any (fun x => hasL x (low t)) = okT xs t := by
  unfold okT
  rw [List.any_map]; rfl

set_option maxRecDepth 100000 in
set_option maxHeartbeats 4000000 in
theorem rMatch_any (q : ByteArray) (tv : Value) (xs : List (List UInt8)) (w : World) (hv : Rd w w.heap.size tv (strC xs)) (hq : q.size ≤ 4398046511104) (hn : xs.length ≤ 4398046511104) (hx : ∀ x ∈ xs, x.length ≤ 140737488355328) :
    Calls Tryd.prog 20 #[.string q, tv] w (Gives (.bool (matS q.data.toList xs)) w) := by
  have mixed : Tryd.prog.follows .mixedOrders = true := by kernel_rfl
  obtain ⟨i1, hj, hy0, hy1, hy2⟩ := info_parts infoStr
  have HTE := Lib.hid (fun W => rTerms_any q W hq)
  obtain ⟨T, hT⟩ : ∃ T, tms q.data.toList = T := ⟨_, rfl⟩
  have HTS := Lib.hid hT
  have HTL := Lib.hid (show T.length ≤ 4398046511105 by rw [← hT]; have := trm_len q.data.toList 0 []; rw [len_data] at this; exact Nat.le_trans this (by omega))
  have HTZ := Lib.hid (show ∀ t ∈ T, t.length ≤ 140737488355328 from fun t ht => by rw [← hT] at ht; have := tms_sz ht; rw [len_data] at this; omega)
  rw [hT] at HTE
  obtain ⟨r, hr⟩ : ∃ r, matS q.data.toList xs = r := ⟨_, rfl⟩
  have HH := Lib.hid hr
  rw [hr]
  have HV := Lib.hid hv
  have HXZ := Lib.hid hx
  obtain ⟨A0, c0, rfl⟩ := rd_form hv
  obtain ⟨n, hn'⟩ : ∃ n, xs.length = n := ⟨_, rfl⟩
  have HN := Lib.hid hn'
  rw [hn'] at HV hn ⊢
  clear hT hr hv hx hq hn'
  go_enter Tryd.func20, Tryd.ntmps20
  go_wp2_with fail
  refine (HTE.out _).mono ?_
  rintro e w1 ⟨lv, rfl, hown, hb⟩
  have HLV := Lib.hid (Rd.of_own hown)
  have HB1 := Lib.hid hb
  obtain ⟨A1, c1, rfl⟩ := rd_form HLV.out
  clear hown hb HTE
  by_cases h0 : T = []
  · have HR := Lib.hid (show r = true by rw [← HH.out]; exact mat_yes HTS.out fun j hj => by rw [h0] at hj; simp at hj)
    subst h0
    rw [List.length_nil]
    go_wp2_with fail
    go_loopw [6, 7] (fun v i wr => v = .slice none 0 0 ∧ i = .int .i64 0 ∧ Aside (w1 = wr)) (fun _ _ _ => 0)
    case atStart => exact ⟨rfl, rfl, (show _ = _ from rfl)⟩
    case round =>
      obtain ⟨rfl, rfl, hw⟩ := hrel
      obtain rfl := hw.out
      clear hw
      have fin : True := trivial
      by_cases hz : 0 < n
      · have t1 : decide ((0 : Int) < (n : Int)) = true := decide_eq_true (by omega)
        have t2 : decide (0 < n) = true := decide_eq_true (by omega)
        go_wp2_with fail
        go_loopw [8] (fun i wr => i = .int .i64 0 ∧ Aside (w1 = wr)) (fun _ _ => 0)
        case atStart => exact ⟨rfl, (show _ = _ from rfl)⟩
        case round =>
          obtain ⟨rfl, hw⟩ := hrel
          obtain rfl := hw.out
          clear hw
          go_wp2_with fail
          go_ret
          exact ⟨by rw [HR.out]; rfl, HB1.out⟩
      · have t1 : decide ((0 : Int) < (n : Int)) = false := decide_eq_false (by omega)
        have t2 : decide (0 < n) = false := decide_eq_false (by omega)
        go_wp2_with fail
        go_loopw [8] (fun i wr => i = .int .i64 0 ∧ Aside (w1 = wr)) (fun _ _ => 0)
        case atStart => exact ⟨rfl, (show _ = _ from rfl)⟩
        case round =>
          obtain ⟨rfl, hw⟩ := hrel
          obtain rfl := hw.out
          clear hw
          go_wp2_with fail
          go_ret
          exact ⟨by rw [HR.out]; rfl, HB1.out⟩
  · have h0' : 0 < T.length := List.length_pos_iff.2 h0
    obtain ⟨tl, htl⟩ : ∃ tl, T.length = tl := ⟨_, rfl⟩
    have HTN := Lib.hid htl
    rw [htl] at h0' HLV ⊢
    have p1 : decide ((tl : Int) > 0) = true := decide_eq_true (by omega)
    have p2 : decide ((0 : Int) < (tl : Int)) = true := decide_eq_true (by omega)
    have p3 : decide (0 < tl) = true := decide_eq_true h0'
    have tl9 : tl ≤ 4398046511105 := by rw [← htl]; exact HTL.out
    clear h0 htl
    go_wp2_with fail
    go_loopw [6, 7] (fun v i wr => ∃ k : Nat, i = .int .i64 (k : Int) ∧ k ≤ n ∧ Aside (wr.ownsRow w1.heap.size 9 1 v k (strC ((xs.take k).map low))) ∧ Aside (Below w1.heap.size w1 wr)) (fun _ i _ => n - (intOf i).toNat)
    case atStart => exact ⟨0, rfl, by omega, (show World.ownsRow _ _ _ _ _ _ _ from World.ownsRow_nil _ _ _ _), (show Below _ _ _ from Below.refl _ _)⟩
    case round =>
      obtain ⟨k, rfl, hk, hrow, hbel⟩ := hrel
      have hown := hrow.out
      have HB := Lib.hid hbel.out
      have HBS := Lib.hid hbel.out.size
      clear hrow hbel
      by_cases hlt : k < n
      · have t1 : decide ((k : Int) < (n : Int)) = true := decide_eq_true (by omega)
        have t2 : decide (k < n) = true := decide_eq_true (by omega)
        have t3 : (0 : Int) ≤ (k : Int) := by omega
        have t4 : (k : Int) < (n : Int) := by omega
        have t5 : ((k : Int)).toNat = k := by omega
        have hkx : k < xs.length := by rw [HN.out]; exact hlt
        have HBW := Lib.hid (HB1.out.trans (HB.out.mono HB1.out.size))
        have hvv := HV.out
        rw [← HN.out] at hvv
        obtain ⟨ad, cz, hadr, hcell⟩ := rd_at hvv HBW.out hkx
        injection hadr with ha1 ha2 ha3
        subst ha1
        have HTK := Lib.hid (show (xs.take (k + 1)).map low = (xs.take k).map low ++ [low xs[k]] by rw [List.take_succ_eq_append_getElem hkx, List.map_append]; rfl)
        have HF := Lib.hid (fun W => rFold_any (strOf xs[k]) W (by rw [strOf_size]; exact HXZ.out _ (List.getElem_mem hkx)))
        rw [strOf_data] at HF
        obtain ⟨X, hX⟩ : ∃ X, strOf xs[k] = X := ⟨_, rfl⟩
        obtain ⟨Y, hY⟩ : ∃ Y, strOf (low xs[k]) = Y := ⟨_, rfl⟩
        have HYY := Lib.hid hY
        rw [hX, hY] at HF
        rw [hX] at hcell
        clear hX hY ha2 ha3 hvv
        go_wp2_with fail
        refine (HF.out _).mono ?_
        rintro e w4 ⟨rfl, hb4⟩
        have HB4 := Lib.hid (HB.out.trans (hb4.mono HBS.out))
        have HBS4 := Lib.hid HB4.out.size
        have hown4 := own_below hown hb4
        clear hb4 hcell hown
        go_wp2_with (at_builtin; refine wpList_append_lies _ rfl _ _ 26 rfl w1.heap.size 9 i1 _ 1 16 Tryd.underlying26 hj hy0 hy1 hy2 (by rfl) (by decide) u6 k (strC ((xs.take k).map low)) rfl (hown4.alloc _) ⟨w4.heap.size, 0, none⟩ 1 1 [.string Y] rfl rfl (cells_new _ _ _) ?_ ?_ ?_ ?_ ?_ _ rfl ?_; (intro u hu; simp at hu; subst hu; rfl); omega; (unfold maxLen; omega); omega; (have := HBS4.out; simp; omega); intro g cap w5 hown5 hg5 hat hgl)
        have HO5 := Lib.hid (show w5.ownsRow w1.heap.size 9 1 (.slice (some ⟨g, 0, none⟩) (k + 1) cap) (k + 1) (strC ((xs.take (k + 1)).map low)) by
          rw [HTK.out]
          unfold strC at hown5 ⊢
          rw [List.map_append, List.map_cons, List.map_nil, HYY.out]
          exact hown5)
        have HB5 := Lib.hid (show Below w1.heap.size w1 w5 from (HB4.out.alloc HBS4.out _).grown hg5 (by have := HBS4.out; simp; omega) (fun k hk => (hown4.lt k hk).1))
        clear hown4 hown5 hg5 hat
        go_wp2_with fail
        go_roundw
        case rel => exact ⟨k + 1, by go_num, by omega, HO5.out, HB5.out⟩
        case measure => simp [intOf]; omega
      · have t1 : decide ((k : Int) < (n : Int)) = false := decide_eq_false (by omega)
        have t2 : decide (k < n) = false := decide_eq_false (by omega)
        obtain rfl : n = k := by omega
        rw [List.take_of_length_le (by rw [HN.out]; omega)] at hown
        obtain ⟨F, hF⟩ : ∃ F, xs.map low = F := ⟨_, rfl⟩
        have HFF := Lib.hid hF
        have HFL := Lib.hid (show F.length = n by rw [← hF, List.length_map]; exact HN.out)
        rw [hF] at hown
        have HFR := Lib.hid (Rd.of_own hown)
        obtain ⟨A2, c2, rfl⟩ : ∃ A c, u6 = .slice A n c := by
          obtain ⟨A, c, e⟩ := rd_form HFR.out
          exact ⟨A, c, by rw [e, HFL.out]⟩
        have HB2 := Lib.hid (HB1.out.trans (HB.out.mono HB1.out.size))
        obtain ⟨w2, hw2⟩ : ∃ w2, w2 = wr := ⟨_, rfl⟩
        rw [← hw2] at HFR HB2 HB HBS ⊢
        clear hown hF hw2
        go_wp2_with fail
        go_loopw [8] (fun i wr => ∃ j : Nat, i = .int .i64 (j : Int) ∧ j ≤ tl ∧ Aside (∀ a (h : a < T.length), a < j → okT xs T[a] = true) ∧ Aside (Below w2.heap.size w2 wr)) (fun i _ => tl - (intOf i).toNat)
        case atStart => exact ⟨0, rfl, by omega, (show ∀ _ _ _, _ from fun a h1 h2 => by omega), (show Below _ _ _ from Below.refl _ _)⟩
        case round =>
          obtain ⟨i, rfl, hi, hok, hbw⟩ := hrel
          have HOK := Lib.hid hok.out
          have HW0 := Lib.hid hbw.out
          clear hok hbw
          by_cases hit : i < tl
          · have s1 : decide ((i : Int) < (tl : Int)) = true := decide_eq_true (by omega)
            have s2 : decide (i < tl) = true := decide_eq_true (by omega)
            have s3 : (0 : Int) ≤ (i : Int) := by omega
            have s4 : (i : Int) < (tl : Int) := by omega
            have s5 : ((i : Int)).toNat = i := by omega
            have hil : i < T.length := by rw [HTN.out]; exact hit
            obtain ⟨t, ht⟩ : ∃ t, T[i] = t := ⟨_, rfl⟩
            have HTT := Lib.hid ht
            have HOT := Lib.hid (ok_fold xs T[i])
            rw [HFF.out] at HOT
            have HTB := Lib.hid (HTZ.out _ (List.getElem_mem hil))
            rw [ht] at HOT HTB
            clear ht
            go_wp2_with fail
            go_loopw [9, 10] (fun b k wr => ∃ (x : Bool) (j : Nat), b = .bool x ∧ k = .int .i64 (j : Int) ∧ j ≤ n ∧ Aside ((F.take j).any (fun x => hasL x (low t)) = x) ∧ Aside (Below w2.heap.size w2 wr)) (fun _ k _ => n - (intOf k).toNat)
            case atStart => exact ⟨false, 0, rfl, rfl, by omega, (show _ = _ from rfl), (show Below _ _ _ from HW0.out)⟩
            case round =>
              obtain ⟨x, j, rfl, rfl, hjn, hany, hbw⟩ := hrel
              have HA := Lib.hid hany.out
              have HW := Lib.hid hbw.out
              clear hany hbw
              by_cases hjt : j < n
              · have m1 : decide ((j : Int) < (n : Int)) = true := decide_eq_true (by omega)
                have m2 : decide (j < n) = true := decide_eq_true (by omega)
                have m3 : (0 : Int) ≤ (j : Int) := by omega
                have m4 : (j : Int) < (n : Int) := by omega
                have m5 : ((j : Int)).toNat = j := by omega
                cases x with
                | true =>
                  have HY := Lib.hid (show okT xs T[i] = true by rw [HTT.out, ← HOT.out]; exact any_take HA.out)
                  clear HA
                  have HOK2 := Lib.hid (show ∀ j (h : j < T.length), j < i + 1 → okT xs T[j] = true from fun j hj hji => by
                    by_cases e : j = i
                    · subst e; exact HY.out
                    · exact HOK.out j hj (by omega))
                  clear HY
                  go_wp2_with fail
                  go_roundw
                  case rel => exact ⟨i + 1, by go_num, by omega, HOK2.out, HW.out⟩
                  case measure => simp [intOf]; omega
                | false =>
                  have hjf : j < F.length := by rw [HFL.out]; exact hjt
                  have HST := Lib.hid (any_step hjf HA.out)
                  have hfr := HFR.out
                  rw [← HFL.out] at hfr
                  obtain ⟨fd, cf, hfd, hfc⟩ := rd_at hfr HW.out hjf
                  injection hfd with hf1 hf2 hf3
                  subst hf1
                  have hlr := HLV.out
                  rw [← HTN.out] at hlr
                  obtain ⟨ld, cl, hld, hlc⟩ := rd_at hlr (HB.out.trans (HW.out.mono HBS.out)) hil
                  injection hld with hl1 hl2 hl3
                  subst hl1
                  rw [HTT.out] at hlc
                  have HF := Lib.hid (fun W => rFold_any (strOf t) W (by rw [strOf_size]; exact HTB.out))
                  rw [strOf_data] at HF
                  have HI := Lib.hid (fun W => rIn_any F[j] (low t) W (by
                    have : F[j] ∈ xs.map low := by rw [HFF.out]; exact List.getElem_mem hjf
                    obtain ⟨x, hx, e⟩ := List.mem_map.1 this
                    rw [← e, low_len]; exact HXZ.out x hx) (by rw [low_len]; exact HTB.out))
                  obtain ⟨y, hy⟩ : ∃ y, hasL F[j] (low t) = y := ⟨_, rfl⟩
                  have HYY := Lib.hid hy
                  rw [hy] at HI
                  have HA2 := Lib.hid (show (F.take (j + 1)).any (fun x => hasL x (low t)) = y by rw [HST.out]; exact hy)
                  generalize strOf F[j] = X at *
                  generalize strOf t = Z at *
                  generalize strOf (low t) = L at *
                  have r0 := cell_regrown hfc
                  have r1 := cell_regrown hlc
                  have cF : ∀ d os, Calls Tryd.prog 11 #[.string Z] (Go.Sort.grow (redrawn wr d) os) fun e w2 => e = .returned (.string L) ∧ ∃ p : Regrown, w2 = Go.Sort.grow (redrawn wr p.d) p.os := fun d os => Calls.regrown_of (HF.out _)
                  have cI : ∀ d os, Calls Tryd.prog 23 #[.string X, .string L] (Go.Sort.grow (redrawn wr d) os) fun e w2 => e = .returned (.bool y) ∧ ∃ p : Regrown, w2 = Go.Sort.grow (redrawn wr p.d) p.os := fun d os => Calls.regrown_of ((HI.out _).mono (by rintro e w' ⟨rfl, rfl⟩; exact ⟨rfl, Below.refl _ _⟩))
                  clear hfr hlr hf2 hf3 hl2 hl3 hy hfc hlc
                  go_wp2_with fail
                  refine wp_region_quiet_below (by kernel_rfl) (by kernel_rfl) ?_
                  repeat (go_big_quiet_step (first | exact cF _ _ | exact cI _ _))
                  refine wpQuiet_nil ?_
                  intro _ hw'
                  obtain ⟨⟨dq, osq⟩, hw2⟩ := hw'
                  subst hw2
                  clear r0 r1 cF cI
                  go_wp2
                  go_roundw
                  case rel => exact ⟨y, j + 1, rfl, by go_num, by omega, HA2.out, (show Below _ _ _ from HW.out.trans ((below_regrown wr dq osq).mono HW.out.size))⟩
                  case measure => simp [intOf]; omega
              · have m1 : decide ((j : Int) < (n : Int)) = false := decide_eq_false (by omega)
                have m2 : decide (j < n) = false := decide_eq_false (by omega)
                obtain rfl : n = j := by omega
                have HA3 := Lib.hid (show okT xs T[i] = x by rw [HTT.out, ← HOT.out]; have h := HA.out; rwa [List.take_of_length_le (by rw [HFL.out]; exact Nat.le_refl _)] at h)
                clear HA
                cases x with
                | true =>
                  have HY := HA3
                  clear HA3
                  have HOK2 := Lib.hid (show ∀ j (h : j < T.length), j < i + 1 → okT xs T[j] = true from fun j hj hji => by
                    by_cases e : j = i
                    · subst e; exact HY.out
                    · exact HOK.out j hj (by omega))
                  clear HY
                  go_wp2_with fail
                  go_roundw
                  case rel => exact ⟨i + 1, by go_num, by omega, HOK2.out, HW.out⟩
                  case measure => simp [intOf]; omega
                | false =>
                  have HY := HA3
                  clear HA3
                  have HR := Lib.hid (show r = false by rw [← HH.out]; exact mat_no HTS.out hil HY.out)
                  clear HY
                  go_wp2_with fail
                  go_ret
                  exact ⟨by rw [HR.out]; rfl, HB2.out.trans (HW.out.mono HB2.out.size)⟩
          · have s1 : decide ((i : Int) < (tl : Int)) = false := decide_eq_false (by omega)
            have s2 : decide (i < tl) = false := decide_eq_false (by omega)
            have HR := Lib.hid (show r = true by rw [← HH.out]; exact mat_yes HTS.out fun a ha => HOK.out a ha (by rw [HTN.out] at ha; omega))
            go_wp2_with fail
            go_ret
            exact ⟨by rw [HR.out]; rfl, HB2.out.trans (HW0.out.mono HB2.out.size)⟩
end Go.Proofs.YtjbaogoapobhbaaDoor.Fo
