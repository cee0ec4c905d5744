/- Merged: FoAw FoW0 FoW4. -/
import Derived.Test.YtjbaogoapobhbaaDoorTt20
import Derived.Test.YtjbaogoapobhbaaDoorTt16
import Derived.Laws.Concat
namespace Go.Proofs.YtjbaogoapobhbaaDoor.Fo
open Go.Proofs Go.RowKit
open Go.Proofs.YtjbaogoapobhbaaDoor.Utf
open Go.Proofs.YtjbaogoapobhbaaDoor.Sc
open Go.Proofs.YtjbaogoapobhbaaDoor.Po

theorem lit_rd (w : World) (xs : List (List UInt8)) (cs : Array Value) (n : Nat) (hn : xs.length = n) (h : cs.toList = strC xs) : Rd (w.alloc (.cells cs 9)) (w.alloc (.cells cs 9)).heap.size (.slice (some ⟨w.heap.size, 0, none⟩) n n) (strC xs) := by
  subst hn
  refine ⟨some ⟨w.heap.size, 0, none⟩, xs.length, by rw [strC_len], fun _ => ⟨_, rfl, by show w.heap.size < _; simp, fun j u hu => ?_⟩⟩
  exact cells_new w 9 cs j u (by rw [h]; exact hu)
set_option maxRecDepth 100000 in
set_option maxHeartbeats 1000000 in
theorem awake_any16 (w : World) (hm : Mx w) : Calls Tryd.prog 9 #[] w fun e w' => e = .returned (.bool true) ∧ Below w.heap.size w w' := by
  have C1 := Lib.hid (fun W => pTerms_any ⟨#[97, 100, 97, 32, 34, 103, 114, 97, 99, 101, 32, 104, 111, 112, 112, 101, 114, 34, 120]⟩ W (by decide))
  rw [show tms (⟨#[97, 100, 97, 32, 34, 103, 114, 97, 99, 101, 32, 104, 111, 112, 112, 101, 114, 34, 120]⟩ : ByteArray).data.toList = [[97, 100, 97], [103, 114, 97, 99, 101, 32, 104, 111, 112, 112, 101, 114], [120]] from by decide +kernel] at C1
  have C2 := Lib.hid (fun (tv : Value) (W : World) (hv : Rd W W.heap.size tv (strC [[71, 114, 97, 99, 101, 32, 72, 111, 112, 112, 101, 114], [65, 100, 97, 32, 76]])) (hb : Below w.heap.size w W) => pMatch_any ⟨#[65, 68, 65, 32, 104, 111, 112]⟩ tv [[71, 114, 97, 99, 101, 32, 72, 111, 112, 112, 101, 114], [65, 100, 97, 32, 76]] W hv (by decide) (by decide) (by decide) (.inl ⟨hm.keep hb, by decide⟩))
  rw [show matS (⟨#[65, 68, 65, 32, 104, 111, 112]⟩ : ByteArray).data.toList [[71, 114, 97, 99, 101, 32, 72, 111, 112, 112, 101, 114], [65, 100, 97, 32, 76]] = true from by decide +kernel] at C2
  have C3 := Lib.hid (fun W => pCompare_any ⟨#[66]⟩ ⟨#[97]⟩ W (by decide) (by decide))
  rw [show cmpF (⟨#[66]⟩ : ByteArray).data.toList (⟨#[97]⟩ : ByteArray).data.toList = 1 from by decide +kernel] at C3
  have C4 := Lib.hid (fun W => pFold_any ⟨#[97, 66, 195, 137]⟩ W (by decide))
  rw [show low (⟨#[97, 66, 195, 137]⟩ : ByteArray).data.toList = [97, 98, 195, 137] from by decide +kernel] at C4
  have C5 := Lib.hid (fun W (hb : Below w.heap.size w W) => pHas_any ⟨#[97, 98]⟩ ⟨#[99]⟩ W (by decide) (by decide) (hm.keep hb))
  rw [show hasL (low (⟨#[97, 98]⟩ : ByteArray).data.toList) (low (⟨#[99]⟩ : ByteArray).data.toList) = false from by decide +kernel] at C5
  obtain ⟨X, hX⟩ : ∃ X, strOf [97, 98, 195, 137] = X := ⟨_, rfl⟩
  have x1 : (X.toList == [97, 98, 195, 137]) = true := by rw [← hX, strOf_list]; rfl
  have x2 : X.toList = [97, 98, 195, 137] := by rw [← hX, strOf_list]
  rw [hX] at C4
  clear hX
  go_enter Tryd.func9, Tryd.ntmps9
  go_wp2_with fail
  refine (C1.out _).mono ?_
  rintro e w1 ⟨tv, rfl, hown, hb1⟩
  have HR1 := Lib.hid (Rd.of_own hown)
  have HB1 := Lib.hid hb1
  clear hown hb1
  obtain ⟨W2, hW2⟩ : ∃ W2, W2 = w1.alloc (.cells #[.string ⟨#[97, 100, 97]⟩, .string ⟨#[103, 114, 97, 99, 101, 32, 104, 111, 112, 112, 101, 114]⟩, .string ⟨#[120]⟩] 9) := ⟨_, rfl⟩
  have HL2 := Lib.hid (lit_rd w1 [[97, 100, 97], [103, 114, 97, 99, 101, 32, 104, 111, 112, 112, 101, 114], [120]] #[.string ⟨#[97, 100, 97]⟩, .string ⟨#[103, 114, 97, 99, 101, 32, 104, 111, 112, 112, 101, 114]⟩, .string ⟨#[120]⟩] 3 rfl rfl)
  rw [← hW2] at HL2
  have hb2 : Below w1.heap.size w1 W2 := by rw [hW2]; exact (Below.refl _ _).alloc (Nat.le_refl _) _
  have HR2 := Lib.hid ((HR1.out.below hb2).more hb2.size)
  have HB2 := Lib.hid (HB1.out.trans (hb2.mono HB1.out.size))
  have HW2 := Lib.hid hW2
  clear hW2 hb2
  go_wp2_with fail
  rw [← HW2.out]
  refine (SameParts_any _ _ _ _ W2 HR2.out HL2.out (by decide)).mono ?_
  rintro e w3 ⟨⟨x, rfl, hx⟩, hb3⟩
  obtain rfl : x = true := hx.2 rfl
  have HB3 := Lib.hid (HB2.out.trans (hb3.mono HB2.out.size))
  clear hx hb3
  obtain ⟨W4, hW4⟩ : ∃ W4, W4 = w3.alloc (.cells #[.string ⟨#[71, 114, 97, 99, 101, 32, 72, 111, 112, 112, 101, 114]⟩, .string ⟨#[65, 100, 97, 32, 76]⟩] 9) := ⟨_, rfl⟩
  have HL4 := Lib.hid (lit_rd w3 [[71, 114, 97, 99, 101, 32, 72, 111, 112, 112, 101, 114], [65, 100, 97, 32, 76]] #[.string ⟨#[71, 114, 97, 99, 101, 32, 72, 111, 112, 112, 101, 114]⟩, .string ⟨#[65, 100, 97, 32, 76]⟩] 2 rfl rfl)
  rw [← hW4] at HL4
  have HB4 := Lib.hid (show Below w.heap.size w W4 by rw [hW4]; exact HB3.out.alloc HB3.out.size _)
  have HW4 := Lib.hid hW4
  clear hW4
  go_wp2_with fail
  rw [← HW4.out]
  refine (C2.out _ W4 HL4.out HB4.out).mono ?_
  rintro e w5 ⟨rfl, hb⟩
  have HB5 := Lib.hid (HB4.out.trans (hb.mono HB4.out.size))
  clear hb
  go_wp2_with fail
  refine (C3.out _).mono ?_
  rintro e w6 ⟨rfl, hb⟩
  have HB6 := Lib.hid (HB5.out.trans (hb.mono HB5.out.size))
  clear hb
  go_wp2_with fail
  refine (C4.out _).mono ?_
  rintro e w7 ⟨rfl, hb⟩
  have HB7 := Lib.hid (HB6.out.trans (hb.mono HB6.out.size))
  clear hb
  go_wp2_with fail
  refine (C5.out _ HB7.out).mono ?_
  rintro e w8 ⟨rfl, hb⟩
  have HB8 := Lib.hid (HB7.out.trans (hb.mono HB7.out.size))
  clear hb
  go_wp2_with fail
  go_ret
  exact ⟨rfl, HB8.out⟩
end Go.Proofs.YtjbaogoapobhbaaDoor.Fo
namespace Go.Proofs.YtjbaogoapobhbaaDoor.Fo
open Go.Proofs Go.RowKit
open Go.Proofs.YtjbaogoapobhbaaDoor.Utf
open Go.Proofs.YtjbaogoapobhbaaDoor.Sc
open Go.Proofs.YtjbaogoapobhbaaDoor.Po

theorem sum_of (X Y : ByteArray) (h : X.size + Y.size ≤ 9223372036854775807) (w : World) : (Op.stringOp .add X Y).run Tryd.prog w = .ok (.string (strOf (X.data.toList ++ Y.data.toList))) w := by
  have e1 : X = strOf X.data.toList := rfl
  have e2 : Y = strOf Y.data.toList := rfl
  rw [run_string_add_sum w _ _ h]
  conv => lhs; rw [e1, e2]
  unfold strOf; rw [ByteArray.mk_append_mk]
section
variable {P : Program} {ops : Array Oper} {Q : Exit → Act → World → Prop} {a : Act} {w : World} {rest : List Oper} {o : Oper}
theorem wpl_wanted (hg : Region.wanted o (yielded ops a.tmps) = true) (h : ∀ K : Act → World → Prop, (∀ a w, wpList P ops Q rest a w → K a w) → o.wp P a w K Q) : wpList P ops Q (o :: rest) a w :=
  wpList_step fun K hK => by rw [if_pos hg]; exact h K hK
theorem append_any_g (hg : Region.wanted o (yielded ops a.tmps) = true) (s x : Operand) (t : TypeId)
    (ho : o.op = .call { callee := .builtin .append, args := #[s, x], argTypes := #[t, t] }) (base : Nat) (e : TypeId) (i : TypeInfo) (z : Value) (size bytes : Nat) (ht : P.underlying t = some (.slice e)) (hi : P.info? e = some i) (hz : i.zero = some z)
    (hsize : i.size = size) (hby : i.bytes = bytes) (hzs : z.cells.size = size) (hsz : 0 < size) (v : Value) (n : Nat) (xs : List Value) (hs : a.eval s = v) (hown : w.ownsRow base e size v n xs)
    (A : Option Addr) (m c : Nat) (news : List Value) (hx : a.eval x = .slice A m c) (hl : news.length = m * size) (hA : A = none → m = 0) (hnews : ∀ ad, A = some ad → ∀ j u, news[j]? = some u → w.cell? (ad.add j) = some u) (h1 : ∀ u ∈ news, u.oneCell' = true)
    (h63 : n + m ≤ maxLen) (hbytes : (n + m) * bytes ≤ 140737488355328) (hbase : base ≤ w.heap.size)
    (h : ∀ v' w', w'.ownsRow base e size v' (n + m) (xs ++ news) → w.grownBy w' v.ownBlock → wpList P ops Q rest (a.put o.dst v') w') : wpList P ops Q (o :: rest) a w := by
  refine wpl_wanted hg fun K hK => ?_
  cases A with
  | some ad =>
    obtain ⟨v', w', hr, h2, h3, h4⟩ := run_append_own (P := P) w base t o.type e i z size bytes ht hi hz hsize hby hzs hsz v n xs hown ad m c news hl (hnews ad rfl) h1 h63 hbytes hbase
    unfold Oper.wp execOp
    simp only [ho, resolve, invoke, builtin, Sem.run_bind, Sem.run_pure, Result.andThen_ok, List.map_toArray, List.map_cons, List.map_nil, hs, hx, hr]
    exact hK _ _ (h v' w' h2 h3)
  | none =>
    obtain rfl := hA rfl
    have hn : news = [] := List.eq_nil_of_length_eq_zero (by omega)
    subst hn
    have hrun : (Builtin.append_ #[t, t] o.type #[v, .slice none 0 c]).run P w = .ok v w := by
      rcases hown.2 with ⟨rfl, rfl⟩ | ⟨g, cap, cur, rfl, _, _, hnc, _⟩
      · simp [Builtin.append_, run_underlying ht, sizeOf, typeInfo, hi, Builtin.lenOf, Builtin.firstCells]
      · simp [Builtin.append_, run_underlying ht, sizeOf, typeInfo, hi, Builtin.lenOf, Builtin.firstCells, hnc, storeCells]
    unfold Oper.wp
    simp [execOp, ho, resolve, invoke, builtin, hs, hx, hrun, Result.andThen]
    exact hK _ _ (h v w (by simpa using hown) (World.grownBy.refl w _))
end
theorem strC_one (ps : List (List UInt8)) : ∀ u ∈ strC ps, u.oneCell' = true := by
  intro u hu
  unfold strC at hu
  obtain ⟨p, -, rfl⟩ := List.mem_map.1 hu
  rfl
theorem rd_open {w : World} {v : Value} {xs : List (List UInt8)} (h : Rd w w.heap.size v (strC xs)) : ∃ A c, v = .slice A xs.length c ∧ (A = none → xs.length = 0) ∧ ∀ ad, A = some ad → ∀ j u, (strC xs)[j]? = some u → w.cell? (ad.add j) = some u := by
  obtain ⟨A, c, rfl, hA⟩ := h
  rw [strC_len] at hA ⊢
  refine ⟨A, c, rfl, fun e => ?_, fun ad e j u hu => ?_⟩
  · rcases Nat.eq_zero_or_pos xs.length with h0 | h0
    · exact h0
    · obtain ⟨ad, e2, -⟩ := hA h0
      rw [e] at e2; cases e2
  · have hj := (List.getElem?_eq_some_iff.1 hu).1
    rw [strC_len] at hj
    obtain ⟨ad2, e2, -, hx⟩ := hA (by omega)
    rw [e] at e2
    injection e2 with e2
    subst e2
    exact hx j u hu
end Go.Proofs.YtjbaogoapobhbaaDoor.Fo
namespace Go.Proofs.YtjbaogoapobhbaaDoor.Fo
open Go.Proofs Go.RowKit
open Go.Proofs.YtjbaogoapobhbaaDoor.Utf
open Go.Proofs.YtjbaogoapobhbaaDoor.Sc
open Go.Proofs.YtjbaogoapobhbaaDoor.Po

theorem qts_app (a b : List UInt8) : qts (a ++ b) = qts a + qts b := by unfold qts; rw [List.filter_append, List.length_append]
theorem qts_step (p : ByteArray) (k : Nat) (h : k < p.size) : qts (p.data.toList.take (k + 1)) = qts (p.data.toList.take k) + (if p[k].toNat = 34 then 1 else 0) := by
  have hk : k < p.data.toList.length := by rw [len_data]; exact h
  rw [List.take_succ_eq_append_getElem hk, qts_app]
  congr 1
  have e : p.data.toList[k] = p[k] := rfl
  rw [e, qts_cons]
  have : p[k] = 34 ↔ p[k].toNat = 34 := by rw [← UInt8.toNat_inj]; rfl
  simp only [this]
  rfl
set_option maxRecDepth 100000 in
set_option maxHeartbeats 2000000 in
theorem joined_walk (p q : ByteArray) (w : World) (hp : p.size ≤ maxLen) (_hq : q.size ≤ maxLen) (hm : Mx w) :
    Calls Tryd.prog 6 #[.string p, .string q] w fun e w' => e = .returned (.bool true) ∧ Below w.heap.size w w' := by
  have HB0 := Lib.hid (Below.refl w.heap.size w)
  have HMX := Lib.hid hm
  clear hm
  obtain ⟨i1, hj, hy0, hy1, hy2⟩ := info_parts infoStr
  go_enter Tryd.func6, Tryd.ntmps6
  go_wp2_with fail
  go_loopw [5, 6] (fun s i wr => ∃ (m k : Nat), s = .int .i64 (m : Int) ∧ i = .int .i64 (k : Int) ∧ k ≤ p.size ∧ m ≤ k ∧ Aside (qts (p.data.toList.take k) = m) ∧ Aside (w = wr)) (fun _ i _ => p.size - (RowKit.intOf i).toNat)
  case atStart => exact ⟨0, 0, rfl, rfl, by omega, by omega, (show _ = _ from rfl), (show _ = _ from rfl)⟩
  case round =>
    obtain ⟨m, k, rfl, rfl, hk, hmk, hqs, hw⟩ := hrel
    obtain rfl := hw.out
    have HQ := Lib.hid hqs.out
    clear hw hqs
    have hp9 : p.size ≤ 9223372036854775807 := hp
    by_cases hkn : k < p.size
    · have t1 : decide ((k : Int) < (p.size : Int)) = true := decide_eq_true (by omega)
      have t2 : decide (k < p.size) = true := decide_eq_true (by omega)
      have t3 : (0 : Int) ≤ (k : Int) := by omega
      have t4 : (k : Int) < (p.size : Int) := by omega
      have t5 : ((k : Int)).toNat = k := by omega
      have HST := Lib.hid (qts_step p k hkn)
      rw [HQ.out] at HST
      by_cases hc : (p[k].toNat : Int) = 34
      · have c1 : ((p[k].toNat : Int) == 34) = true := by rw [beq_iff_eq]; exact hc
        have HQ2 := Lib.hid (show qts (p.data.toList.take (k + 1)) = m + 1 by rw [HST.out, if_pos (by omega)])
        clear HST
        go_wp2_with fail
        go_roundw
        case rel => exact ⟨m + 1, k + 1, by go_num, by go_num, by omega, by omega, HQ2.out, (by trivial)⟩
        case measure => simp [RowKit.intOf]; omega
      · have c1 : ((p[k].toNat : Int) == 34) = false := beq_eq_false_iff_ne.2 hc
        have HQ2 := Lib.hid (show qts (p.data.toList.take (k + 1)) = m by rw [HST.out, if_neg (by omega)]; rfl)
        clear HST
        go_wp2_with fail
        go_roundw
        case rel => exact ⟨m, k + 1, rfl, by go_num, by omega, by omega, HQ2.out, (by trivial)⟩
        case measure => simp [RowKit.intOf]; omega
    · have t1 : decide ((k : Int) < (p.size : Int)) = false := decide_eq_false (by omega)
      have t2 : decide (k < p.size) = false := decide_eq_false (by omega)
      by_cases hr : m % 2 = 0
      · have r1 : ((m : Int) % 2) = 0 := by omega
        have r2 : (m : Int).tmod 2 = 0 := by rw [Int.tmod_eq_emod_of_nonneg (by omega)]; omega
        have r3 : m % 2 = 0 := by omega
        by_cases h5 : 5000 < p.size
        · have g1 : decide ((p.size : Int) > 5000) = true := decide_eq_true (by omega)
          have g2 : decide ((5000 : Int) < (p.size : Int)) = true := decide_eq_true (by omega)
          have g3 : decide (5000 < p.size) = true := decide_eq_true (by omega)
          go_wp2_with fail
          refine (awake_any16 _ (HMX.out.keep HB0.out)).mono ?_
          rintro e w1 ⟨rfl, hb⟩
          have HB1 := Lib.hid (HB0.out.trans (hb.mono HB0.out.size))
          clear hb
          go_wp2_with fail
          go_ret
          exact ⟨rfl, HB1.out⟩
        · have g1 : decide ((p.size : Int) > 5000) = false := decide_eq_false (by omega)
          have g2 : decide ((5000 : Int) < (p.size : Int)) = false := decide_eq_false (by omega)
          have g3 : decide (5000 < p.size) = false := decide_eq_false (by omega)
          by_cases h6 : 5000 < q.size
          · have h1 : decide ((q.size : Int) > 5000) = true := decide_eq_true (by omega)
            have h2 : decide ((5000 : Int) < (q.size : Int)) = true := decide_eq_true (by omega)
            have h3 : decide (5000 < q.size) = true := decide_eq_true (by omega)
            go_wp2_with fail
            refine (awake_any16 _ (HMX.out.keep HB0.out)).mono ?_
            rintro e w1 ⟨rfl, hb⟩
            have HB1 := Lib.hid (HB0.out.trans (hb.mono HB0.out.size))
            clear hb
            go_wp2_with fail
            go_ret
            exact ⟨rfl, HB1.out⟩
          · have h1 : decide ((q.size : Int) > 5000) = false := decide_eq_false (by omega)
            have h2 : decide ((5000 : Int) < (q.size : Int)) = false := decide_eq_false (by omega)
            have h3 : decide (5000 < q.size) = false := decide_eq_false (by omega)
            have HJ := Lib.hid (tms_join (p := p.data.toList) (by have h := HQ.out; rw [List.take_of_length_le (by rw [len_data]; omega)] at h; rw [h]; exact hr) q.data.toList)
            have C1 := Lib.hid (fun W => pTerms_any (strOf (p.data.toList ++ [32] ++ q.data.toList)) W (by rw [strOf_size, List.length_append, List.length_append, len_data, len_data]; simp; omega))
            rw [strOf_data, List.append_assoc, List.singleton_append, HJ.out] at C1
            have C2 := Lib.hid (fun W => pTerms_any p W (by omega))
            have C3 := Lib.hid (fun W => pTerms_any q W (by omega))
            have HLP := Lib.hid (show (tms p.data.toList).length ≤ 5001 by have := trm_len p.data.toList 0 []; rw [len_data] at this; exact Nat.le_trans this (by omega))
            have HLQ := Lib.hid (show (tms q.data.toList).length ≤ 5001 by have := trm_len q.data.toList 0 []; rw [len_data] at this; exact Nat.le_trans this (by omega))
            have s1 := sum_of p ⟨#[32]⟩ (by show p.size + 1 ≤ _; omega)
            rw [show (⟨#[32]⟩ : ByteArray).data.toList = [32] from rfl] at s1
            have s2 := sum_of (strOf (p.data.toList ++ [32])) q (by rw [strOf_size, List.length_append, len_data]; simp; omega)
            rw [strOf_data, List.append_assoc, List.singleton_append] at s2
            generalize strOf (p.data.toList ++ [32]) = U at *
            generalize strOf (p.data.toList ++ 32 :: q.data.toList) = Z at *
            generalize tms p.data.toList = TP at *
            generalize tms q.data.toList = TQ at *
            clear HQ HJ
            go_wp2_with fail
            refine (awake_any16 _ (HMX.out.keep HB0.out)).mono ?_
            rintro e w1 ⟨rfl, hb⟩
            have HB1 := Lib.hid (HB0.out.trans (hb.mono HB0.out.size))
            clear hb
            go_wp2_with fail
            refine (C1.out _).mono ?_
            rintro e w2 ⟨v1, rfl, hown, hb⟩
            have HB2 := Lib.hid (HB1.out.trans (hb.mono HB1.out.size))
            have HR1 := Lib.hid (Rd.of_own hown)
            clear hown
            clear hb
            go_wp2_with fail
            refine (C2.out _).mono ?_
            rintro e w3 ⟨v2, rfl, hown, hb⟩
            have HB3 := Lib.hid (HB2.out.trans (hb.mono HB2.out.size))
            have HO2 := Lib.hid hown
            clear hown
            have HR1 := Lib.hid (HR1.out.below hb)
            have HS2 := Lib.hid hb.size
            clear hb
            go_wp2_with fail
            refine (C3.out _).mono ?_
            rintro e w4 ⟨v3, rfl, hown, hb⟩
            have HB4 := Lib.hid (HB3.out.trans (hb.mono HB3.out.size))
            have HO2 := Lib.hid (own_below HO2.out hb)
            have HR3 := Lib.hid (Rd.of_own hown)
            have HR1 := Lib.hid (HR1.out.below' hb HS2.out)
            have HS4 := Lib.hid (Nat.le_trans HS2.out hb.size)
            clear hown
            clear hb
            obtain ⟨A, c, rfl, hA, hnews⟩ := rd_open HR3.out
            have hl : (strC TQ).length = TQ.length * 1 := by rw [strC_len, Nat.mul_one]
            have h1 := strC_one TQ
            have hown := HO2.out
            have b1 : TP.length + TQ.length ≤ 20000 := by have := HLP.out; have := HLQ.out; omega
            have hbs := HS4.out
            go_wp2_with (at_builtin; refine append_any_g (by rfl) _ _ 26 rfl w2.heap.size 9 i1 _ 1 16 Tryd.underlying26 hj hy0 hy1 hy2 (by rfl) (by decide) v2 TP.length (strC TP) rfl hown A TQ.length c (strC TQ) rfl hl hA hnews h1 (by unfold maxLen; omega) (by omega) hbs ?_; intro v5 w5 hown5 hg5)
            have hb : Below w2.heap.size w4 w5 := Below.grown ⟨rfl, rfl, rfl, Nat.le_refl _, fun _ _ => rfl⟩ hg5 hbs (fun k hk => (hown.lt k hk).1)
            have HR1 := Lib.hid ((HR1.out.below hb).more (Nat.le_trans hbs hb.size))
            have HR5 := Lib.hid (show Rd w5 w5.heap.size v5 (strC (TP ++ TQ)) by
              have h := Rd.of_own hown5
              unfold strC at h ⊢
              rw [List.map_append]
              exact h)
            have HB5 := Lib.hid (HB4.out.trans (hb.mono HB2.out.size))
            clear hA hnews hl h1 hown hown5 hg5 hb b1 hbs
            go_wp2_with fail
            refine (SameParts_any _ _ _ _ w5 HR1.out HR5.out (by rw [List.length_append]; have := HLP.out; have := HLQ.out; omega)).mono ?_
            rintro e w6 ⟨⟨x, rfl, hx⟩, hb⟩
            have HB6 := Lib.hid (HB5.out.trans (hb.mono HB5.out.size))
            obtain rfl : x = true := hx.2 rfl
            clear hx
            clear hb
            go_wp2_with fail
            go_ret
            exact ⟨rfl, HB6.out⟩
      · have r1 : ((m : Int) % 2) = 1 := by omega
        have r2 : (m : Int).tmod 2 = 1 := by rw [Int.tmod_eq_emod_of_nonneg (by omega)]; omega
        have r3 : m % 2 = 1 := by omega
        go_wp2_with fail
        refine (awake_any16 _ (HMX.out.keep HB0.out)).mono ?_
        rintro e w1 ⟨rfl, hb⟩
        have HB1 := Lib.hid (HB0.out.trans (hb.mono HB0.out.size))
        clear hb
        go_wp2_with fail
        go_ret
        exact ⟨rfl, HB1.out⟩
end Go.Proofs.YtjbaogoapobhbaaDoor.Fo
