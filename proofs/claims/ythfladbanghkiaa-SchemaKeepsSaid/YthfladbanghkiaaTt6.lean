/- Merged: SmB SmC SmD SmE. -/
import Derived.Test.YthfladbanghkiaaTt5
import Derived.Deep.QuietTactic
import Derived.BigQuiet
import Derived.RegionTactic
import Derived.BigRegion
import Derived.Lib.Hide
import Derived.WalkSpells
namespace Go.Proofs.Ythfladbanghkiaa.Sm
open Go.Proofs Go.RowKit
open Go.Proofs.Ythfladbanghkiaa.Utf
open Go.Proofs.Ythfladbanghkiaa.Nu
open Go.Proofs.Ythfladbanghkiaa.Wo

def GivesP1 (p : Pr) (w : World) (e : Ending) (w' : World) : Prop := e = .returned (prV p) ∧ Below w.heap.size w w'
theorem szAlc (w : World) (o : Obj) : (w.alloc o).heap.size = w.heap.size + 1 := by simp
theorem formK_app (l : List UInt8) (x : UInt8) : ∀ a, formK a (l ++ [x]) = formK a l * 10 + (x.toNat : Int) - 48 := by
  induction l with
  | nil => intro a; rfl
  | cons c r ih => intro a; exact ih _
theorem formK_take {l : List UInt8} {k : Nat} (h : k < l.length) (a : Int) : formK a (l.take (k + 1)) = formK a (l.take k) * 10 + byt l k - 48 := by
  rw [List.take_succ_eq_append_getElem h, formK_app, byt_in h]
theorem form_small {l : List UInt8} : ∀ k, k ≤ 3 → -100000 ≤ formK 0 (l.take k) ∧ formK 0 (l.take k) ≤ 100000 := by
  have st : ∀ k (B : Int), -B ≤ formK 0 (l.take k) → formK 0 (l.take k) ≤ B → 0 ≤ B → -(B * 10 + 300) ≤ formK 0 (l.take (k + 1)) ∧ formK 0 (l.take (k + 1)) ≤ B * 10 + 300 := fun k B h1 h2 h3 => by
    rcases Nat.lt_or_ge k l.length with h | h
    · rw [formK_take h]
      have := byt_lo l k
      have := byt_hi l k
      omega
    · rw [List.take_of_length_le (by omega)]
      rw [List.take_of_length_le (by omega)] at h1 h2
      omega
  have h0 : formK 0 (l.take 0) = 0 := rfl
  have a1 : -300 ≤ formK 0 (l.take 1) ∧ formK 0 (l.take 1) ≤ 300 := st 0 0 (by omega) (by omega) (by omega)
  have a2 : -3300 ≤ formK 0 (l.take 2) ∧ formK 0 (l.take 2) ≤ 3300 := st 1 300 a1.1 a1.2 (by omega)
  have a3 : -33300 ≤ formK 0 (l.take 3) ∧ formK 0 (l.take 3) ≤ 33300 := st 2 3300 a2.1 a2.2 (by omega)
  intro k hk
  match k, hk with
  | 0, _ => omega
  | 1, _ => omega
  | 2, _ => omega
  | 3, _ => omega
theorem restF_cons (q : List UInt8) (r : List (List UInt8)) (ar : List UInt8) (mu : Bool) : restF (q :: r) ar mu = if q = [33] then restF r ar true
    else if q = [61] then (match r with | [] => none | d :: _ => some (ar, mu, d))
    else if ar = [] then restF r q mu
    else restF r (ar ++ [32] ++ q) mu := by
  cases r <;> rfl
theorem prop_split {ps : List (List UInt8)} {P : Pr} (h : propF ps = some P) : ∃ nm fm r ar mu df, ps = nm :: fm :: r ∧ fm.length ≤ 3 ∧ restF r [] false = some (ar, mu, df) ∧ P = ⟨nm, formK 0 fm, ar, mu, df⟩ := by
  unfold propF at h
  split at h
  · rename_i nm fm r
    split at h
    · rename_i hl
      cases hr : restF r [] false with
      | none => rw [hr] at h; cases h
      | some x =>
        obtain ⟨ar, mu, df⟩ := x
        rw [hr] at h
        exact ⟨nm, fm, r, ar, mu, df, rfl, hl, hr, (Option.some.inj h).symm⟩
    · cases h
  · cases h

set_option maxRecDepth 100000 in
set_option maxHeartbeats 2000000 in
theorem prop_any (q : List UInt8) (P : Pr) (w : World) (hq : q.length ≤ 400) (hP : propF (spl 32 q) = some P) :
    Calls Try.prog 22 #[.string (strOf q)] w (GivesP1 P w) := by
  have HC := Lib.hid (fun W => Split_any (strOf q) 32 W (by rw [strOf_size]; omega) (by
    have := spl_cnt 32 q
    rw [strOf_data]; omega))
  rw [strOf_data, show ((32 : UInt8).toNat : Int) = 32 from rfl] at HC
  have HLE := Lib.hid (show ∀ p, p ∈ spl 32 q → p.length ≤ 400 from fun p hp => by have := spl_le' hp; omega)
  have HCNT := Lib.hid (spl_cnt 32 q)
  obtain ⟨nm, fm, rs, ar, mu, df, hs, hfm, hr, rfl⟩ := prop_split hP
  rw [hs] at HC HLE HCNT
  have HR := Lib.hid hr
  clear hP hs hr
  obtain ⟨n, hn⟩ : ∃ n, rs.length + 2 = n := ⟨_, rfl⟩
  have HN := Lib.hid hn
  have hn2 : n ≤ 401 := by have := HCNT.out; simp at this; omega
  obtain ⟨W0, hW0⟩ : ∃ W0, W0 = w.alloc (.cells #[.string ⟨#[]⟩, .int .i64 0, .string ⟨#[]⟩, .bool false, .string ⟨#[]⟩] 32) := ⟨_, rfl⟩
  have HB0 := Lib.hid (show Below w.heap.size w W0 by rw [hW0]; exact (Below.refl _ _).alloc (Nat.le_refl _) _)
  have HS0 := Lib.hid (show W0.heap.size = w.heap.size + 1 by rw [hW0, szAlc])
  have HR0 := Lib.hid (show W0.heap[w.heap.size]? = some (.cells #[.string ⟨#[]⟩, .int .i64 0, .string ⟨#[]⟩, .bool false, .string ⟨#[]⟩] 32 (0, 0)) by rw [hW0]; exact heap_alloc_new _ _)
  have HW0 := Lib.hid hW0
  clear hW0 hn
  go_enter Try.func22, Try.ntmps22
  go_wp2_with fail
  rw [← HW0.out]
  refine (HC.out _).mono ?_
  rintro e W1 ⟨v, rfl, hown, hb⟩
  have HB1 := Lib.hid hb
  obtain ⟨g, cp, rfl, hg, hcell⟩ := own_blk' hown (by rw [strK_len]; simp)
  have HCELL := Lib.hid (show ∀ j (h : j < (nm :: fm :: rs).length), W1.cell? ⟨g, j, none⟩ = some (.string (strOf (nm :: fm :: rs)[j])) from fun j h => hcell j _ (strK_at _ j h))
  have c0 := HCELL.out 0 (by simp)
  rw [show (nm :: fm :: rs)[0] = nm from rfl] at c0
  rw [strK_len, show (nm :: fm :: rs).length = n from by rw [← HN.out]; rfl]
  clear hb hown hcell
  have k01 : (0 : Int) < (n : Int) := by have := HN.out; omega
  have k11 : (1 : Int) < (n : Int) := by have := HN.out; omega
  go_wp2_with fail
  have c1 := HCELL.out 1 (by simp)
  rw [show (nm :: fm :: rs)[1] = fm from rfl] at c1
  obtain ⟨X, hX⟩ : ∃ X, strOf fm = X := ⟨_, rfl⟩
  have HX := Lib.hid hX
  have hm : X.size ≤ 3 := by rw [← hX, strOf_size]; exact hfm
  have HM := Lib.hid (show fm.length = X.size by rw [← hX, strOf_size])
  have HBG := Lib.hid (fun j (h : j < X.size) => byt_get X j h)
  rw [show X.data.toList = fm by rw [← hX]; rfl] at HBG
  rw [hX] at c1
  have HB2 := Lib.hid (show Below W1.heap.size W1 (W1.alloc (.cells #[.string (strOf nm), .int .i64 0, .string ⟨#[]⟩, .bool false, .string ⟨#[]⟩] 32)) from (Below.refl _ _).alloc (Nat.le_refl _) _)
  have HR2 := Lib.hid (show (W1.alloc (.cells #[.string (strOf nm), .int .i64 0, .string ⟨#[]⟩, .bool false, .string ⟨#[]⟩] 32)).heap[W1.heap.size]? = some (.cells #[.string (strOf nm), .int .i64 0, .string ⟨#[]⟩, .bool false, .string ⟨#[]⟩] 32 (0, 0)) from heap_alloc_new _ _)
  have HS2 := Lib.hid (show (W1.alloc (.cells #[.string (strOf nm), .int .i64 0, .string ⟨#[]⟩, .bool false, .string ⟨#[]⟩] 32)).heap.size = W1.heap.size + 1 from szAlc _ _)
  clear hX c0 hfm
  obtain ⟨NM, hNM⟩ : ∃ NM, strOf nm = NM := ⟨_, rfl⟩
  have HNM := Lib.hid hNM
  rw [hNM] at HB2 HR2 HS2 ⊢
  clear hNM
  generalize W1.alloc (.cells #[.string NM, .int .i64 0, .string ⟨#[]⟩, .bool false, .string ⟨#[]⟩] 32) = W2 at *
  go_loopw [5] (fun i wr => ∃ k : Nat, i = .int .i64 (k : Int) ∧ k ≤ X.size ∧ Aside (Below W1.heap.size W1 wr) ∧ Aside (wr.heap[W1.heap.size]? = some (.cells #[.string NM, .int .i64 (formK 0 (fm.take k)), .string ⟨#[]⟩, .bool false, .string ⟨#[]⟩] 32 (0, 0)))) (fun i _ => X.size - (intOf i).toNat)
  case atStart => exact ⟨0, rfl, by omega, HB2.out, HR2.out⟩
  case round =>
    obtain ⟨k, rfl, hk, hbel, hbox⟩ := hrel
    have HBE := Lib.hid hbel.out
    have HBX := Lib.hid hbox.out
    obtain ⟨⟨x0, x1, x2, x3, x4⟩, ⟨f0, f1, f2, f3, f4⟩⟩ := rowP hbox.out
    have p1 := (hbel.out.cell (p := ⟨g, 1, none⟩) hg).trans c1
    obtain ⟨bd1, bd2⟩ := form_small (l := fm) k (by omega)
    clear hbel hbox
    by_cases hlt : k < X.size
    · have t1 : decide ((k : Int) < (X.size : Int)) = true := decide_eq_true (by omega)
      have t2 : decide (k < X.size) = true := decide_eq_true hlt
      have k0 : (0 : Int) ≤ (k : Int) := by omega
      have k1 : (k : Int) < (X.size : Int) := by omega
      have k2 : ((k : Int)).toNat = k := by omega
      have HF := Lib.hid (formK_take (l := fm) (k := k) (by rw [HM.out]; exact hlt) 0)
      rw [HBG.out k hlt] at HF
      have b0 : (0 : Int) ≤ (X[k].toNat : Int) := by omega
      have b1 : (X[k].toNat : Int) ≤ 255 := by have := X[k].toNat_lt; omega
      generalize formK 0 (fm.take k) = F at *
      go_wp2_with fail
      go_region
      have HB2 := Lib.hid (show Below W1.heap.size W1 (wr.setCell ⟨W1.heap.size, 1, none⟩ (.int .i64 (F * 10 + (X[k].toNat : Int) - 48))).drew from (HBE.out.setCell (p := ⟨W1.heap.size, 1, none⟩) (Nat.le_refl _) _).drew)
      have HR2 := Lib.hid (rowSt wr W1.heap.size 1 _ _ (.int .i64 (F * 10 + (X[k].toNat : Int) - 48)) HBX.out)
      go_wp2_with fail
      go_roundw
      case rel => exact ⟨k + 1, by go_num, by omega, HB2.out, by rw [HF.out]; exact HR2.out⟩
      case measure => simp [intOf]; omega
    · have t1 : decide ((k : Int) < (X.size : Int)) = false := decide_eq_false (by omega)
      have t2 : decide (k < X.size) = false := decide_eq_false hlt
      have HFF := Lib.hid (show formK 0 (fm.take k) = formK 0 fm by rw [List.take_of_length_le (by rw [HM.out]; omega)])
      rw [HFF.out] at HBX x1
      generalize formK 0 fm = F at *
      clear x0 x1 x2 x3 x4 f0 f1 f2 f3 f4 bd1 bd2 c1
      go_wp2_with fail
      clear p1 t1 t2
      go_loopw [6] (fun i wr => ∃ (k : Nat) (a : List UInt8) (m : Bool), i = .int .i64 (k : Int) ∧ 2 ≤ k ∧ k ≤ n ∧ a.length ≤ k * 401 ∧ Aside (restF (rs.drop (k - 2)) a m = some (ar, mu, df)) ∧ Aside (Below W1.heap.size W1 wr) ∧ Aside (wr.heap[W1.heap.size]? = some (.cells #[.string NM, .int .i64 F, .string (strOf a), .bool m, .string ⟨#[]⟩] 32 (0, 0)))) (fun i _ => n - (intOf i).toNat)
      case atStart => exact ⟨2, [], false, rfl, Nat.le_refl _, by have := HN.out; omega, by simp, HR.out, HBE.out, HBX.out⟩
      case round =>
        obtain ⟨k2, a, m, rfl, hk2, hkn, ha, hrest, hbel, hbox⟩ := hrel
        have HBE3 := Lib.hid hbel.out
        have HBX3 := Lib.hid hbox.out
        have HRS := Lib.hid hrest.out
        have hrr : wr.heap[w.heap.size]? = some (.cells #[.string ⟨#[]⟩, .int .i64 0, .string ⟨#[]⟩, .bool false, .string ⟨#[]⟩] 32 (0, 0)) :=
          (hbel.out.block w.heap.size (by have := HB1.out.size; have := HS0.out; omega)).trans ((HB1.out.block w.heap.size (by have := HS0.out; omega)).trans HR0.out)
        have HRR := Lib.hid hrr
        have HWB := Lib.hid (show Below w.heap.size w wr from HB0.out.trans ((HB1.out.trans (hbel.out.mono HB1.out.size)).mono HB0.out.size))
        obtain ⟨⟨x0, x1, x2, x3, x4⟩, ⟨f0, f1, f2, f3, f4⟩⟩ := rowP hbox.out
        obtain ⟨⟨r0, r1, r2, r3, r4⟩, ⟨e0, e1, e2, e3, e4⟩⟩ := rowP hrr
        have HPC := Lib.hid (fun j (h : j < (nm :: fm :: rs).length) => (hbel.out.cell (p := ⟨g, j, none⟩) hg).trans (HCELL.out j h))
        clear hbel hbox hrest hrr
        by_cases hlt : k2 < n
        · have t1 : decide ((k2 : Int) < (n : Int)) = true := decide_eq_true (by omega)
          have t2 : decide (k2 < n) = true := decide_eq_true hlt
          have k0 : (0 : Int) ≤ (k2 : Int) := by omega
          have k1 : (k2 : Int) < (n : Int) := by omega
          have k2' : ((k2 : Int)).toNat = k2 := by omega
          have hkl : k2 < (nm :: fm :: rs).length := by have := HN.out; simp; omega
          have hkr : k2 - 2 < rs.length := by have := HN.out; omega
          have hget : (nm :: fm :: rs)[k2] = rs[k2 - 2] := by
            obtain ⟨j, rfl⟩ : ∃ j, k2 = j + 2 := ⟨k2 - 2, by omega⟩
            rfl
          have pk := HPC.out k2 hkl
          rw [hget] at pk
          have hple := HLE.out _ (List.getElem_mem hkl)
          rw [hget] at hple
          have hdrop : rs.drop (k2 - 2) = rs[k2 - 2] :: rs.drop (k2 + 1 - 2) := by
            rw [List.drop_eq_getElem_cons hkr, show k2 - 2 + 1 = k2 + 1 - 2 by omega]
          have hrs := HRS.out
          rw [hdrop] at hrs
          have HDN := Lib.hid (show rs.drop (k2 + 1 - 2) ≠ [] → ∃ h : k2 + 1 < (nm :: fm :: rs).length, (nm :: fm :: rs)[k2 + 1] = (rs.drop (k2 + 1 - 2)).head! from fun h => by
            have h2 : k2 + 1 - 2 < rs.length := by
              rcases Nat.lt_or_ge (k2 + 1 - 2) rs.length with h3 | h3
              · exact h3
              · exact absurd (List.drop_eq_nil_of_le h3) h
            refine ⟨by simp; omega, ?_⟩
            rw [List.drop_eq_getElem_cons h2]
            obtain ⟨j, rfl⟩ : ∃ j, k2 = j + 2 := ⟨k2 - 2, by omega⟩
            rfl)
          clear hdrop hget hkl
          generalize rs[k2 - 2] = p at *
          obtain ⟨rest, hrest⟩ : ∃ z, rs.drop (k2 + 1 - 2) = z := ⟨_, rfl⟩
          rw [hrest] at hrs HDN
          have HRE := Lib.hid hrest
          clear hrest
          rw [restF_cons] at hrs
          have HPL := Lib.hid (strOf_list p)
          by_cases q1 : p = [33]
          · rw [if_pos q1] at hrs
            have u1 : ((strOf p).toList == [33]) = true := by rw [HPL.out, q1]; rfl
            have u2 : (strOf p).toList = [33] := by rw [HPL.out, q1]
            have HRS2 := Lib.hid (show restF (rs.drop (k2 + 1 - 2)) a true = some (ar, mu, df) by rw [HRE.out]; exact hrs)
            have HB3 := Lib.hid (show Below W1.heap.size W1 (wr.setCell ⟨W1.heap.size, 3, none⟩ (.bool true)) from HBE3.out.setCell (p := ⟨W1.heap.size, 3, none⟩) (Nat.le_refl _) _)
            have HX3 := Lib.hid (rowSt wr W1.heap.size 3 _ _ (.bool true) HBX3.out)
            generalize strOf p = PP at *
            clear hrs q1
            go_wp2_with fail
            go_roundw
            case rel => exact ⟨k2 + 1, a, true, by go_num, by omega, by omega, by omega, HRS2.out, HB3.out, HX3.out⟩
            case measure => simp [intOf]; omega
          · rw [if_neg q1] at hrs
            have u1 : ((strOf p).toList == [33]) = false := by rw [HPL.out]; exact beq_eq_false_iff_ne.2 q1
            have u2 : ¬ (strOf p).toList = [33] := by rw [HPL.out]; exact q1
            by_cases q2 : p = [61]
            · rw [if_pos q2] at hrs
              have v1 : ((strOf p).toList == [61]) = true := by rw [HPL.out, q2]; rfl
              have v2 : (strOf p).toList = [61] := by rw [HPL.out, q2]
              cases hz : rest with
              | nil => rw [hz] at hrs; cases hrs
              | cons d z =>
                rw [hz] at hrs HDN
                have hrs2 : some (a, m, d) = some (ar, mu, df) := hrs
                injection hrs2 with hrs2
                injection hrs2 with h1 hrs2
                injection hrs2 with h2 h3
                subst h1 h2 h3
                obtain ⟨hk1, hd1⟩ := HDN.out (by simp)
                have pd := HPC.out (k2 + 1) hk1
                rw [hd1, show (d :: z).head! = d from rfl] at pd
                have j0 : (0 : Int) ≤ (k2 : Int) + 1 := by omega
                have j1 : (k2 : Int) + 1 < (n : Int) := by have := HN.out; simp at hk1; omega
                have j2 : ((k2 : Int) + 1).toNat = k2 + 1 := by omega
                have HPV := Lib.hid (show prV ⟨nm, F, a, m, d⟩ = .agg #[.string NM, .int .i64 F, .string (strOf a), .bool m, .string (strOf d)] by
                  rw [← HNM.out]; rfl)
                generalize strOf p = PP at *
                generalize strOf a = AA at *
                generalize strOf d = DD at *
                have HRR2 := Lib.hid (show (wr.setCell ⟨W1.heap.size, 4, none⟩ (.string DD)).heap[w.heap.size]? = some (.cells #[.string ⟨#[]⟩, .int .i64 0, .string ⟨#[]⟩, .bool false, .string ⟨#[]⟩] 32 (0, 0)) from
                  (Below.heap_setCell _ _ _ w.heap.size (by show w.heap.size ≠ W1.heap.size; have := HB1.out.size; have := HS0.out; omega)).trans HRR.out)
                have HWB2 := Lib.hid (HWB.out.setCell (p := ⟨W1.heap.size, 4, none⟩) (by show w.heap.size ≤ W1.heap.size; have := HB1.out.size; have := HS0.out; omega) (.string DD))
                have hx4 := rowSt wr W1.heap.size 4 _ _ (.string DD) HBX3.out
                obtain ⟨⟨z0, z1, z2, z3, z4⟩, -⟩ := rowP (w := wr.setCell ⟨W1.heap.size, 4, none⟩ (.string DD)) (b := W1.heap.size) (u0 := .string NM) (u1 := .int .i64 F) (u2 := .string AA) (u3 := .bool m) (u4 := .string DD) hx4
                obtain ⟨⟨s0, s1, s2, s3, s4⟩, ⟨h0, h1, h2, h3, h4⟩⟩ := rowP HRR2.out
                clear hrs q1 q2 hz hd1 hk1 r0 r1 r2 r3 r4 e0 e1 e2 e3 e4 x0 x1 x3 f0 f1 f2 f3 hx4
                go_wp2_with fail
                refine bodyPost_ret (resP rfl rfl (sP_row HRR2.out (.string NM) (.int .i64 F) (.string AA) (.bool m) (.string DD))) rfl ?_
                exact ⟨by rw [HPV.out], sP_below HWB2.out (Nat.le_refl _) _ _ _ _ _⟩
            · rw [if_neg q2] at hrs
              have v1 : ((strOf p).toList == [61]) = false := by rw [HPL.out]; exact beq_eq_false_iff_ne.2 q2
              have v2 : ¬ (strOf p).toList = [61] := by rw [HPL.out]; exact q2
              have HAL := Lib.hid (strOf_list a)
              by_cases q3 : a = []
              · rw [if_pos q3] at hrs
                have y1 : ((strOf a).toList == []) = true := by rw [HAL.out, q3]; rfl
                have y2 : (strOf a).toList = [] := by rw [HAL.out, q3]
                have HRS2 := Lib.hid (show restF (rs.drop (k2 + 1 - 2)) p m = some (ar, mu, df) by rw [HRE.out]; exact hrs)
                have HB3 := Lib.hid (show Below W1.heap.size W1 (wr.setCell ⟨W1.heap.size, 2, none⟩ (.string (strOf p))) from HBE3.out.setCell (p := ⟨W1.heap.size, 2, none⟩) (Nat.le_refl _) _)
                have HX3 := Lib.hid (rowSt wr W1.heap.size 2 _ _ (.string (strOf p)) HBX3.out)
                obtain ⟨PP, hPP⟩ : ∃ PP, strOf p = PP := ⟨_, rfl⟩
                have HPP := Lib.hid hPP
                rw [hPP] at pk u1 u2 v1 v2 HB3 HX3
                generalize strOf a = AA at *
                clear hrs q1 q2 q3 hPP
                go_wp2_with fail
                go_roundw
                case rel => exact ⟨k2 + 1, p, m, by go_num, by omega, by omega, by omega, HRS2.out, HB3.out, by rw [HPP.out]; exact HX3.out⟩
                case measure => simp [intOf]; omega
              · rw [if_neg q3] at hrs
                have y1 : ((strOf a).toList == []) = false := by rw [HAL.out]; exact beq_eq_false_iff_ne.2 q3
                have y2 : ¬ (strOf a).toList = [] := by rw [HAL.out]; exact q3
                have HRS2 := Lib.hid (show restF (rs.drop (k2 + 1 - 2)) (a ++ [32] ++ p) m = some (ar, mu, df) by rw [HRE.out]; exact hrs)
                have hadd1 := addK (strOf a) ⟨#[32]⟩ (by rw [strOf_size]; show _ + 1 ≤ _; omega)
                have hadd2 := addK (strOf (a ++ [32])) (strOf p) (by rw [strOf_size, strOf_size, List.length_append]; show _ + 1 + _ ≤ _; omega)
                rw [strOf_data] at hadd1 hadd2
                rw [strOf_data] at hadd2
                rw [show (⟨#[32]⟩ : ByteArray).data.toList = [32] from rfl] at hadd1
                have HB3 := Lib.hid (show Below W1.heap.size W1 (wr.setCell ⟨W1.heap.size, 2, none⟩ (.string (strOf (a ++ [32] ++ p)))).drew from (HBE3.out.setCell (p := ⟨W1.heap.size, 2, none⟩) (Nat.le_refl _) _).drew)
                have HX3 := Lib.hid (rowSt wr W1.heap.size 2 _ _ (.string (strOf (a ++ [32] ++ p))) HBX3.out)
                obtain ⟨A2, hA2⟩ : ∃ A2, strOf (a ++ [32] ++ p) = A2 := ⟨_, rfl⟩
                have HA2 := Lib.hid hA2
                rw [hA2] at hadd2 HB3 HX3
                have hlen : (a ++ [32] ++ p).length ≤ (k2 + 1) * 401 := by rw [List.length_append, List.length_append]; show _ + 1 + _ ≤ _; omega
                have HL3 := Lib.hid hlen
                clear hrs q1 q2 q3 hA2 hlen
                generalize strOf (a ++ [32]) = A1 at *
                generalize strOf a = AA at *
                generalize strOf p = PP at *
                go_wp2_with fail
                go_region
                go_wp2_with fail
                go_roundw
                case rel => exact ⟨k2 + 1, a ++ [32] ++ p, m, by go_num, by omega, by omega, HL3.out, HRS2.out, HB3.out, by rw [HA2.out]; exact HX3.out⟩
                case measure => simp [intOf]; omega
        · have t1 : decide ((k2 : Int) < (n : Int)) = false := decide_eq_false (by omega)
          have t2 : decide (k2 < n) = false := decide_eq_false hlt
          have hrs := HRS.out
          rw [List.drop_eq_nil_of_le (by have := HN.out; omega)] at hrs
          rw [restF] at hrs
          injection hrs with hrs
          injection hrs with h1 hrs
          injection hrs with h2 h3
          subst h1 h2 h3
          have HPV := Lib.hid (show prV ⟨nm, F, a, m, []⟩ = .agg #[.string NM, .int .i64 F, .string (strOf a), .bool m, .string ⟨#[]⟩] by
            rw [← HNM.out]; rfl)
          generalize strOf a = AA at *
          go_wp2
          refine bodyPost_ret (resP rfl rfl (sP_row HRR.out (.string NM) (.int .i64 F) (.string AA) (.bool m) (.string ⟨#[]⟩))) rfl ?_
          exact ⟨by rw [HPV.out], sP_below HWB.out (Nat.le_refl _) _ _ _ _ _⟩
end Go.Proofs.Ythfladbanghkiaa.Sm
namespace Go.Proofs.Ythfladbanghkiaa.Sm
open Go.Proofs Go.RowKit
open Go.Proofs.Ythfladbanghkiaa.Utf
open Go.Proofs.Ythfladbanghkiaa.Nu
open Go.Proofs.Ythfladbanghkiaa.Wo

set_option maxRecDepth 100000 in
set_option maxHeartbeats 4000000 in
theorem table_any (X : ByteArray) (w : World) :
    Calls Try.prog 20 #[.string X] w fun e w' => e = .returned (.string (strOf (tabS X.data.toList))) ∧ w = w' := by
  obtain ⟨l, hl⟩ : ∃ l, X.data.toList = l := ⟨_, rfl⟩
  have hx : X.toList = l := by rw [ByteArray.toList_eq]; exact hl
  have HX := Lib.hid hx
  rw [hl]
  clear hl hx
  by_cases h0 : l = nm0
  · have HT := Lib.hid (show tabS l = ln0 by rw [h0]; exact tab0)
    have t0 : (X.toList == [67, 97, 114, 100]) = true := by rw [HX.out, h0]; rfl
    have p0 : X.toList = [67, 97, 114, 100] := by rw [HX.out, h0]; rfl
    rw [HT.out]
    clear h0 HT HX
    go_enter Try.func20, Try.ntmps20
    go_wp2_with fail
    go_ret
    exact ⟨by kernel_rfl, rfl⟩
  have t0 : (X.toList == [67, 97, 114, 100]) = false := by rw [HX.out]; exact beq_eq_false_iff_ne.2 h0
  have p0 : ¬ X.toList = [67, 97, 114, 100] := by rw [HX.out]; exact h0
  by_cases h1 : l = nm1
  · have HT := Lib.hid (show tabS l = ln1 by rw [h1]; exact tab1)
    have t1 : (X.toList == [65, 100, 100, 114, 101, 115, 115]) = true := by rw [HX.out, h1]; rfl
    have p1 : X.toList = [65, 100, 100, 114, 101, 115, 115] := by rw [HX.out, h1]; rfl
    rw [HT.out]
    clear h0 h1 HT HX
    go_enter Try.func20, Try.ntmps20
    go_wp2_with fail
    go_ret
    exact ⟨by kernel_rfl, rfl⟩
  have t1 : (X.toList == [65, 100, 100, 114, 101, 115, 115]) = false := by rw [HX.out]; exact beq_eq_false_iff_ne.2 h1
  have p1 : ¬ X.toList = [65, 100, 100, 114, 101, 115, 115] := by rw [HX.out]; exact h1
  by_cases h2 : l = nm2
  · have HT := Lib.hid (show tabS l = ln2 by rw [h2]; exact tab2)
    have t2 : (X.toList == [65, 100, 100, 114, 101, 115, 115, 67, 111, 109, 112, 111, 110, 101, 110, 116]) = true := by rw [HX.out, h2]; rfl
    have p2 : X.toList = [65, 100, 100, 114, 101, 115, 115, 67, 111, 109, 112, 111, 110, 101, 110, 116] := by rw [HX.out, h2]; rfl
    rw [HT.out]
    clear h0 h1 h2 HT HX
    go_enter Try.func20, Try.ntmps20
    go_wp2_with fail
    go_ret
    exact ⟨by kernel_rfl, rfl⟩
  have t2 : (X.toList == [65, 100, 100, 114, 101, 115, 115, 67, 111, 109, 112, 111, 110, 101, 110, 116]) = false := by rw [HX.out]; exact beq_eq_false_iff_ne.2 h2
  have p2 : ¬ X.toList = [65, 100, 100, 114, 101, 115, 115, 67, 111, 109, 112, 111, 110, 101, 110, 116] := by rw [HX.out]; exact h2
  by_cases h3 : l = nm3
  · have HT := Lib.hid (show tabS l = ln3 by rw [h3]; exact tab3)
    have t3 : (X.toList == [65, 110, 110, 105, 118, 101, 114, 115, 97, 114, 121]) = true := by rw [HX.out, h3]; rfl
    have p3 : X.toList = [65, 110, 110, 105, 118, 101, 114, 115, 97, 114, 121] := by rw [HX.out, h3]; rfl
    rw [HT.out]
    clear h0 h1 h2 h3 HT HX
    go_enter Try.func20, Try.ntmps20
    go_wp2_with fail
    go_ret
    exact ⟨by kernel_rfl, rfl⟩
  have t3 : (X.toList == [65, 110, 110, 105, 118, 101, 114, 115, 97, 114, 121]) = false := by rw [HX.out]; exact beq_eq_false_iff_ne.2 h3
  have p3 : ¬ X.toList = [65, 110, 110, 105, 118, 101, 114, 115, 97, 114, 121] := by rw [HX.out]; exact h3
  by_cases h4 : l = nm4
  · have HT := Lib.hid (show tabS l = ln4 by rw [h4]; exact tab4)
    have t4 : (X.toList == [69, 109, 97, 105, 108, 65, 100, 100, 114, 101, 115, 115]) = true := by rw [HX.out, h4]; rfl
    have p4 : X.toList = [69, 109, 97, 105, 108, 65, 100, 100, 114, 101, 115, 115] := by rw [HX.out, h4]; rfl
    rw [HT.out]
    clear h0 h1 h2 h3 h4 HT HX
    go_enter Try.func20, Try.ntmps20
    go_wp2_with fail
    go_ret
    exact ⟨by kernel_rfl, rfl⟩
  have t4 : (X.toList == [69, 109, 97, 105, 108, 65, 100, 100, 114, 101, 115, 115]) = false := by rw [HX.out]; exact beq_eq_false_iff_ne.2 h4
  have p4 : ¬ X.toList = [69, 109, 97, 105, 108, 65, 100, 100, 114, 101, 115, 115] := by rw [HX.out]; exact h4
  by_cases h5 : l = nm5
  · have HT := Lib.hid (show tabS l = ln5 by rw [h5]; exact tab5)
    have t5 : (X.toList == [76, 97, 110, 103, 117, 97, 103, 101, 80, 114, 101, 102]) = true := by rw [HX.out, h5]; rfl
    have p5 : X.toList = [76, 97, 110, 103, 117, 97, 103, 101, 80, 114, 101, 102] := by rw [HX.out, h5]; rfl
    rw [HT.out]
    clear h0 h1 h2 h3 h4 h5 HT HX
    go_enter Try.func20, Try.ntmps20
    go_wp2_with fail
    go_ret
    exact ⟨by kernel_rfl, rfl⟩
  have t5 : (X.toList == [76, 97, 110, 103, 117, 97, 103, 101, 80, 114, 101, 102]) = false := by rw [HX.out]; exact beq_eq_false_iff_ne.2 h5
  have p5 : ¬ X.toList = [76, 97, 110, 103, 117, 97, 103, 101, 80, 114, 101, 102] := by rw [HX.out]; exact h5
  by_cases h6 : l = nm6
  · have HT := Lib.hid (show tabS l = ln6 by rw [h6]; exact tab6)
    have t6 : (X.toList == [76, 105, 110, 107]) = true := by rw [HX.out, h6]; rfl
    have p6 : X.toList = [76, 105, 110, 107] := by rw [HX.out, h6]; rfl
    rw [HT.out]
    clear h0 h1 h2 h3 h4 h5 h6 HT HX
    go_enter Try.func20, Try.ntmps20
    go_wp2_with fail
    go_ret
    exact ⟨by kernel_rfl, rfl⟩
  have t6 : (X.toList == [76, 105, 110, 107]) = false := by rw [HX.out]; exact beq_eq_false_iff_ne.2 h6
  have p6 : ¬ X.toList = [76, 105, 110, 107] := by rw [HX.out]; exact h6
  by_cases h7 : l = nm7
  · have HT := Lib.hid (show tabS l = ln7 by rw [h7]; exact tab7)
    have t7 : (X.toList == [77, 101, 100, 105, 97]) = true := by rw [HX.out, h7]; rfl
    have p7 : X.toList = [77, 101, 100, 105, 97] := by rw [HX.out, h7]; rfl
    rw [HT.out]
    clear h0 h1 h2 h3 h4 h5 h6 h7 HT HX
    go_enter Try.func20, Try.ntmps20
    go_wp2_with fail
    go_ret
    exact ⟨by kernel_rfl, rfl⟩
  have t7 : (X.toList == [77, 101, 100, 105, 97]) = false := by rw [HX.out]; exact beq_eq_false_iff_ne.2 h7
  have p7 : ¬ X.toList = [77, 101, 100, 105, 97] := by rw [HX.out]; exact h7
  by_cases h8 : l = nm8
  · have HT := Lib.hid (show tabS l = ln8 by rw [h8]; exact tab8)
    have t8 : (X.toList == [78, 97, 109, 101]) = true := by rw [HX.out, h8]; rfl
    have p8 : X.toList = [78, 97, 109, 101] := by rw [HX.out, h8]; rfl
    rw [HT.out]
    clear h0 h1 h2 h3 h4 h5 h6 h7 h8 HT HX
    go_enter Try.func20, Try.ntmps20
    go_wp2_with fail
    go_ret
    exact ⟨by kernel_rfl, rfl⟩
  have t8 : (X.toList == [78, 97, 109, 101]) = false := by rw [HX.out]; exact beq_eq_false_iff_ne.2 h8
  have p8 : ¬ X.toList = [78, 97, 109, 101] := by rw [HX.out]; exact h8
  by_cases h9 : l = nm9
  · have HT := Lib.hid (show tabS l = ln9 by rw [h9]; exact tab9)
    have t9 : (X.toList == [78, 97, 109, 101, 67, 111, 109, 112, 111, 110, 101, 110, 116]) = true := by rw [HX.out, h9]; rfl
    have p9 : X.toList = [78, 97, 109, 101, 67, 111, 109, 112, 111, 110, 101, 110, 116] := by rw [HX.out, h9]; rfl
    rw [HT.out]
    clear h0 h1 h2 h3 h4 h5 h6 h7 h8 h9 HT HX
    go_enter Try.func20, Try.ntmps20
    go_wp2_with fail
    go_ret
    exact ⟨by kernel_rfl, rfl⟩
  have t9 : (X.toList == [78, 97, 109, 101, 67, 111, 109, 112, 111, 110, 101, 110, 116]) = false := by rw [HX.out]; exact beq_eq_false_iff_ne.2 h9
  have p9 : ¬ X.toList = [78, 97, 109, 101, 67, 111, 109, 112, 111, 110, 101, 110, 116] := by rw [HX.out]; exact h9
  by_cases h10 : l = nm10
  · have HT := Lib.hid (show tabS l = ln10 by rw [h10]; exact tab10)
    have t10 : (X.toList == [78, 105, 99, 107, 110, 97, 109, 101]) = true := by rw [HX.out, h10]; rfl
    have p10 : X.toList = [78, 105, 99, 107, 110, 97, 109, 101] := by rw [HX.out, h10]; rfl
    rw [HT.out]
    clear h0 h1 h2 h3 h4 h5 h6 h7 h8 h9 h10 HT HX
    go_enter Try.func20, Try.ntmps20
    go_wp2_with fail
    go_ret
    exact ⟨by kernel_rfl, rfl⟩
  have t10 : (X.toList == [78, 105, 99, 107, 110, 97, 109, 101]) = false := by rw [HX.out]; exact beq_eq_false_iff_ne.2 h10
  have p10 : ¬ X.toList = [78, 105, 99, 107, 110, 97, 109, 101] := by rw [HX.out]; exact h10
  by_cases h11 : l = nm11
  · have HT := Lib.hid (show tabS l = ln11 by rw [h11]; exact tab11)
    have t11 : (X.toList == [78, 111, 116, 101]) = true := by rw [HX.out, h11]; rfl
    have p11 : X.toList = [78, 111, 116, 101] := by rw [HX.out, h11]; rfl
    rw [HT.out]
    clear h0 h1 h2 h3 h4 h5 h6 h7 h8 h9 h10 h11 HT HX
    go_enter Try.func20, Try.ntmps20
    go_wp2_with fail
    go_ret
    exact ⟨by kernel_rfl, rfl⟩
  have t11 : (X.toList == [78, 111, 116, 101]) = false := by rw [HX.out]; exact beq_eq_false_iff_ne.2 h11
  have p11 : ¬ X.toList = [78, 111, 116, 101] := by rw [HX.out]; exact h11
  by_cases h12 : l = nm12
  · have HT := Lib.hid (show tabS l = ln12 by rw [h12]; exact tab12)
    have t12 : (X.toList == [79, 110, 108, 105, 110, 101, 83, 101, 114, 118, 105, 99, 101]) = true := by rw [HX.out, h12]; rfl
    have p12 : X.toList = [79, 110, 108, 105, 110, 101, 83, 101, 114, 118, 105, 99, 101] := by rw [HX.out, h12]; rfl
    rw [HT.out]
    clear h0 h1 h2 h3 h4 h5 h6 h7 h8 h9 h10 h11 h12 HT HX
    go_enter Try.func20, Try.ntmps20
    go_wp2_with fail
    go_ret
    exact ⟨by kernel_rfl, rfl⟩
  have t12 : (X.toList == [79, 110, 108, 105, 110, 101, 83, 101, 114, 118, 105, 99, 101]) = false := by rw [HX.out]; exact beq_eq_false_iff_ne.2 h12
  have p12 : ¬ X.toList = [79, 110, 108, 105, 110, 101, 83, 101, 114, 118, 105, 99, 101] := by rw [HX.out]; exact h12
  by_cases h13 : l = nm13
  · have HT := Lib.hid (show tabS l = ln13 by rw [h13]; exact tab13)
    have t13 : (X.toList == [79, 114, 103, 85, 110, 105, 116]) = true := by rw [HX.out, h13]; rfl
    have p13 : X.toList = [79, 114, 103, 85, 110, 105, 116] := by rw [HX.out, h13]; rfl
    rw [HT.out]
    clear h0 h1 h2 h3 h4 h5 h6 h7 h8 h9 h10 h11 h12 h13 HT HX
    go_enter Try.func20, Try.ntmps20
    go_wp2_with fail
    go_ret
    exact ⟨by kernel_rfl, rfl⟩
  have t13 : (X.toList == [79, 114, 103, 85, 110, 105, 116]) = false := by rw [HX.out]; exact beq_eq_false_iff_ne.2 h13
  have p13 : ¬ X.toList = [79, 114, 103, 85, 110, 105, 116] := by rw [HX.out]; exact h13
  by_cases h14 : l = nm14
  · have HT := Lib.hid (show tabS l = ln14 by rw [h14]; exact tab14)
    have t14 : (X.toList == [79, 114, 103, 97, 110, 105, 122, 97, 116, 105, 111, 110]) = true := by rw [HX.out, h14]; rfl
    have p14 : X.toList = [79, 114, 103, 97, 110, 105, 122, 97, 116, 105, 111, 110] := by rw [HX.out, h14]; rfl
    rw [HT.out]
    clear h0 h1 h2 h3 h4 h5 h6 h7 h8 h9 h10 h11 h12 h13 h14 HT HX
    go_enter Try.func20, Try.ntmps20
    go_wp2_with fail
    go_ret
    exact ⟨by kernel_rfl, rfl⟩
  have t14 : (X.toList == [79, 114, 103, 97, 110, 105, 122, 97, 116, 105, 111, 110]) = false := by rw [HX.out]; exact beq_eq_false_iff_ne.2 h14
  have p14 : ¬ X.toList = [79, 114, 103, 97, 110, 105, 122, 97, 116, 105, 111, 110] := by rw [HX.out]; exact h14
  by_cases h15 : l = nm15
  · have HT := Lib.hid (show tabS l = ln15 by rw [h15]; exact tab15)
    have t15 : (X.toList == [80, 97, 114, 116, 105, 97, 108, 68, 97, 116, 101]) = true := by rw [HX.out, h15]; rfl
    have p15 : X.toList = [80, 97, 114, 116, 105, 97, 108, 68, 97, 116, 101] := by rw [HX.out, h15]; rfl
    rw [HT.out]
    clear h0 h1 h2 h3 h4 h5 h6 h7 h8 h9 h10 h11 h12 h13 h14 h15 HT HX
    go_enter Try.func20, Try.ntmps20
    go_wp2_with fail
    go_ret
    exact ⟨by kernel_rfl, rfl⟩
  have t15 : (X.toList == [80, 97, 114, 116, 105, 97, 108, 68, 97, 116, 101]) = false := by rw [HX.out]; exact beq_eq_false_iff_ne.2 h15
  have p15 : ¬ X.toList = [80, 97, 114, 116, 105, 97, 108, 68, 97, 116, 101] := by rw [HX.out]; exact h15
  by_cases h16 : l = nm16
  · have HT := Lib.hid (show tabS l = ln16 by rw [h16]; exact tab16)
    have t16 : (X.toList == [80, 104, 111, 110, 101]) = true := by rw [HX.out, h16]; rfl
    have p16 : X.toList = [80, 104, 111, 110, 101] := by rw [HX.out, h16]; rfl
    rw [HT.out]
    clear h0 h1 h2 h3 h4 h5 h6 h7 h8 h9 h10 h11 h12 h13 h14 h15 h16 HT HX
    go_enter Try.func20, Try.ntmps20
    go_wp2_with fail
    go_ret
    exact ⟨by kernel_rfl, rfl⟩
  have t16 : (X.toList == [80, 104, 111, 110, 101]) = false := by rw [HX.out]; exact beq_eq_false_iff_ne.2 h16
  have p16 : ¬ X.toList = [80, 104, 111, 110, 101] := by rw [HX.out]; exact h16
  by_cases h17 : l = nm17
  · have HT := Lib.hid (show tabS l = ln17 by rw [h17]; exact tab17)
    have t17 : (X.toList == [82, 101, 108, 97, 116, 105, 111, 110]) = true := by rw [HX.out, h17]; rfl
    have p17 : X.toList = [82, 101, 108, 97, 116, 105, 111, 110] := by rw [HX.out, h17]; rfl
    rw [HT.out]
    clear h0 h1 h2 h3 h4 h5 h6 h7 h8 h9 h10 h11 h12 h13 h14 h15 h16 h17 HT HX
    go_enter Try.func20, Try.ntmps20
    go_wp2_with fail
    go_ret
    exact ⟨by kernel_rfl, rfl⟩
  have t17 : (X.toList == [82, 101, 108, 97, 116, 105, 111, 110]) = false := by rw [HX.out]; exact beq_eq_false_iff_ne.2 h17
  have p17 : ¬ X.toList = [82, 101, 108, 97, 116, 105, 111, 110] := by rw [HX.out]; exact h17
  by_cases h18 : l = nm18
  · have HT := Lib.hid (show tabS l = ln18 by rw [h18]; exact tab18)
    have t18 : (X.toList == [84, 105, 109, 101, 115, 116, 97, 109, 112]) = true := by rw [HX.out, h18]; rfl
    have p18 : X.toList = [84, 105, 109, 101, 115, 116, 97, 109, 112] := by rw [HX.out, h18]; rfl
    rw [HT.out]
    clear h0 h1 h2 h3 h4 h5 h6 h7 h8 h9 h10 h11 h12 h13 h14 h15 h16 h17 h18 HT HX
    go_enter Try.func20, Try.ntmps20
    go_wp2_with fail
    go_ret
    exact ⟨by kernel_rfl, rfl⟩
  have t18 : (X.toList == [84, 105, 109, 101, 115, 116, 97, 109, 112]) = false := by rw [HX.out]; exact beq_eq_false_iff_ne.2 h18
  have p18 : ¬ X.toList = [84, 105, 109, 101, 115, 116, 97, 109, 112] := by rw [HX.out]; exact h18
  by_cases h19 : l = nm19
  · have HT := Lib.hid (show tabS l = ln19 by rw [h19]; exact tab19)
    have t19 : (X.toList == [84, 105, 116, 108, 101]) = true := by rw [HX.out, h19]; rfl
    have p19 : X.toList = [84, 105, 116, 108, 101] := by rw [HX.out, h19]; rfl
    rw [HT.out]
    clear h0 h1 h2 h3 h4 h5 h6 h7 h8 h9 h10 h11 h12 h13 h14 h15 h16 h17 h18 h19 HT HX
    go_enter Try.func20, Try.ntmps20
    go_wp2_with fail
    go_ret
    exact ⟨by kernel_rfl, rfl⟩
  have t19 : (X.toList == [84, 105, 116, 108, 101]) = false := by rw [HX.out]; exact beq_eq_false_iff_ne.2 h19
  have p19 : ¬ X.toList = [84, 105, 116, 108, 101] := by rw [HX.out]; exact h19
  have HT := Lib.hid (show tabS l = [] from tab_no h0 h1 h2 h3 h4 h5 h6 h7 h8 h9 h10 h11 h12 h13 h14 h15 h16 h17 h18 h19)
  rw [HT.out]
  clear h0 h1 h2 h3 h4 h5 h6 h7 h8 h9 h10 h11 h12 h13 h14 h15 h16 h17 h18 h19 HT HX
  go_enter Try.func20, Try.ntmps20
  go_wp2_with fail
  go_ret
  exact ⟨rfl, rfl⟩
end Go.Proofs.Ythfladbanghkiaa.Sm
namespace Go.Proofs.Ythfladbanghkiaa.Sm
open Go.Proofs Go.RowKit
open Go.Proofs.Ythfladbanghkiaa.Utf
open Go.Proofs.Ythfladbanghkiaa.Nu
open Go.Proofs.Ythfladbanghkiaa.Wo

theorem infoRP : (Try.prog.info? 32).map (fun i => (i.zero, i.size, i.bytes)) = some (some (.agg #[.string ⟨#[]⟩, .int .i64 0, .string ⟨#[]⟩, .bool false, .string ⟨#[]⟩]), 5, 64) := by kernel_rfl
theorem own_down {w : World} {B B' E s n : Nat} {v : Value} {xs : List Value} (h : w.ownsRow B E s v n xs) (hb : B' ≤ B) : w.ownsRow B' E s v n xs :=
  ⟨h.1, h.2.imp id fun ⟨g, cap, cur, h1, h2, h3⟩ => ⟨g, cap, cur, h1, Nat.le_trans hb h2, h3⟩⟩
theorem one5 (a : ByteArray) (f : Int) (b : ByteArray) (m : Bool) (d : ByteArray) : ∀ u ∈ [Value.string a, .int .i64 f, .string b, .bool m, .string d], u.oneCell' = true := by
  intro u hu
  simp only [List.mem_cons, List.not_mem_nil, or_false] at hu
  rcases hu with rfl | rfl | rfl | rfl | rfl <;> rfl

set_option maxRecDepth 100000 in
set_option maxHeartbeats 2000000 in
theorem rProps_any (X : ByteArray) (w : World) : Calls Try.prog 11 #[.string X] w (GivesPr 32 (propsS X.data.toList) w) := by
  obtain ⟨i0, hi, hz0, hz1, hz2⟩ := info_parts infoRP
  have HT := Lib.hid (fun W => table_any X W)
  have HP := Lib.hid (show propsS X.data.toList = if tabS X.data.toList = [] then [] else lineP (tabS X.data.toList) from rfl)
  have HOK := Lib.hid (fun h => tab_ok (l := X.data.toList) h)
  have HTL := Lib.hid (tab_len X.data.toList)
  generalize propsS X.data.toList = L at *
  generalize tabS X.data.toList = T at *
  by_cases h0 : T = []
  · have HL := Lib.hid (show L = [] by rw [HP.out, if_pos h0])
    rw [h0] at HT
    rw [HL.out]
    rw [show strOf [] = (⟨#[]⟩ : ByteArray) from rfl] at HT
    clear h0
    go_enter Try.func11, Try.ntmps11
    go_wp2_with fail
    refine (HT.out _).mono ?_
    rintro e w1 ⟨rfl, rfl⟩
    go_wp2_with fail
    go_ret
    exact ⟨_, rfl, World.ownsRow_nil _ _ _ _, Below.refl _ _⟩
  · have HL := Lib.hid (show L = lineP T by rw [HP.out, if_neg h0])
    obtain ⟨hok, -⟩ := HOK.out h0
    have t0 : ((strOf T).toList == []) = false := by rw [strOf_list]; exact beq_eq_false_iff_ne.2 h0
    have t0' : ¬ (strOf T).toList = [] := by rw [strOf_list]; exact h0
    have HS := Lib.hid (fun W => Split_any (strOf T) 59 W (by rw [strOf_size]; have := HTL.out; omega) (by
      have := spl_cnt 59 T
      have := HTL.out
      rw [strOf_data]; omega))
    rw [strOf_data, show ((59 : UInt8).toNat : Int) = 59 from rfl] at HS
    have HPL := Lib.hid (show ∀ k (h : k < (spl 59 T).length) (h2 : k < L.length), propF (spl 32 (spl 59 T)[k]) = some L[k] ∧ (spl 59 T)[k].length ≤ 400 from fun k h h2 => by
      have h3 := hok _ (List.getElem_mem h)
      refine ⟨?_, ?_⟩
      · rw [okQ_get h3]
        simp only [HL.out, lineP, List.getElem_map]
      · unfold okQ at h3
        rw [Bool.and_eq_true, decide_eq_true_eq] at h3
        exact h3.2)
    have HLN := Lib.hid (show L.length = (spl 59 T).length by rw [HL.out, lineP, List.length_map])
    have HCN := Lib.hid (spl_cnt 59 T)
    generalize spl 59 T = ps at *
    generalize strOf T = TT at *
    obtain ⟨n, hn⟩ : ∃ n, ps.length = n := ⟨_, rfl⟩
    have HN := Lib.hid hn
    have hn2 : n ≤ 701 := by have := HCN.out; have := HTL.out; omega
    clear h0 hok hn
    go_enter Try.func11, Try.ntmps11
    go_wp2_with fail
    refine (HT.out _).mono ?_
    rintro e w1 ⟨rfl, rfl⟩
    go_wp2_with fail
    refine (HS.out _).mono ?_
    rintro e W1 ⟨v0, rfl, hown, hb⟩
    have HB1 := Lib.hid hb
    obtain ⟨A, cp, rfl, hx⟩ := Rd.of_own hown
    have HX := Lib.hid hx
    rw [strK_len, HN.out]
    clear hown hb hx
    go_wp2_with fail
    go_loopw [4, 6] (fun v i wr => ∃ k : Nat, i = .int .i64 (k : Int) ∧ k ≤ n ∧ Aside (wr.ownsRow W1.heap.size 32 5 v k (prsC (L.take k))) ∧ Aside (Below W1.heap.size W1 wr)) (fun _ i _ => n - (intOf i).toNat)
    case atStart => exact ⟨0, rfl, by omega, (show World.ownsRow _ _ _ _ _ _ _ from World.ownsRow_nil _ _ _ _), (show Below _ _ _ from Below.refl _ _)⟩
    case round =>
      obtain ⟨k, rfl, hk, hrow, hbel⟩ := hrel
      have HRW := Lib.hid hrow.out
      have HBE := Lib.hid hbel.out
      clear hrow hbel
      by_cases hlt : k < n
      · have t1 : decide ((k : Int) < (n : Int)) = true := decide_eq_true (by omega)
        have t2 : decide (k < n) = true := decide_eq_true hlt
        have k0 : (0 : Int) ≤ (k : Int) := by omega
        have k1 : (k : Int) < (n : Int) := by omega
        have k2 : ((k : Int)).toNat = k := by omega
        have hkl : k < ps.length := by rw [HN.out]; exact hlt
        have hkL : k < L.length := by rw [HLN.out]; exact hkl
        obtain ⟨ad, rfl, had, hc⟩ := HX.out (by rw [strK_len]; omega)
        have ap := (HBE.out.cell (p := ad.add k) (by rw [blk_add]; exact had)).trans (hc k _ (strK_at ps k hkl))
        obtain ⟨hp1, hp2⟩ := HPL.out k hkl hkL
        have HC := Lib.hid (fun W => prop_any ps[k] L[k] W hp2 hp1)
        have HTK := Lib.hid (show prsC (L.take (k + 1)) = prsC (L.take k) ++ prC L[k] by rw [List.take_succ_eq_append_getElem hkL, prsC_app, prsC_one])
        have HTE := Lib.hid (show (L.take k).length = k by rw [List.length_take]; omega)
        generalize L[k] = P at *
        generalize strOf ps[k] = Q at *
        clear hc hp1 hp2
        go_wp2_with fail
        refine (HC.out _).mono ?_
        rintro e w2 ⟨rfl, hb⟩
        have hown := own_below HRW.out hb
        have HB2 := Lib.hid (HBE.out.trans (hb.mono HBE.out.size))
        have HBS := Lib.hid HB2.out.size
        unfold prV
        have HPC := Lib.hid (show prC P = [.string (strOf P.nm), .int .i64 P.fm, .string (strOf P.ar), .bool P.mu, .string (strOf P.df)] from rfl)
        generalize strOf P.nm = p0 at *
        generalize P.fm = p1 at *
        generalize strOf P.ar = p2 at *
        generalize P.mu = p3 at *
        generalize strOf P.df = p4 at *
        clear hb
        go_wp2_with (at_builtin; refine wpList_append_lies _ rfl _ _ 27 rfl W1.heap.size 32 i0 _ 5 64 Try.underlying27 hi hz0 hz1 hz2 (by rfl) (by decide) u4 k (prsC (L.take k)) rfl (hown.alloc _) ⟨w2.heap.size, 0, none⟩ 1 1 [.string p0, .int .i64 p1, .string p2, .bool p3, .string p4] rfl rfl (cells_new _ _ _) (one5 _ _ _ _ _) ?_ ?_ ?_ ?_ _ rfl ?_; omega; (unfold maxLen; omega); omega; (have := HBS.out; simp; omega); intro g cap w3 hown3 hg3 hat hgl)
        have HO3 := Lib.hid (show w3.ownsRow W1.heap.size 32 5 (.slice (some ⟨g, 0, none⟩) (k + 1) cap) (k + 1) (prsC (L.take (k + 1))) by
          rw [HTK.out, HPC.out]; exact hown3)
        have HB3 := Lib.hid (show Below W1.heap.size W1 w3 from (HB2.out.alloc HBS.out _).grown hg3 (by have := HBS.out; simp; omega) (fun k hk => (hown.lt k hk).1))
        clear hown hown3 hg3 hat
        go_wp2_with fail
        go_roundw
        case rel => exact ⟨k + 1, by go_num, by omega, HO3.out, HB3.out⟩
        case measure => simp [intOf]; omega
      · have t1 : decide ((k : Int) < (n : Int)) = false := decide_eq_false (by omega)
        have t2 : decide (k < n) = false := decide_eq_false hlt
        have HLE := Lib.hid (show k = L.length by rw [HLN.out, HN.out]; omega)
        have HO3 := Lib.hid (show wr.ownsRow w.heap.size 32 5 u4 L.length (prsC L) by
          have h := HRW.out
          rw [HLE.out, List.take_of_length_le (Nat.le_refl _)] at h
          exact own_down h HB1.out.size)
        go_wp2_with fail
        go_ret
        exact ⟨_, rfl, HO3.out, HB1.out.trans (HBE.out.mono HB1.out.size)⟩
end Go.Proofs.Ythfladbanghkiaa.Sm
namespace Go.Proofs.Ythfladbanghkiaa.Sm
open Go.Proofs Go.RowKit
open Go.Proofs.Ythfladbanghkiaa.Utf
open Go.Proofs.Ythfladbanghkiaa.Nu
open Go.Proofs.Ythfladbanghkiaa.Wo

def fndV (o : Option Pr) : Value := match o with
  | some p => .tuple #[prV p, .bool true]
  | none => .tuple #[prV Pr.zero, .bool false]
theorem find_hit {L : List Pr} {n : List UInt8} {k : Nat} (hk : k < L.length) (h : L[k].nm = n) (h2 : ∀ j (hj : j < L.length), j < k → L[j].nm ≠ n) : findP L n = some L[k] := by
  unfold findP
  induction L generalizing k with
  | nil => simp at hk
  | cons a r ih =>
    cases k with
    | zero =>
      have h' : a.nm = n := h
      rw [List.find?_cons, decide_eq_true h']; rfl
    | succ j =>
      have h3 : a.nm ≠ n := h2 0 (by simp) (by omega)
      rw [List.find?_cons, decide_eq_false h3]
      exact ih (k := j) (by simpa using hk) h (fun i hi hij => h2 (i + 1) (by simpa using hi) (by omega))
theorem find_miss {L : List Pr} {n : List UInt8} (h : ∀ j (hj : j < L.length), L[j].nm ≠ n) : findP L n = none := by
  unfold findP
  rw [List.find?_eq_none]
  intro p hp
  obtain ⟨j, hj, rfl⟩ := List.getElem_of_mem hp
  simpa using h j hj

end Go.Proofs.Ythfladbanghkiaa.Sm
