import Derived.Test.YtbepnjgbkfidiaaTtE
import Derived.Test.YtbepnjgbkfidiaaTtB
import Derived.Deep.MidRow
/- What spoils a value: it writes into the value's own blocks alone. Written by tools/genTsP.py. -/
namespace Go.Proofs.Ytbepnjgbkfidiaa.Tr
open Go.Proofs Go.RowKit Go.Lib
open Go.Proofs.Ytbepnjgbkfidiaa.Utf
open Go.Proofs.Ytbepnjgbkfidiaa.Sc
open Go.Proofs.Ytbepnjgbkfidiaa.Re

theorem setCells_size (b : Nat) : ∀ (vs : List Value) (o : Nat) (w : World), (w.setCells b o vs).heap.size = w.heap.size
  | [], _, _ => rfl
  | v :: r, o, w => by rw [World.setCells, setCells_size b r]; simp
theorem setCells_other {b k : Nat} (hk : k ≠ b) : ∀ (vs : List Value) (o : Nat) (w : World), (w.setCells b o vs).heap[k]? = w.heap[k]?
  | [], _, _ => rfl
  | v :: r, o, w => by rw [World.setCells, setCells_other hk r, Below.heap_setCell _ _ _ k hk]
theorem setCells_chg (b : Nat) (F : List Nat) (hb : b ∈ F) : ∀ (vs : List Value) (o : Nat) (w : World), ChgF F w (w.setCells b o vs)
  | [], _, w => ChgF.refl _ _
  | v :: r, o, w => by
    rw [World.setCells]
    exact (show ChgF F w (w.setCell ⟨b, o, none⟩ v) from ⟨rfl, rfl, rfl, by simp, fun k _ hk => Below.heap_setCell _ _ _ k (fun e => hk (by rw [e]; exact hb))⟩).trans (setCells_chg b F hb r (o + 1) _)
theorem CellsAt.apart {w : World} {g o : Nat} {cs : List Value} (h : CellsAt w g o cs) (o' : Nat) (vs : List Value) (ha : o + cs.length ≤ o' ∨ o' + vs.length ≤ o) : CellsAt (w.setCells g o' vs) g o cs := fun j u hu => by
  have hj : j < cs.length := (List.getElem?_eq_some_iff.1 hu).1
  obtain ⟨h1, h2⟩ := h j u hu
  refine ⟨?_, by rw [World.frozen?_setCells]; exact h2⟩
  rw [World.cell?_setCells_out g vs o' w ⟨g, o + j, none⟩ (fun _ _ => by simp only; omega)]
  exact h1
theorem CellsAt.there {w : World} {g o : Nat} {cs : List Value} (h : CellsAt w g o cs) : w.there g o cs.length := fun j hj => by
  obtain ⟨h1, h2⟩ := h j cs[j] (List.getElem?_eq_getElem hj)
  exact ⟨by rw [h1]; rfl, h2⟩
/-- what is still to be spoilt of a list: items from j on are as they were -/
def Spd (s o0 : Nat) (B : Option Addr) (l : List V) (F : List Nat) (j : Nat) (w : World) : Prop :=
  l.length = 0 ∨ ∃ (g : Nat) (Gs : List (List Nat)), 0 < l.length ∧ B = some ⟨g, 0, none⟩ ∧ Gs.length = l.length ∧ F = g :: Gs.flatten ∧ F.Nodup ∧ (∀ x ∈ F, x < w.heap.size) ∧
    ∀ i (h1 : i < l.length) (h2 : i < Gs.length), j ≤ i → ∃ pre cs, pre.length = o0 ∧ (∀ u ∈ pre, u.oneCell' = true) ∧ CellsAt w g (i * s) (pre ++ cs) ∧ RdF w l[i] cs Gs[i]
theorem Spd.at_ {s o0 j : Nat} {B : Option Addr} {l : List V} {F : List Nat} {w : World} (h : Spd s o0 B l F j w) (hj : j < l.length) : ∃ g G pre cs, B = some ⟨g, 0, none⟩ ∧ g ∈ F ∧ (∀ x ∈ G, x ∈ F) ∧ g ∉ G ∧ G.Nodup ∧ (∀ x ∈ F, x < w.heap.size) ∧ pre.length = o0 ∧ CellsAt w g (j * s) (pre ++ cs) ∧ RdF w l[j] cs G ∧
    ∀ (w1 : World) (vs : List Value), ChgF G w w1 → vs.length = s → pre.length + cs.length = s → CellsAt w1 g (j * s) (pre ++ cs) ∧ Spd s o0 B l F (j + 1) (w1.setCells g (j * s) vs) ∧ ChgF F w (w1.setCells g (j * s) vs) := by
  rcases h with h | ⟨g, Gs, h0, e, hg, hF, hn, hlt, hat⟩
  · omega
  · have hjg : j < Gs.length := by rw [hg]; exact hj
    obtain ⟨pre, cs, hp, hone, hc, hr⟩ := hat j hj hjg (Nat.le_refl _)
    have hn' := hn
    rw [hF, List.nodup_cons] at hn'
    have hgG : g ∉ Gs[j] := fun hx => hn'.1 (mem_flat hjg hx)
    have hsub : ∀ x ∈ Gs[j], x ∈ F := fun x hx => by rw [hF]; exact List.mem_cons_of_mem _ (mem_flat hjg hx)
    have hgF : g ∈ F := by rw [hF]; simp
    refine ⟨g, Gs[j], pre, cs, e, hgF, hsub, hgG, nodup_part _ hn'.2 j hjg, hlt, hp, hc, hr, fun w1 vs hch hvs hpc => ⟨?_, ?_, ?_⟩⟩
    · exact hc.keep (hch.block g (hlt g hgF) hgG)
    · refine .inr ⟨g, Gs, h0, e, hg, hF, hn, fun x hx => by rw [setCells_size]; exact Nat.lt_of_lt_of_le (hlt x hx) hch.size, fun i h1 h2 hij => ?_⟩
      obtain ⟨pre', cs', p1, p2, p3, p4⟩ := hat i h1 h2 (by omega)
      refine ⟨pre', cs', p1, p2, ?_, ?_⟩
      · refine (p3.keep (hch.block g (hlt g hgF) hgG)).apart _ _ (.inr ?_)
        rw [hvs]
        have : (j + 1) * s ≤ i * s := Nat.mul_le_mul_right s hij
        rw [Nat.succ_mul] at this
        exact this
      · refine RdF.keep _ _ _ (fun k hk => ?_) p4
        have hkF : k ∈ F := by rw [hF]; exact List.mem_cons_of_mem _ (mem_flat h2 hk)
        rw [setCells_other (fun e => hn'.1 (by rw [← e]; exact mem_flat h2 hk))]
        exact hch.block k (hlt k hkF) (fun hx => flat_apart i j h2 hjg hn'.2 (by omega) k hk hx)
    · exact (hch.more hsub).trans (setCells_chg g F hgF _ _ _)
theorem Spd.keep {s o0 j : Nat} {B : Option Addr} {l : List V} {F : List Nat} {w w' : World} (h : Spd s o0 B l F j w) (hs : w.heap.size ≤ w'.heap.size) (hk : ∀ x ∈ F, w'.heap[x]? = w.heap[x]?) : Spd s o0 B l F j w' := by
  rcases h with h | ⟨g, Gs, h0, e, hg, hF, hn, hlt, hat⟩
  · exact .inl h
  · refine .inr ⟨g, Gs, h0, e, hg, hF, hn, fun x hx => Nat.lt_of_lt_of_le (hlt x hx) hs, fun i h1 h2 hij => ?_⟩
    obtain ⟨pre, cs, p1, p2, p3, p4⟩ := hat i h1 h2 hij
    exact ⟨pre, cs, p1, p2, p3.keep (hk g (by rw [hF]; simp)), RdF.keep _ _ _ (fun k hk' => hk k (by rw [hF]; exact List.mem_cons_of_mem _ (mem_flat h2 hk'))) p4⟩
theorem Spd.start5 {w : World} {A : Option Addr} {l : List V} {F : List Nat} (hF : (l.length = 0 ∧ F = []) ∨ ∃ g T, 0 < l.length ∧ A = some ⟨g, 0, none⟩ ∧ F = g :: T ∧ RdFL w g 0 l T) (hn : F.Nodup) (hlt : ∀ x ∈ F, x < w.heap.size) : Spd 5 0 A l F 0 w := by
  rcases hF with ⟨h, rfl⟩ | ⟨g, T, h0, e, rfl, hr⟩
  · exact .inl h
  · obtain ⟨Fs, f1, rfl, f3⟩ := RdFL.items l T 0 hr
    refine .inr ⟨g, Fs, h0, e, f1, rfl, hn, hlt, fun i h1 h2 _ => ?_⟩
    obtain ⟨cs, p1, p2⟩ := f3 i h1 h2
    rw [Nat.zero_add] at p1
    exact ⟨[], cs, rfl, (fun u h => by cases h), p1, p2⟩
theorem Spd.start6 {w : World} {A : Option Addr} {ns : List (List UInt8)} {l : List V} {F : List Nat} (hns : ns.length = l.length) (hF : (l.length = 0 ∧ F = []) ∨ ∃ g T, 0 < l.length ∧ A = some ⟨g, 0, none⟩ ∧ F = g :: T ∧ RdFM w g 0 ns l T) (hn : F.Nodup) (hlt : ∀ x ∈ F, x < w.heap.size) : Spd 6 1 A l F 0 w := by
  rcases hF with ⟨h, rfl⟩ | ⟨g, T, h0, e, rfl, hr⟩
  · exact .inl h
  · obtain ⟨Fs, f1, rfl, f3⟩ := RdFM.items l ns T 0 hr hns
    refine .inr ⟨g, Fs, h0, e, f1, rfl, hn, hlt, fun i h1 h2 _ => ?_⟩
    obtain ⟨cs, p1, p2⟩ := f3 i h1 h2 (by rw [hns]; exact h1)
    rw [Nat.zero_add] at p1
    exact ⟨[.string (strOf (ns[i]'(by rw [hns]; exact h1)))], cs, rfl, (fun u h => by rw [List.mem_singleton.1 h]; rfl), p1, p2⟩
def SplCon (v : V) : Prop := ∀ (cs : List Value) (F : List Nat) (w : World), RdF w v cs F → F.Nodup → (∀ x ∈ F, x < w.heap.size) → Calls Try.prog 23 #[.agg cs.toArray, .bool true] w fun e w' => e = .returned (.tuple #[]) ∧ ChgF F w w'

set_option maxRecDepth 100000 in
set_option maxHeartbeats 1000000 in
theorem Spoil_any (h : Nat) : ∀ v : V, ht v ≤ h → szA 140737488355328 v → SplCon v := by
  induction h with
  | zero => intro v hh; rw [ht_eq] at hh; omega
  | succ h ih =>
    intro v hh hz cs F w hv hnd hlt
    obtain ⟨-, -, -, z4, z5, -, z7, z8⟩ := (szA_eq _ v).1 hz
    have hht := ht_eq v
    have IHL := Lib.hid (show ∀ x ∈ v.l, SplCon x from fun x hx => ih x (by have := htL_mem hx; omega) (szAL_mem z7 hx))
    have IHM := Lib.hid (show ∀ x ∈ v.ms, SplCon x from fun x hx => ih x (by have := htL_mem hx; omega) (szAL_mem z8 hx))
    have HINF1 := Lib.hid (show (Try.prog.info? 50).map (·.size) = some 6 by kernel_rfl)
    have HINF2 := Lib.hid (show (Try.prog.info? 25).map (·.size) = some 5 by kernel_rfl)
    obtain ⟨A1, c1, A2, c2, FL, FM, rfl, hn, rfl, hFL, hFM⟩ := hv.cells
    rw [List.nodup_append] at hnd
    have HND := Lib.hid hnd
    have HLT := Lib.hid hlt
    obtain ⟨l, hll⟩ : ∃ x, v.l.length = x := ⟨_, rfl⟩
    obtain ⟨m, hmm⟩ : ∃ x, v.ms.length = x := ⟨_, rfl⟩
    have HL := Lib.hid hll
    have HM := Lib.hid hmm
    have HNF := Lib.hid (show w.heap.size ∉ FL ++ FM from fun hx => by have := hlt _ hx; omega)
    have HLM := Lib.hid (Spd.start6 hn hFM hnd.2.1 (fun x hx => hlt x (by simp [hx])))
    have HLL := Lib.hid (Spd.start5 hFL hnd.1 (fun x hx => hlt x (by simp [hx])))
    rw [hll] at z4 ⊢
    rw [hmm] at z5 ⊢
    clear ih hh hz z7 z8 hht hv hFL hFM hn hnd hlt hll hmm
    generalize v.k = k
    generalize v.n = n
    generalize strOf v.s = S
    obtain ⟨W0, hW0⟩ : ∃ W0, W0 = w.alloc (.cells #[.int .i64 k, .int .i64 n, .string S, .slice A1 l c1, .slice A2 m c2] 25) := ⟨_, rfl⟩
    have HB0 := Lib.hid (show Below w.heap.size w W0 by rw [hW0]; exact (Below.refl _ _).alloc (Nat.le_refl _) _)
    have HS0 := Lib.hid (show W0.heap.size = w.heap.size + 1 by rw [hW0, szAl])
    have HR0 := Lib.hid (show W0.heap[w.heap.size]? = some (.cells #[.int .i64 k, .int .i64 n, .string S, .slice A1 l c1, .slice A2 m c2] 25 (0, 0)) by rw [hW0]; exact heapNew _ _)
    have HLM0 := Lib.hid (HLM.out.keep HB0.out.size (fun x hx => HB0.out.block x (HLT.out x (by simp [hx]))))
    have HW0 := Lib.hid hW0
    clear hW0 HLM
    go_enter Try.func23, Try.ntmps23
    go_wp2_with fail
    rw [← HW0.out]
    go_loopw [4] (fun i wr => ∃ kk : Nat, i = .int .i64 kk ∧ kk ≤ m ∧ Aside (Spd 6 1 A2 v.ms FM kk wr) ∧ Aside (ChgF FM W0 wr)) (fun i _ => m - (intOf i).toNat)
    case atStart => exact ⟨0, rfl, by omega, (show Spd _ _ _ _ _ _ _ from HLM0.out), (show ChgF _ _ _ from ChgF.refl _ _)⟩
    case round =>
      obtain ⟨kk, rfl, hk, hlp, hch⟩ := hrel
      have HROW := Lib.hid ((hch.out.block w.heap.size (by rw [HS0.out]; omega) (fun hx => HNF.out (by simp [hx]))).trans HR0.out)
      obtain ⟨⟨p0, p1, p2, p3, p4⟩, -⟩ := row5 HROW.out
      by_cases hlt : kk < m
      · have t1 : decide ((kk : Int) < (m : Int)) = true := decide_eq_true (by omega)
        have t2 : decide (kk < m) = true := decide_eq_true hlt
        have k0 : (0 : Int) ≤ (kk : Int) := by omega
        have k1 : (kk : Int) < (m : Int) := by omega
        have k2 : ((kk : Int)).toNat = kk := by omega
        have hkl : kk < v.ms.length := by rw [HM.out]; exact hlt
        obtain ⟨g, G, pre, xcs, rfl, hgF, hGF, hgG, hGn, hFl, hpl, hcs, hxv, hstep⟩ := Spd.at_ hlp.out hkl
        have hCP := IHM.out _ (List.getElem_mem hkl) xcs G wr hxv hGn (fun x hx => hFl x (hGF x hx))
        obtain ⟨xA, xc, xB, xd, _, _, rfl, -⟩ := hxv.cells
        obtain ⟨pv, rfl⟩ : ∃ pv, pre = [pv] := by
          match pre, hpl with
          | [a], _ => exact ⟨a, rfl⟩
        have hc5 : CellsAt wr g (kk * 6) [pv, .int .i64 v.ms[kk].k, .int .i64 v.ms[kk].n, .string (strOf v.ms[kk].s), .slice xA v.ms[kk].l.length xc, .slice xB v.ms[kk].ms.length xd] := hcs
        have a0 := (hc5 1 _ rfl).1
        have a1 := (hc5 2 _ rfl).1
        have a2 := (hc5 3 _ rfl).1
        have a3 := (hc5 4 _ rfl).1
        have a4 := (hc5 5 _ rfl).1
        skip
        have HST := Lib.hid (show ∀ w1 : World, ChgF G wr w1 → w1.there g (kk * 6) 6 ∧ Spd 6 1 (some ⟨g, 0, none⟩) v.ms FM (kk + 1) (w1.setCells g (kk * 6) [.string ⟨#[115, 112, 111, 105, 108, 116]⟩, .int .i64 0, .int .i64 0, .string ⟨#[]⟩, .slice none 0 0, .slice none 0 0]) ∧ ChgF FM wr (w1.setCells g (kk * 6) [.string ⟨#[115, 112, 111, 105, 108, 116]⟩, .int .i64 0, .int .i64 0, .string ⟨#[]⟩, .slice none 0 0, .slice none 0 0]) from fun w1 hw => by
          obtain ⟨s1, s2, s3⟩ := hstep w1 [.string ⟨#[115, 112, 111, 105, 108, 116]⟩, .int .i64 0, .int .i64 0, .string ⟨#[]⟩, .slice none 0 0, .slice none 0 0] hw rfl rfl
          exact ⟨s1.there, s2, s3⟩)
        have HCP := Lib.hid hCP
        have HGF := Lib.hid (show w.heap.size ∉ G from fun hx => HNF.out (by have := hGF _ hx; simp [this]))
        have hlw : w.heap.size < wr.heap.size := (by have := hch.out.size; rw [HS0.out] at this; omega)
        clear hc5 hcs hxv hstep hCP hgF hGF hgG hGn hFl hpl
        generalize v.ms[kk].k = xk at *
        generalize v.ms[kk].n = xn at *
        generalize strOf v.ms[kk].s = xs at *
        generalize v.ms[kk].l.length = xl at *
        generalize v.ms[kk].ms.length = xm at *
        clear hkl
        go_wp2_with fail
        refine HCP.out.mono ?_
        rintro e w5 ⟨rfl, hc5⟩
        obtain ⟨s1, s2, s3⟩ := HST.out w5 hc5
        have HTH := Lib.hid s1
        have HS2' := Lib.hid s2
        have HS3 := Lib.hid s3
        clear p0 p1 p2 p3 p4 a0 a1 a2 a3 a4
        obtain ⟨⟨p0, p1, p2, p3, p4⟩, -⟩ := row5 ((hc5.block w.heap.size hlw HGF.out).trans HROW.out)
        clear s1 s2 s3 hc5 HCP HST
        go_wp2_with (guard_target = wpList _ _ _ (Oper.mk _ (Op.store _ _ _) _ _ _ _ :: _) _ _; refine wpList_store_mid rfl 50 _ _ rfl g (kk * 6) #[.string ⟨#[115, 112, 111, 105, 108, 116]⟩, .int .i64 0, .int .i64 0, .string ⟨#[]⟩, .slice none 0 0, .slice none 0 0] rfl rfl HTH.out HINF1.out (by simp [Value.oneCell']) ?_)
        go_roundw
        case rel => exact ⟨kk + 1, by go_num, by omega, (show Spd _ _ _ _ _ _ _ from HS2'.out), (show ChgF _ _ _ from hch.out.trans HS3.out)⟩
        case measure => simp [intOf]; omega
      · have t1 : decide ((kk : Int) < (m : Int)) = false := decide_eq_false (by omega)
        have t2 : decide (kk < m) = false := decide_eq_false hlt
        obtain ⟨w2, hw2⟩ : ∃ w2, w2 = wr := ⟨_, rfl⟩
        rw [← hw2] at hch p0 p1 p2 p3 p4 HROW hlp ⊢
        have HC2 := Lib.hid hch.out
        have HS2 := Lib.hid hch.out.size
        have HR2 := Lib.hid HROW.out
        have HLL0 := Lib.hid (HLL.out.keep (Nat.le_trans HB0.out.size HS2.out) (fun x hx => (HC2.out.block x (Nat.lt_of_lt_of_le (HLT.out x (by simp [hx])) HB0.out.size) (fun hy => HND.out.2.2 x hx x hy rfl)).trans (HB0.out.block x (HLT.out x (by simp [hx])))))
        clear hw2 hch HROW hlp HLL HLM0
        go_wp2_with fail
        clear t1 t2 hlt hk
        go_loopw [5] (fun i wr => ∃ kk : Nat, i = .int .i64 kk ∧ kk ≤ l ∧ Aside (Spd 5 0 A1 v.l FL kk wr) ∧ Aside (ChgF FL w2 wr)) (fun i _ => l - (intOf i).toNat)
        case atStart => exact ⟨0, rfl, by omega, (show Spd _ _ _ _ _ _ _ from HLL0.out), (show ChgF _ _ _ from ChgF.refl _ _)⟩
        case round =>
          obtain ⟨kk, rfl, hk, hlp, hch⟩ := hrel
          have HROW := Lib.hid (((hch.out).block w.heap.size (by have := HS2.out; have := HS0.out; omega) (fun hx => HNF.out (by simp [hx]))).trans HR2.out)
          obtain ⟨⟨p0, p1, p2, p3, p4⟩, -⟩ := row5 HROW.out
          by_cases hlt : kk < l
          · have t1 : decide ((kk : Int) < (l : Int)) = true := decide_eq_true (by omega)
            have t2 : decide (kk < l) = true := decide_eq_true hlt
            have k0 : (0 : Int) ≤ (kk : Int) := by omega
            have k1 : (kk : Int) < (l : Int) := by omega
            have k2 : ((kk : Int)).toNat = kk := by omega
            have hkl : kk < v.l.length := by rw [HL.out]; exact hlt
            obtain ⟨g, G, pre, xcs, rfl, hgF, hGF, hgG, hGn, hFl, hpl, hcs, hxv, hstep⟩ := Spd.at_ hlp.out hkl
            have hCP := IHL.out _ (List.getElem_mem hkl) xcs G wr hxv hGn (fun x hx => hFl x (hGF x hx))
            obtain ⟨xA, xc, xB, xd, _, _, rfl, -⟩ := hxv.cells
            obtain rfl : pre = [] := List.eq_nil_of_length_eq_zero hpl
            have hc5 : CellsAt wr g (kk * 5) [.int .i64 v.l[kk].k, .int .i64 v.l[kk].n, .string (strOf v.l[kk].s), .slice xA v.l[kk].l.length xc, .slice xB v.l[kk].ms.length xd] := hcs
            have a0 := (hc5 0 _ rfl).1
            have a1 := (hc5 1 _ rfl).1
            have a2 := (hc5 2 _ rfl).1
            have a3 := (hc5 3 _ rfl).1
            have a4 := (hc5 4 _ rfl).1
            simp only [Nat.add_zero] at a0
            have HST := Lib.hid (show ∀ w1 : World, ChgF G wr w1 → w1.there g (kk * 5) 5 ∧ Spd 5 0 (some ⟨g, 0, none⟩) v.l FL (kk + 1) (w1.setCells g (kk * 5) [.int .i64 0, .int .i64 0, .string ⟨#[]⟩, .slice none 0 0, .slice none 0 0]) ∧ ChgF FL wr (w1.setCells g (kk * 5) [.int .i64 0, .int .i64 0, .string ⟨#[]⟩, .slice none 0 0, .slice none 0 0]) from fun w1 hw => by
              obtain ⟨s1, s2, s3⟩ := hstep w1 [.int .i64 0, .int .i64 0, .string ⟨#[]⟩, .slice none 0 0, .slice none 0 0] hw rfl rfl
              exact ⟨s1.there, s2, s3⟩)
            have HCP := Lib.hid hCP
            have HGF := Lib.hid (show w.heap.size ∉ G from fun hx => HNF.out (by have := hGF _ hx; simp [this]))
            have hlw : w.heap.size < wr.heap.size := (by have := hch.out.size; have := HS2.out; have := HS0.out; omega)
            clear hc5 hcs hxv hstep hCP hgF hGF hgG hGn hFl hpl
            generalize v.l[kk].k = xk at *
            generalize v.l[kk].n = xn at *
            generalize strOf v.l[kk].s = xs at *
            generalize v.l[kk].l.length = xl at *
            generalize v.l[kk].ms.length = xm at *
            clear hkl
            go_wp2_with fail
            refine HCP.out.mono ?_
            rintro e w5 ⟨rfl, hc5⟩
            obtain ⟨s1, s2, s3⟩ := HST.out w5 hc5
            have HTH := Lib.hid s1
            have HS2' := Lib.hid s2
            have HS3 := Lib.hid s3
            clear p0 p1 p2 p3 p4 a0 a1 a2 a3 a4
            obtain ⟨⟨p0, p1, p2, p3, p4⟩, -⟩ := row5 ((hc5.block w.heap.size hlw HGF.out).trans HROW.out)
            clear s1 s2 s3 hc5 HCP HST
            go_wp2_with (guard_target = wpList _ _ _ (Oper.mk _ (Op.store _ _ _) _ _ _ _ :: _) _ _; refine wpList_store_mid rfl 25 _ _ rfl g (kk * 5) #[.int .i64 0, .int .i64 0, .string ⟨#[]⟩, .slice none 0 0, .slice none 0 0] rfl rfl HTH.out HINF2.out (by simp [Value.oneCell']) ?_)
            go_roundw
            case rel => exact ⟨kk + 1, by go_num, by omega, (show Spd _ _ _ _ _ _ _ from HS2'.out), (show ChgF _ _ _ from hch.out.trans HS3.out)⟩
            case measure => simp [intOf]; omega
          · have t1 : decide ((kk : Int) < (l : Int)) = false := decide_eq_false (by omega)
            have t2 : decide (kk < l) = false := decide_eq_false hlt
            go_wp2
            go_end0
            refine ⟨rfl, ?_⟩
            exact (ChgF.of HB0.out).trans (((HC2.out).more fun x hx => by simp [hx]).trans ((show ChgF FL w2 wr from hch.out).more fun x hx => by simp [hx]))
end Go.Proofs.Ytbepnjgbkfidiaa.Tr
