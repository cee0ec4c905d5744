/- Merged: PoT PoM PoA PoA2. -/
import Derived.Test.YtbfogkcnfnjcaaaTt22
import Derived.Deep.AppendLies
import Derived.Shelf.Strings.Builder1
import Derived.Test.YtbfogkcnfnjcaaaTt1
import Derived.Lib.ConvBytes
import Derived.Deep.LoopGhost
import Derived.Deep.Slices
import Derived.Deep.RegionHeld3
namespace Go.Proofs.Ytbfogkcnfnjcaaa.Po
open Go.Proofs Go.RowKit
open Go.Proofs.Ytbfogkcnfnjcaaa.Utf
open Go.Proofs.Ytbfogkcnfnjcaaa.Sc
open Go.Proofs.Ytbfogkcnfnjcaaa.Em

def strC (ps : List (List UInt8)) : List Value := ps.map fun q => .string (strOf q)
theorem strC_len (ps : List (List UInt8)) : (strC ps).length = ps.length := by unfold strC; simp
theorem strC_at (ps : List (List UInt8)) (k : Nat) (h : k < ps.length) : (strC ps)[k]? = some (.string (strOf ps[k])) := by
  unfold strC
  rw [List.getElem?_map, List.getElem?_eq_getElem h]; rfl
theorem bytesW_below (w : World) (e : TypeId) (s : ByteArray) : Below w.heap.size w (Lib.bytesWorld w e s) :=
  ⟨rfl, rfl, rfl, by rw [Lib.bytesWorld_size]; omega, fun j hj => Lib.bytesWorld_at_old w e s j hj⟩
theorem conv_bytes (w : World) (s : ByteArray) : (convert 9 57 (.string s)).run Try.prog w = .ok (.slice (some ⟨w.heap.size, 0, none⟩) s.size (grownCap w s.size 0 5)) (Lib.bytesWorld w 5 s) :=
  Lib.run_convert_string_bytes w _ _ _ s Try.underlying9 Try.underlying57 Try.underlying5

end Go.Proofs.Ytbfogkcnfnjcaaa.Po
namespace Go.Proofs.Ytbfogkcnfnjcaaa.Po
open Go.Proofs Go.RowKit
open Go.Proofs.Ytbfogkcnfnjcaaa.Utf

theorem own_apart {w : World} {B B' E E' s s' n n' : Nat} {v v' : Value} {xs xs' : List Value} (h : w.ownsRow B E s v n xs) (h' : w.ownsRow B' E' s' v' n' xs') (hE : E ≠ E') : v.ownBlock = none ∨ v.ownBlock ≠ v'.ownBlock := by
  rcases h.2 with ⟨rfl, _⟩ | ⟨g, cap, cur, rfl, _, hg, _⟩
  · exact .inl rfl
  · right
    rcases h'.2 with ⟨rfl, _⟩ | ⟨g', cap', cur', rfl, _, hg', _⟩
    · intro e; cases e
    · intro e
      have e' : g = g' := by simpa [Value.ownBlock] using e
      subst e'
      rw [hg] at hg'
      injection hg' with hg'
      injection hg' with _ h2
      exact hE h2
theorem own_mono {w : World} {B B' E s n : Nat} {v : Value} {xs : List Value} (h : w.ownsRow B E s v n xs) (hb : B' ≤ B) : w.ownsRow B' E s v n xs :=
  ⟨h.1, h.2.imp id fun ⟨g, cap, cur, h1, h2, h3⟩ => ⟨g, cap, cur, h1, Nat.le_trans hb h2, h3⟩⟩
theorem addr_add0 (g : Nat) : (⟨g, 0, none⟩ : Addr).add 0 = ⟨g, 0, none⟩ := by unfold Addr.add; split <;> simp_all
theorem sliced0 (g c : Nat) : sliced (some ⟨g, 0, none⟩) 0 0 c 1 = .slice (some ⟨g, 0, none⟩) 0 c := by
  unfold sliced
  rw [Nat.sub_zero, Nat.sub_zero]
  by_cases h : c = 0
  · rw [if_pos h]
  · rw [if_neg h, Option.map_some, Nat.zero_mul, addr_add0]
theorem own_cut {w : World} {B n : Nat} {A : Option Addr} {c : Nat} {xs : List Value} (h : w.ownsRow B 5 1 (.slice A n c) n xs) :
    (∀ W, (Instr.sliceAt 57 (.slice A n c) none (some (.int .i64 0)) none).run Try.prog W = .ok (.slice A 0 c) W) ∧ w.ownsRow B 5 1 (.slice A 0 c) 0 [] := by
  have hu : Try.prog.underlying 57 = some (.slice (Try.prog.elem 57)) := by kernel_rfl
  have hz : ∀ W, (sizeOf (Try.prog.elem 57)).run Try.prog W = .ok 1 W := fun W => by kernel_rfl
  have hrun : ∀ W, (Instr.sliceAt 57 (.slice A n c) none (some (.int .i64 0)) none).run Try.prog W = .ok (sliced A 0 0 c 1) W := fun W => by
    rw [run_sliceAt_slice W _ _ _ _ _ hu, run_slice_h W _ _ _ _ hu .i64 0 (by omega) (by omega), hz]
    rfl
  rcases h.2 with ⟨e, _⟩ | ⟨g, cap, cur, e, h1, h2, h3, h4, h5, h6⟩
  · injection e with e1 e2 e3
    subst e1; subst e3
    exact ⟨fun W => hrun W, by simp, .inl ⟨rfl, rfl⟩⟩
  · injection e with e1 e2 e3
    subst e1; subst e3
    exact ⟨fun W => (hrun W).trans (by rw [sliced0]), by simp, .inr ⟨g, c, cur, rfl, h1, h2, Nat.zero_le _, h4, h5, by rw [Nat.zero_mul, List.take_zero]⟩⟩
def RdS (w : World) (B : Nat) (v : Value) (ps : List (List UInt8)) : Prop :=
  ∃ A c, v = .slice A ps.length c ∧ ps.length ≤ c ∧ (0 < ps.length → ∃ ad, A = some ad ∧ ad.block < B ∧ ∀ j u, (strC ps)[j]? = some u → w.cell? (ad.add j) = some u)
theorem RdS.below {w w' : World} {B B' : Nat} {v : Value} {ps : List (List UInt8)} (h : RdS w B v ps) (hb : Below B w w') (hB : B ≤ B') : RdS w' B' v ps := by
  obtain ⟨A, c, rfl, hc, h⟩ := h
  refine ⟨A, c, rfl, hc, fun h0 => ?_⟩
  obtain ⟨ad, e, h1, h2⟩ := h h0
  exact ⟨ad, e, by omega, fun j u hu => (hb.cell (by rw [blk_add]; exact h1)).trans (h2 j u hu)⟩
theorem RdS.nil (w : World) (B : Nat) : RdS w B (.slice none 0 0) [] := ⟨none, 0, rfl, Nat.le_refl _, fun h => by simp at h⟩
theorem RdS.of_own {w : World} {B : Nat} {v : Value} {ps : List (List UInt8)} (h : w.ownsRow B 9 1 v ps.length (strC ps)) : RdS w w.heap.size v ps := by
  obtain ⟨A, c, e, hx⟩ := Rd.of_own h
  rw [strC_len] at e hx
  refine ⟨A, c, e, ?_, hx⟩
  rcases h.2 with ⟨e2, h0⟩ | ⟨g, cap, cur, e2, _, _, h3, _⟩
  · omega
  · rw [e] at e2
    injection e2 with _ _ e3
    omega
theorem RdS.cut {B : Nat} {w : World} {v : Value} {q : List UInt8} {r : List (List UInt8)} (h : RdS w B v (q :: r)) :
    ∃ v', (∀ W, (Instr.sliceAt 32 v (some (.int .i64 1)) none none).run Try.prog W = .ok v' W) ∧ RdS w B v' r := by
  obtain ⟨A, c, rfl, hlc, hc⟩ := h
  have hu : Try.prog.underlying 32 = some (.slice (Try.prog.elem 32)) := by kernel_rfl
  have hz : ∀ W, (sizeOf (Try.prog.elem 32)).run Try.prog W = .ok 1 W := fun W => by kernel_rfl
  rw [List.length_cons] at hlc
  refine ⟨sliced A 1 (q :: r).length c 1, fun W => ?_, ?_⟩
  · rw [run_sliceAt_slice W _ _ _ _ _ hu, run_slice_l W _ _ _ _ hu .i64 1 (by omega) (by rw [List.length_cons]; omega), hz]
    rfl
  · refine ⟨if c = 1 then A else A.map (·.add 1), c - 1, by unfold sliced; rw [List.length_cons, Nat.add_sub_cancel, Nat.mul_one], by omega, fun h0 => ?_⟩
    obtain ⟨ad, rfl, hb, hx⟩ := hc (by simp)
    rw [if_neg (by omega)]
    refine ⟨ad.add 1, rfl, by rw [blk_add]; exact hb, fun j u hu => ?_⟩
    have h2 := hx (j + 1) u (by simpa [strC] using hu)
    have h3 : (ad.add 1).add j = ad.add (j + 1) := by rw [Go.Deep.add_add, Nat.add_comm]
    rw [h3]
    exact h2
end Go.Proofs.Ytbfogkcnfnjcaaa.Po
namespace Go.Proofs.Ytbfogkcnfnjcaaa.Po
open Go.Proofs Go.RowKit
open Go.Proofs.Ytbfogkcnfnjcaaa.Utf
open Go.Proofs.Ytbfogkcnfnjcaaa.Sc
open Go.Proofs.Ytbfogkcnfnjcaaa.Em

def GivesPts (o : Option (List (List UInt8))) (w : World) (e : Ending) (w' : World) : Prop :=
  ((∃ ps v, o = some ps ∧ e = .returned (.tuple #[v, .int .i64 0]) ∧ w'.ownsRow w.heap.size 9 1 v ps.length (strC ps)) ∨ (o = none ∧ e = .returned (.tuple #[.slice none 0 0, .int .i64 80]))) ∧ Below w.heap.size w w'

theorem infoStr : (Try.prog.info? 9).map (fun i => (i.zero, i.size, i.bytes)) = some (some (.string ⟨#[]⟩), 1, 16) := by kernel_rfl

structure St (r : List UInt8) (k : Nat) (ps : List (List UInt8)) (pt : List UInt8) (b : Bool) : Prop where
  n1 : ps.length ≤ k
  n2 : pt.length ≤ k
  go : k ≤ r.length → pgo false [] r = (pgo b pt (r.drop k)).map fun qs => ps ++ qs
  en : r.length < k → pgo false [] r = some ps
theorem St.start (r : List UInt8) : St r 0 [] [] false := ⟨by simp, by simp, fun _ => by rw [List.drop_zero]; simp, fun h => by omega⟩
section
variable {r : List UInt8} {k : Nat} {ps : List (List UInt8)} {pt : List UInt8} {b : Bool}
theorem St.at_ (h : k < r.length + 1) : (r ++ [47]).getD k 0 = if h2 : k < r.length then r[k] else 47 := by
  rw [List.getD_eq_getElem?_getD]
  by_cases h2 : k < r.length
  · rw [List.getElem?_append_left h2, List.getElem?_eq_getElem h2, dif_pos h2]; rfl
  · rw [dif_neg h2, List.getElem?_append_right (by omega), show k - r.length = 0 by omega]; rfl
theorem St.split (hk : k < r.length + 1) : (∃ c t, r.drop k = c :: t ∧ (r ++ [47]).getD k 0 = c ∧ t = r.drop (k + 1) ∧ k < r.length) ∨ (k = r.length ∧ r.drop k = [] ∧ (r ++ [47]).getD k 0 = 47) := by
  rw [St.at_ hk]
  by_cases h2 : k < r.length
  · left
    rw [dif_pos h2]
    exact ⟨r[k], r.drop (k + 1), List.drop_eq_getElem_cons h2, rfl, rfl, h2⟩
  · right
    rw [dif_neg h2]
    exact ⟨by omega, List.drop_eq_nil_of_le (by omega), rfl⟩
theorem St.no (h : St r k ps pt true) (hk : k < r.length + 1) (h1 : (r ++ [47]).getD k 0 ≠ 48) (h2 : (r ++ [47]).getD k 0 ≠ 49) : pgo false [] r = none := by
  rcases St.split hk with ⟨c, t, e1, e2, _, e3⟩ | ⟨e1, e2, e3⟩
  · rw [e2] at h1 h2
    rw [h.go (by omega), e1, pgo_t_cons, if_neg h1, if_neg h2]; rfl
  · rw [h.go (by omega), e2, pgo_t_nil]; rfl
theorem St.tilde (h : St r k ps pt true) (hk : k < r.length + 1) (h1 : (r ++ [47]).getD k 0 = 48) : St r (k + 1) ps (pt ++ [126]) false := by
  rcases St.split hk with ⟨c, t, e1, e2, e4, e3⟩ | ⟨e1, e2, e3⟩
  · rw [e2] at h1
    exact ⟨by have := h.n1; omega, by have := h.n2; simp; omega, fun _ => by rw [h.go (by omega), e1, pgo_t_cons, if_pos h1, e4], fun h => by omega⟩
  · rw [e3] at h1; exact absurd h1 (by decide)
theorem St.slash (h : St r k ps pt true) (hk : k < r.length + 1) (h1 : (r ++ [47]).getD k 0 = 49) : St r (k + 1) ps (pt ++ [47]) false := by
  rcases St.split hk with ⟨c, t, e1, e2, e4, e3⟩ | ⟨e1, e2, e3⟩
  · rw [e2] at h1
    exact ⟨by have := h.n1; omega, by have := h.n2; simp; omega, fun _ => by rw [h.go (by omega), e1, pgo_t_cons, if_neg (by rw [h1]; decide), if_pos h1, e4], fun h => by omega⟩
  · rw [e3] at h1; exact absurd h1 (by decide)
theorem St.wait (h : St r k ps pt false) (hk : k < r.length + 1) (h1 : (r ++ [47]).getD k 0 = 126) : St r (k + 1) ps pt true := by
  rcases St.split hk with ⟨c, t, e1, e2, e4, e3⟩ | ⟨e1, e2, e3⟩
  · rw [e2] at h1
    exact ⟨by have := h.n1; omega, by have := h.n2; omega, fun _ => by rw [h.go (by omega), e1, pgo_f_cons, if_pos h1, e4], fun h => by omega⟩
  · rw [e3] at h1; exact absurd h1 (by decide)
theorem St.cut (h : St r k ps pt false) (hk : k < r.length + 1) (h1 : (r ++ [47]).getD k 0 = 47) : St r (k + 1) (ps ++ [pt]) [] false := by
  rcases St.split hk with ⟨c, t, e1, e2, e4, e3⟩ | ⟨e1, e2, e3⟩
  · rw [e2] at h1
    exact ⟨by have := h.n1; simp; omega, by simp, fun _ => by
      rw [h.go (by omega), e1, pgo_f_cons, if_neg (by rw [h1]; decide), if_pos h1, e4, Option.map_map]
      congr 1
      funext qs
      simp, fun h => by omega⟩
  · exact ⟨by have := h.n1; simp; omega, by simp, fun h => by omega, fun _ => by rw [h.go (by omega), e2, pgo_f_nil]; rfl⟩
theorem St.more (h : St r k ps pt false) (hk : k < r.length + 1) (h1 : (r ++ [47]).getD k 0 ≠ 126) (h2 : (r ++ [47]).getD k 0 ≠ 47) : St r (k + 1) ps (pt ++ [(r ++ [47]).getD k 0]) false := by
  rcases St.split hk with ⟨c, t, e1, e2, e4, e3⟩ | ⟨e1, e2, e3⟩
  · rw [e2] at h1 h2 ⊢
    exact ⟨by have := h.n1; omega, by have := h.n2; simp; omega, fun _ => by rw [h.go (by omega), e1, pgo_f_cons, if_neg h1, if_neg h2, e4], fun h => by omega⟩
  · exact absurd e3 h2
end
structure Rws (B : Nat) (W0 wr : World) (vp vq : Value) (ps : List (List UInt8)) (pt : List UInt8) : Prop where
  bel : Below B W0 wr
  pa : wr.ownsRow B 9 1 vp ps.length (strC ps)
  pb : wr.ownsRow B 5 1 vq pt.length (Lib.byteCells pt)
theorem Rws.byte {B : Nat} {W0 wr w2 : World} {vp vq v2 : Value} {ps : List (List UInt8)} {pt : List UInt8} {c : UInt8} {o : Obj} (h : Rws B W0 wr vp vq ps pt) (hB : B ≤ wr.heap.size) (hown : w2.ownsRow B 5 1 v2 (pt.length + 1) (Lib.byteCells pt ++ [.int .u8 c.toNat])) (hg : (wr.alloc o).grownBy w2 vq.ownBlock) :
    Rws B W0 w2 vp v2 ps (pt ++ [c]) where
  bel := (h.bel.alloc hB _).grown hg (by simp; omega) (fun k hk => (h.pb.lt k hk).1)
  pa := (h.pa.alloc _).kept hg (own_apart h.pa h.pb (by decide))
  pb := by rw [List.length_append, Lib.byteCells_append]; exact hown
theorem Rws.part {B : Nat} {W0 wr w2 : World} {vp vq v2 v0 : Value} {ps : List (List UInt8)} {pt : List UInt8} {o : Obj} (h : Rws B W0 wr vp vq ps pt) (hB : B ≤ wr.heap.size) (hown : w2.ownsRow B 9 1 v2 (ps.length + 1) (strC ps ++ [.string (strOf pt)])) (hg : (wr.alloc o).drew.grownBy w2 vp.ownBlock) (h0 : wr.ownsRow B 5 1 v0 0 []) (he : v0.ownBlock = vq.ownBlock) :
    Rws B W0 w2 v2 v0 (ps ++ [pt]) [] where
  bel := (h.bel.alloc hB _).drew.grown hg (by simp; omega) (fun k hk => (h.pa.lt k hk).1)
  pa := by rw [List.length_append, strC, List.map_append]; exact hown
  pb := (show (wr.alloc o).drew.ownsRow B 5 1 v0 0 [] from World.ownsRow.alloc h0 _).kept hg (by
    have := own_apart h.pb h.pa (by decide)
    rw [← he] at this
    exact this)

set_option maxRecDepth 100000 in
set_option maxHeartbeats 2000000 in
theorem Parts_main (s : ByteArray) (r : List UInt8) (hs : s.data.toList = 47 :: r) (hl : s.size ≤ 4398046511104) (w : World) :
    Calls Try.prog 11 #[.string s] w (GivesPts (pgo false [] r) w) := by
  have hsz : s.size = r.length + 1 := by rw [← len_data, hs]; rfl
  have t0 : (s.toList == []) = false := by rw [ByteArray.toList_eq, hs]; rfl
  have h0l : 0 < s.size := by omega
  have hb0 : ((s[0]'h0l).toNat : Int) = 47 := by
    rw [← byt_get s 0 h0l, hs]; rfl
  obtain ⟨i0, hi, hz0, hz1, hz2⟩ := info_parts infoU8
  obtain ⟨i1, hj, hy0, hy1, hy2⟩ := info_parts infoStr
  obtain ⟨x, hx⟩ : ∃ x : ByteArray, x = s.extract 1 (r.length + 1) ++ ⟨#[47]⟩ := ⟨_, rfl⟩
  have hxd : x.data.toList = r ++ [47] := by
    rw [hx]
    have h1 : (s.extract 1 (r.length + 1)).data.toList = r := by
      rw [ByteArray.data_extract, Array.toList_extract, hs]
      simp [List.extract]
    rw [ByteArray.data_append, Array.toList_append, h1]
  have hxs : x.size = r.length + 1 := by rw [← len_data, hxd]; simp
  have hcv := conv_bytes w x
  obtain ⟨W1, hW1⟩ : ∃ W1, W1 = Lib.bytesWorld w 5 x := ⟨_, rfl⟩
  have hbw : Below w.heap.size w W1 := by rw [hW1]; exact bytesW_below _ _ _
  have hws : W1.heap.size = w.heap.size + 1 := by rw [hW1, Lib.bytesWorld_size]
  have HC1 := Lib.hid (show ∀ j, j < r.length + 1 → W1.cell? ⟨w.heap.size, j, none⟩ = some (.int .u8 ((r ++ [47]).getD j 0).toNat) from fun j hj => by rw [hW1, ← hxd]; exact Lib.bytesWorld_cell w _ x j (by omega))
  have HBW := Lib.hid hbw
  have HWS := Lib.hid hws
  rw [← hW1, hxs] at hcv
  rw [hx] at hcv
  obtain ⟨m, hm⟩ : ∃ m, r.length + 1 = m := ⟨_, rfl⟩
  have HM := Lib.hid hm
  rw [hm] at hsz hcv
  have hmb : m ≤ 4398046511104 := by omega
  generalize grownCap w m 0 5 = cap0 at hcv
  clear hx hxd hxs hbw hws hW1 hs hl hm
  go_enter Try.func11, Try.ntmps11
  go_wp2_with fail
  clear hcv t0 hb0 h0l hsz
  go_loopw [4, 5, 6, 19] (fun vp vq vb i wr => ∃ (k : Nat) (ps : List (List UInt8)) (pt : List UInt8) (b : Bool), i = .int .i64 k ∧ vb = .bool b ∧ k ≤ m ∧ Aside (Rws W1.heap.size W1 wr vp vq ps pt) ∧ Aside (St r k ps pt b)) (fun _ _ _ i _ => m - (intOf i).toNat)
  case atStart => exact ⟨0, [], [], false, rfl, rfl, by omega, (show Rws _ _ _ _ _ _ _ from ⟨Below.refl _ _, World.ownsRow_nil _ _ _ _, World.ownsRow_nil _ _ _ _⟩), (show St _ _ _ _ _ from St.start r)⟩
  case round =>
    obtain ⟨k, ps, pt, b, rfl, rfl, hk, hrw, hst⟩ := hrel
    by_cases hlt : k < m
    · have t1 : decide ((k : Int) < (m : Int)) = true := decide_eq_true (by omega)
      have t2 : decide (k < m) = true := decide_eq_true hlt
      have k0 : (0 : Int) ≤ (k : Int) := by omega
      have k1 : (k : Int) < (m : Int) := by omega
      have k2 : ((k : Int)).toNat = k := by omega
      have hkr : k < r.length + 1 := by rw [HM.out]; exact hlt
      have ac := (hrw.out.bel.cell (p := ⟨w.heap.size, k, none⟩) (by show w.heap.size < W1.heap.size; rw [HWS.out]; omega)).trans (HC1.out k hkr)
      have HKR := Lib.hid hkr
      have HB := Lib.hid hrw.out.bel.size
      have hn1 := hst.out.n1
      have hn2 := hst.out.n2
      have HN1 := Lib.hid hn1
      have hown := hrw.out.pb
      clear hkr hn1
      obtain ⟨ch, hch⟩ : ∃ ch, (r ++ [47]).getD k 0 = ch := ⟨_, rfl⟩
      have HCH := Lib.hid hch
      rw [hch] at ac
      clear hch
      obtain ⟨cn, hcn⟩ : ∃ cn : Int, cn = (ch.toNat : Int) := ⟨_, rfl⟩
      have HCN := Lib.hid hcn
      rw [← hcn] at ac
      clear hcn
      have HEQ : ∀ z : UInt8, (cn = (z.toNat : Int)) ↔ ch = z := fun z => by
        rw [HCN.out]
        exact ⟨fun e => UInt8.toNat_inj.1 (by omega), fun e => by rw [e]⟩
      have HEQ' := Lib.hid HEQ
      clear HEQ
      cases b
      · by_cases h1 : cn = 126
        · subst h1
          have HS := Lib.hid (hst.out.wait HKR.out (HCH.out.trans ((HEQ'.out 126).1 rfl)))
          clear hst hown hn2
          go_wp2_with fail
          go_roundw
          case rel => exact ⟨k + 1, ps, pt, true, by go_num, rfl, by omega, hrw, HS.out⟩
          case measure => simp [intOf]; omega
        · by_cases h2 : cn = 47
          · subst h2
            have d1 : ((47 : Int) == 126) = false := rfl
            have HS := Lib.hid (hst.out.cut HKR.out (HCH.out.trans ((HEQ'.out 47).1 rfl)))
            have HRD := Lib.hid (show wr.drew.ownsRow W1.heap.size 5 1 u5 pt.length (Lib.byteCells pt) from hown)
            have HRA := Lib.hid (fun (o : Obj) => show (wr.alloc o).drew.ownsRow W1.heap.size 5 1 u5 pt.length (Lib.byteCells pt) from hown.alloc o)
            have hsh := own_shape hown
            obtain ⟨A, c, hvq⟩ := hsh
            have hcut := own_cut (A := A) (c := c) (n := pt.length) (by rw [← hvq]; exact hown)
            rw [← hvq] at hcut
            have HCUT := Lib.hid hcut.1
            have HZ := Lib.hid hcut.2
            have HE := Lib.hid (show (Value.slice A 0 c).ownBlock = u5.ownBlock by rw [hvq]; cases A <;> rfl)
            have HVP2 := Lib.hid (fun (o : Obj) => show (wr.alloc o).drew.ownsRow W1.heap.size 9 1 u4 ps.length (strC ps) from hrw.out.pa.alloc o)
            have HM1 := Lib.hid (show ps.length + 1 ≤ maxLen by have := HN1.out; unfold maxLen; omega)
            have HM2 := Lib.hid (show (ps.length + 1) * 16 ≤ 140737488355328 by have := HN1.out; omega)
            have HM3 := Lib.hid (fun (o : Obj) => show W1.heap.size ≤ (wr.alloc o).drew.heap.size by have := HB.out; simp; omega)
            clear hst hown hn2 hvq hcut
            go_wp2_with fail
            refine wp_region_held_drew (S := fun W' => W'.ownsRow W1.heap.size 5 1 u5 pt.length (Lib.byteCells pt)) (by kernel_rfl) (HRD.out) (fun hHeld => ?_)
            refine wpAnyH_take (i := 0) (oi := { dst := some 53, op := Op.move (Operand.tmp 4), type := 32, pos := "point.go:39", after := #[], guard := none }) (v := ?_) rfl (by kernel_rfl) (by kernel_rfl) (by kernel_rfl) (fun _ _ _ h => h) (Or.inl ⟨by rfl, ?_⟩) hHeld ?_
            rotate_left
            · intro w hSw; (try dsimp only at hSw); go_simp; with_reducible rfl
            try simp only [Act.put, List.setIfInBounds_toArray, List.set_cons_zero, List.set_cons_succ]
            refine wpAnyH_take (i := 1) (oi := { dst := some 54, op := Op.move (Operand.tmp 5), type := 57, pos := "point.go:39", after := #[], guard := none }) (v := ?_) rfl (by kernel_rfl) (by kernel_rfl) (by kernel_rfl) (fun _ _ _ h => h) (Or.inl ⟨by rfl, ?_⟩) hHeld ?_
            rotate_left
            · intro w hSw; (try dsimp only at hSw); go_simp; with_reducible rfl
            try simp only [Act.put, List.setIfInBounds_toArray, List.set_cons_zero, List.set_cons_succ]
            refine wpAnyH_take (i := 5) (oi := { dst := some 58, op := Op.move (Operand.tmp 5), type := 57, pos := "point.go:39", after := #[], guard := none }) (v := ?_) rfl (by kernel_rfl) (by kernel_rfl) (by kernel_rfl) (fun _ _ _ h => h) (Or.inl ⟨by rfl, ?_⟩) hHeld ?_
            rotate_left
            · intro w hSw; (try dsimp only at hSw); go_simp; with_reducible rfl
            try simp only [Act.put, List.setIfInBounds_toArray, List.set_cons_zero, List.set_cons_succ]
            refine wpAnyH_take (i := 2) (oi := { dst := some 55, op := Op.convert 57 9 (Operand.tmp 54), type := 9, pos := "point.go:39", after := #[{ on := 1, ground := Ground.data }], guard := none }) (v := ?_) rfl (by kernel_rfl) (by kernel_rfl) (by kernel_rfl) (fun _ _ _ h => h) (Or.inl ⟨by rfl, ?_⟩) hHeld ?_
            rotate_left
            · intro w hSw; (try dsimp only at hSw); have hcz := Rd.conv (P := Try.prog) (Rd.of_own hSw) Try.underlying57 Try.underlying5 Try.underlying9; go_simp; with_reducible rfl
            try simp only [Act.put, List.setIfInBounds_toArray, List.set_cons_zero, List.set_cons_succ]
            refine wpAnyH_take (i := 6) (oi := { dst := some 59, op := Op.slice 57 (Operand.tmp 58) none (some (Operand.const (Value.int IntKind.i64 0))) none, type := 57, pos := "point.go:39", after := #[{ on := 5, ground := Ground.data }], guard := none }) (v := ?_) rfl (by kernel_rfl) (by kernel_rfl) (by kernel_rfl) (fun _ _ _ h => h) (Or.inl ⟨by rfl, ?_⟩) hHeld ?_
            rotate_left
            · intro w hSw; (try dsimp only at hSw); have hcz := HCUT.out; go_simp; with_reducible rfl
            try simp only [Act.put, List.setIfInBounds_toArray, List.set_cons_zero, List.set_cons_succ]
            refine wpAnyH_ready (rs := [3]) (by kernel_rfl) (by simp) ?_
            refine AllReadyH.cons (o := { dst := some 56, op := Op.buildSlice 32 1 #[(0, Operand.tmp 55)], type := 32, pos := "point.go:39", after := #[{ on := 2, ground := Ground.data }], guard := none }) rfl (fun K hK => ?_) AllReadyH.nil
            go_simp
            refine hK.out _ _ (HRA.out _) (fun hHeld => ?_)
            clear hK K
            try simp only [Act.put, List.setIfInBounds_toArray, List.set_cons_zero, List.set_cons_succ]
            refine wpAnyH_ready (rs := [4]) (by kernel_rfl) (by simp) ?_
            refine AllReadyH.cons (o := { dst := some 57, op := Op.call { callee := Callee.builtin Builtin.append, args := #[Operand.tmp 53, Operand.tmp 56], argTypes := #[32, 32] }, type := 32, pos := "point.go:39", after := #[{ on := 0, ground := Ground.data }, { on := 3, ground := Ground.data }], guard := none }) rfl (fun K hK => ?_) AllReadyH.nil
            refine wp_append_lies _ _ _ _ rfl W1.heap.size 9 i1 _ 1 16 Try.underlying32 hj hy0 hy1 hy2 rfl (by decide) u4 ps.length (strC ps) rfl (HVP2.out _) ⟨wr.drew.heap.size, 0, none⟩ 1 1 [.string (strOf pt)] rfl rfl (cells_new _ _ _) (by intro u hu; simp at hu; subst hu; rfl) (by omega) HM1.out HM2.out (HM3.out _) _ rfl ?_
            intro g cap w2 hown2 hg2 hat hgl
            have HR := Lib.hid (hrw.out.part HB.out hown2 hg2 HZ.out HE.out)
            have HRB := Lib.hid (show w2.ownsRow W1.heap.size 5 1 u5 pt.length (Lib.byteCells pt) from World.ownsRow.kept (HRA.out _) hg2 (own_apart hrw.out.pb hrw.out.pa (by decide)))
            clear hown2 hg2 hat hgl
            refine hK.out _ _ (HRB.out) (fun hHeld => ?_)
            clear hK K
            try simp only [Act.put, List.setIfInBounds_toArray, List.set_cons_zero, List.set_cons_succ]
            refine wpAnyH_take (i := 7) (oi := { dst := some 4, op := Op.assign (Operand.tmp 57), type := 32, pos := "point.go:39", after := #[{ on := 4, ground := Ground.data }, { on := 4, ground := Ground.chain }, { on := 0, ground := Ground.phase }, { on := 1, ground := Ground.phase }, { on := 2, ground := Ground.phase }, { on := 3, ground := Ground.phase }, { on := 4, ground := Ground.phase }, { on := 5, ground := Ground.textOnly Departure.lateStores }, { on := 6, ground := Ground.textOnly Departure.lateStoresUnsure }], guard := none }) (v := ?_) rfl (by kernel_rfl) (by kernel_rfl) (by kernel_rfl) (fun _ _ _ h => h) (Or.inl ⟨by rfl, ?_⟩) hHeld ?_
            rotate_left
            · intro w hSw; (try dsimp only at hSw); go_simp; with_reducible rfl
            try simp only [Act.put, List.setIfInBounds_toArray, List.set_cons_zero, List.set_cons_succ]
            refine wpAnyH_take (i := 8) (oi := { dst := some 5, op := Op.assign (Operand.tmp 59), type := 57, pos := "point.go:39", after := #[{ on := 6, ground := Ground.data }, { on := 7, ground := Ground.chain }, { on := 0, ground := Ground.phase }, { on := 1, ground := Ground.phase }, { on := 2, ground := Ground.phase }, { on := 3, ground := Ground.phase }, { on := 4, ground := Ground.phase }, { on := 5, ground := Ground.phase }, { on := 6, ground := Ground.phase }, { on := 7, ground := Ground.phase }], guard := none }) (v := ?_) rfl (by kernel_rfl) (by kernel_rfl) (by kernel_rfl) (fun _ _ _ h => h) (Or.inl ⟨by rfl, ?_⟩) hHeld ?_
            rotate_left
            · intro w hSw; (try dsimp only at hSw); go_simp; with_reducible rfl
            try simp only [Act.put, List.setIfInBounds_toArray, List.set_cons_zero, List.set_cons_succ]
            refine wpAnyH_done (by kernel_rfl) ?_ _
            clear hHeld
            refine NoPanic.normal ?_
            go_wp2_with fail
            go_roundw
            case rel => exact ⟨k + 1, ps ++ [pt], [], false, by go_num, rfl, by omega, HR.out, HS.out⟩
            case measure => simp [intOf]; omega
          · have d1 : (cn == 126) = false := beq_eq_false_iff_ne.2 h1
            have d2 : (cn == 47) = false := beq_eq_false_iff_ne.2 h2
            have HS := Lib.hid (hst.out.more HKR.out (fun e => h1 ((HEQ'.out 126).2 (HCH.out.symm.trans e))) (fun e => h2 ((HEQ'.out 47).2 (HCH.out.symm.trans e))))
            clear hst h1 h2
            go_wp2_with (at_builtin; refine wpList_append_lies _ rfl _ _ 57 rfl W1.heap.size 5 i0 (.int .u8 0) 1 1 Try.underlying57 hi hz0 hz1 hz2 (by rfl) (by decide) _ _ _ rfl (hown.alloc _) ⟨wr.heap.size, 0, none⟩ 1 1 [.int .u8 cn] rfl rfl (cells_new _ _ _) ?_ ?_ ?_ ?_ ?_ _ rfl ?_; (intro u hu; simp at hu; subst hu; rfl); omega; (unfold maxLen; omega); omega; (have := HB.out; simp; omega); intro g cap w2 hown2 hg2 hat hgl)
            rw [HCN.out] at hown2
            have HR := Lib.hid (hrw.out.byte HB.out hown2 hg2)
            rw [HCH.out] at HS
            clear hown hown2 hg2 hat hrw
            go_roundw
            case rel => exact ⟨k + 1, ps, pt ++ [ch], false, by go_num, rfl, by omega, HR.out, HS.out⟩
            case measure => simp [intOf]; omega
      · by_cases h1 : cn = 48
        · subst h1
          have HS := Lib.hid (hst.out.tilde HKR.out (HCH.out.trans ((HEQ'.out 48).1 rfl)))
          clear hst
          go_wp2_with (at_builtin; refine wpList_append_lies _ rfl _ _ 57 rfl W1.heap.size 5 i0 (.int .u8 0) 1 1 Try.underlying57 hi hz0 hz1 hz2 (by rfl) (by decide) _ _ _ rfl (hown.alloc _) ⟨wr.heap.size, 0, none⟩ 1 1 [.int .u8 126] rfl rfl (cells_new _ _ _) ?_ ?_ ?_ ?_ ?_ _ rfl ?_; (intro u hu; simp at hu; subst hu; rfl); omega; (unfold maxLen; omega); omega; (have := HB.out; simp; omega); intro g cap w2 hown2 hg2 hat hgl)
          have HR := Lib.hid (hrw.out.byte (c := 126) HB.out hown2 hg2)
          clear hown hown2 hg2 hat hrw
          go_roundw
          case rel => exact ⟨k + 1, ps, pt ++ [126], false, by go_num, rfl, by omega, HR.out, HS.out⟩
          case measure => simp [intOf]; omega
        · have d1 : (cn == 48) = false := beq_eq_false_iff_ne.2 h1
          by_cases h2 : cn = 49
          · subst h2
            have HS := Lib.hid (hst.out.slash HKR.out (HCH.out.trans ((HEQ'.out 49).1 rfl)))
            clear hst h1
            go_wp2_with (at_builtin; refine wpList_append_lies _ rfl _ _ 57 rfl W1.heap.size 5 i0 (.int .u8 0) 1 1 Try.underlying57 hi hz0 hz1 hz2 (by rfl) (by decide) _ _ _ rfl (hown.alloc _) ⟨wr.heap.size, 0, none⟩ 1 1 [.int .u8 47] rfl rfl (cells_new _ _ _) ?_ ?_ ?_ ?_ ?_ _ rfl ?_; (intro u hu; simp at hu; subst hu; rfl); omega; (unfold maxLen; omega); omega; (have := HB.out; simp; omega); intro g cap w2 hown2 hg2 hat hgl)
            have HR := Lib.hid (hrw.out.byte (c := 47) HB.out hown2 hg2)
            clear hown hown2 hg2 hat hrw
            go_roundw
            case rel => exact ⟨k + 1, ps, pt ++ [47], false, by go_num, rfl, by omega, HR.out, HS.out⟩
            case measure => simp [intOf]; omega
          · have d2 : (cn == 49) = false := beq_eq_false_iff_ne.2 h2
            have HN := Lib.hid (hst.out.no HKR.out (fun e => h1 ((HEQ'.out 48).2 (HCH.out.symm.trans e))) (fun e => h2 ((HEQ'.out 49).2 (HCH.out.symm.trans e))))
            have HBE := Lib.hid (HBW.out.trans (hrw.out.bel.mono HBW.out.size))
            clear hst h1 h2 hown hrw
            go_wp2_with fail
            go_ret2
            exact ⟨.inr ⟨HN.out, rfl⟩, HBE.out⟩
    · have t1 : decide ((k : Int) < (m : Int)) = false := decide_eq_false (by omega)
      have t2 : decide (k < m) = false := decide_eq_false hlt
      have HE := Lib.hid (hst.out.en (by have := HM.out; omega))
      have HBE := Lib.hid (HBW.out.trans (hrw.out.bel.mono HBW.out.size))
      have HPA := Lib.hid (own_mono hrw.out.pa HBW.out.size)
      clear hst hrw
      go_wp2_with fail
      go_ret2
      exact ⟨.inl ⟨ps, u4, HE.out, rfl, HPA.out⟩, HBE.out⟩
end Go.Proofs.Ytbfogkcnfnjcaaa.Po
namespace Go.Proofs.Ytbfogkcnfnjcaaa.Po
open Go.Proofs Go.RowKit
open Go.Proofs.Ytbfogkcnfnjcaaa.Utf
open Go.Proofs.Ytbfogkcnfnjcaaa.Sc
open Go.Proofs.Ytbfogkcnfnjcaaa.Em

set_option maxRecDepth 100000 in
set_option maxHeartbeats 1000000 in
theorem Parts_any (s : ByteArray) (hl : s.size ≤ 4398046511104) (w : World) :
    Calls Try.prog 11 #[.string s] w (GivesPts (prts s.data.toList) w) := by
  obtain ⟨l, hs⟩ : ∃ l, s.data.toList = l := ⟨_, rfl⟩
  rw [hs]
  cases l with
  | nil =>
    have t0 : (s.toList == []) = true := by rw [ByteArray.toList_eq, hs]; rfl
    clear hs
    go_enter Try.func11, Try.ntmps11
    go_wp2_with fail
    go_ret2
    exact ⟨.inl ⟨[], _, rfl, rfl, World.ownsRow_nil _ _ _ _⟩, Below.refl _ _⟩
  | cons c r =>
    by_cases hc : c = 47
    · subst hc
      rw [prts, if_pos rfl]
      exact Parts_main s r hs hl w
    · have hsz : s.size = r.length + 1 := by rw [← len_data, hs]; rfl
      have t0 : (s.toList == []) = false := by rw [ByteArray.toList_eq, hs]; rfl
      have h0l : 0 < s.size := by omega
      have hb : ((s[0]'h0l).toNat : Int) = (c.toNat : Int) := by
        rw [← byt_get s 0 h0l, hs]; rfl
      have hne : ¬ ((s[0]'h0l).toNat : Int) = 47 := by
        rw [hb]
        intro e
        exact hc (UInt8.toNat_inj.1 (by show c.toNat = 47; omega))
      have t1 : (((s[0]'h0l).toNat : Int) != 47) = true := by rw [bne_iff_ne]; exact hne
      have t2 : (((s[0]'h0l).toNat : Int) == 47) = false := beq_eq_false_iff_ne.2 hne
      rw [prts, if_neg hc]
      clear hb hs hsz
      go_enter Try.func11, Try.ntmps11
      go_wp2_with fail
      go_ret2
      exact ⟨.inr ⟨rfl, rfl⟩, Below.refl _ _⟩
end Go.Proofs.Ytbfogkcnfnjcaaa.Po
