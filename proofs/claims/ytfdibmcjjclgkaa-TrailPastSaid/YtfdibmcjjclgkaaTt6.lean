/- Merged: TlD TlE TlPl2. -/
import Derived.Test.YtfdibmcjjclgkaaTt5
import Derived.Test.YtfdibmcjjclgkaaTt0
import Derived.Deep.AppendLies
import Derived.Deep.RegionHeld3
namespace Go.Proofs.Ytfdibmcjjclgkaa.Tl
open Go.Proofs Go.RowKit
open Go.Proofs.Ytfdibmcjjclgkaa.Utf
open Go.Proofs.Ytfdibmcjjclgkaa.Ro

theorem infoPa : (Try.prog.info? 45).map (fun i => (i.zero, i.size, i.bytes)) = some (some (.agg #[.string ByteArray.empty, .bool false, .bool false, .int .i64 0]), 4, 32) := by kernel_rfl
section
variable {l : List En} {s z : Int} {id : List UInt8} {i j m : Nat}
end
theorem own_slice {w : World} {B E s n : Nat} {v : Value} {xs : List Value} (h : w.ownsRow B E s v n xs) : ∃ A c, v = .slice A n c := by
  rcases h.2 with ⟨rfl, rfl⟩ | ⟨g, cap, cur, rfl, _⟩
  · exact ⟨none, 0, rfl⟩
  · exact ⟨_, cap, rfl⟩
theorem row4 {w : World} {b : Nat} {t : TypeId} {v0 v1 v2 v3 : Value} (h : w.heap[b]? = some (.cells #[v0, v1, v2, v3] t (0, 0))) : w.cell? ⟨b, 0, none⟩ = some v0 ∧ w.cell? ⟨b, 1, none⟩ = some v1 ∧ w.cell? ⟨b, 2, none⟩ = some v2 ∧ w.cell? ⟨b, 3, none⟩ = some v3 :=
  ⟨(cell_of_row w b 0 _ _ _ h).trans rfl, (cell_of_row w b 1 _ _ _ h).trans rfl, (cell_of_row w b 2 _ _ _ h).trans rfl, (cell_of_row w b 3 _ _ _ h).trans rfl⟩
def GivesSn (l : List En) (s : Int) (T : TypeId) (w : World) (e : Ending) (w' : World) : Prop :=
  ∃ x, e = .returned x ∧ w'.ownsRow w.heap.size T 4 x (sinS l s).length (paC (sinS l s)).flatten ∧ Below w.heap.size w w'
end Go.Proofs.Ytfdibmcjjclgkaa.Tl
namespace Go.Proofs.Ytfdibmcjjclgkaa.Tl
open Go.Proofs Go.RowKit
open Go.Proofs.Ytfdibmcjjclgkaa.Utf
open Go.Proofs.Ytfdibmcjjclgkaa.Ro

def GivesPs (l : List Pa) (T : TypeId) (w : World) (e : Ending) (w' : World) : Prop :=
  ∃ x, e = .returned x ∧ w'.ownsRow w.heap.size T 4 x l.length (paC l).flatten ∧ Below w.heap.size w w'
set_option maxRecDepth 100000 in
set_option maxHeartbeats 2000000 in
theorem pasts_any (v : Value) (l : List Pa) (w : World) (hl : RdP w w.heap.size v l) (hn : l.length ≤ 1000000000) :
    Calls Try.prog 16 #[v] w (GivesPs l 45 w) := by
  have mixed : Try.prog.follows .mixedOrders = true := by kernel_rfl
  obtain ⟨i0, hi0, hz0, hz1, hz2⟩ := info_parts infoPa
  obtain ⟨A, c, rfl⟩ := RdP.form hl
  have HL := Lib.hid hl
  clear hl
  obtain ⟨n, hn'⟩ : ∃ n, l.length = n := ⟨_, rfl⟩
  have HN := Lib.hid hn'
  rw [hn'] at hn HL
  clear hn'
  rw [HN.out]
  go_enter Try.func16, Try.ntmps16
  go_wp2_with fail
  go_loopw [3, 4] (fun v ii wr => ∃ i : Nat, ii = .int .i64 (i : Int) ∧ i ≤ n ∧ Aside (wr.ownsRow w.heap.size 45 4 v i (paC (l.take i)).flatten) ∧ Aside (Below w.heap.size w wr)) (fun _ ii _ => n - (intOf ii).toNat)
  case atStart => exact ⟨0, rfl, by omega, (show World.ownsRow _ _ _ _ _ _ _ from World.ownsRow_nil _ _ _ _), (show Below _ _ _ from Below.refl _ _)⟩
  case round =>
    obtain ⟨i, rfl, hin, hrow, hbel⟩ := hrel
    have HRO := Lib.hid hrow.out
    have HBE := Lib.hid hbel.out
    clear hrow hbel
    obtain ⟨wz, hwz⟩ : ∃ wo, wo = wr := ⟨_, rfl⟩
    subst hwz
    by_cases hlt : i < n
    · have t0 : decide ((i : Int) < (n : Int)) = true := decide_eq_true (by omega)
      have t1 : decide (i < n) = true := decide_eq_true hlt
      have k0 : (0 : Int) ≤ (i : Int) := by omega
      have k1 : (i : Int) < (n : Int) := by omega
      have k2 : ((i : Int)).toNat = i := by omega
      have hil : i < l.length := by rw [HN.out]; exact hlt
      obtain ⟨g, o, c, e1, hg, a0, a1, a2, a3⟩ := RdP.at_ HL.out HBE.out hil
      injection e1 with e1 z1 z2
      subst e1
      clear z1 z2
      rcases hx : l[i] with ⟨eid, b1, b2, eq⟩
      rw [hx] at a0 a1 a2 a3
      have HEi := Lib.hid hx
      simp only at a0 a1 a2 a3
      clear hx
      obtain ⟨XE, hXE⟩ : ∃ z, strOf eid = z := ⟨_, rfl⟩
      have HXS := Lib.hid hXE
      rw [hXE] at a0
      clear hXE
      have hgz : g < wz.heap.size := Nat.lt_of_lt_of_le hg HBE.out.size
      obtain ⟨Ao, co, rfl⟩ := own_slice HRO.out
      have hown := HRO.out
      have hle := hin
      have hqs := HBE.out.size
      have HROW := Lib.hid (show (paC (l.take i)).flatten ++ [.string XE, .bool b1, .bool b2, .int .i64 eq] = (paC (l.take (i + 1))).flatten by
        rw [List.take_succ_eq_append_getElem hil, HEi.out]
        unfold paC
        rw [List.map_append, List.flatten_append, List.map_cons, List.map_nil, List.flatten_singleton]
        unfold paR
        rw [HXS.out])
      have hbd : Below wz.heap.size wz wz.drew := (Below.refl _ _).drew
      have hba : ∀ o, Below wz.heap.size wz (wz.alloc o).drew := fun o => ((Below.refl _ _).alloc (Nat.le_refl _) o).drew
      have hgo : ∀ k, some k = (Value.slice Ao i co).ownBlock → g = k → False := fun k e h => by have := (hown.lt k e.symm).1; omega
      have HNB := Lib.hid (show ((wz.alloc (.cells #[.string XE, .bool b1, .bool b2, .int .i64 eq] 45)).drew).heap[wz.heap.size]? = some (.cells #[.string XE, .bool b1, .bool b2, .int .i64 eq] 45 (0, 0)) from heap_alloc_new wz _)
      go_wp2_with fail
      go_region_held3 (fun w' => w'.cell? ⟨g, o + i * 4, none⟩ = some (.string XE) ∧ w'.cell? ⟨g, o + i * 4 + 1, none⟩ = some (.bool b1) ∧ w'.cell? ⟨g, o + i * 4 + 2, none⟩ = some (.bool b2) ∧ w'.cell? ⟨g, o + i * 4 + 3, none⟩ = some (.int .i64 eq)) (first | go_keep | exact ⟨(hg8.cell_far ⟨g, o + i * 4, none⟩ (by simp; omega) (fun e => hgo g e rfl)).trans (((hba _).cell (p := ⟨g, o + i * 4, none⟩) hgz).trans a0), (hg8.cell_far ⟨g, o + i * 4 + 1, none⟩ (by simp; omega) (fun e => hgo g e rfl)).trans (((hba _).cell (p := ⟨g, o + i * 4 + 1, none⟩) hgz).trans a1), (hg8.cell_far ⟨g, o + i * 4 + 2, none⟩ (by simp; omega) (fun e => hgo g e rfl)).trans (((hba _).cell (p := ⟨g, o + i * 4 + 2, none⟩) hgz).trans a2), (hg8.cell_far ⟨g, o + i * 4 + 3, none⟩ (by simp; omega) (fun e => hgo g e rfl)).trans (((hba _).cell (p := ⟨g, o + i * 4 + 3, none⟩) hgz).trans a3)⟩)
        ((refine step_append_lies _ (by rfl) _ _ _ (by rfl) w.heap.size 45 i0 _ 4 32 Try.underlying32 hi0 hz0 hz1 hz2 (by rfl) (by decide) (.slice Ao i co) i (paC (l.take i)).flatten (by rfl) ((hown.alloc _).drew) ⟨wz.heap.size, 0, none⟩ 1 1 [.string XE, .bool b1, .bool b2, .int .i64 eq] (by rfl) (by rfl) (World.news_of_block (cs := #[.string XE, .bool b1, .bool b2, .int .i64 eq]) (t := 45) (fr := (0, 0)) HNB.out) (by intro u hu; simp at hu; rcases hu with rfl | rfl | rfl | rfl <;> rfl) (by omega) (by unfold maxLen; omega) (by omega) (by simp; omega) (wz.heap.size + 1) (by simp) ?_; intro gb cap w8 hown8 hg8 hat hgl))
      have HO8 := Lib.hid (show w8.ownsRow w.heap.size 45 4 (.slice (some ⟨gb, 0, none⟩) (i + 1) cap) (i + 1) (paC (l.take (i + 1))).flatten by rw [← HROW.out]; exact hown8)
      have HB8 := Lib.hid (show Below w.heap.size w w8 from ((HBE.out.alloc hqs _).drew).grown hg8 (by simp; omega) (fun k hk => (hown.lt k hk).1))
      go_wp2_with fail
      go_roundw
      case rel => exact ⟨i + 1, by go_num, by omega, HO8.out, HB8.out⟩
      case measure => simp [intOf]; omega
    · have t0 : decide ((i : Int) < (n : Int)) = false := decide_eq_false (by omega)
      have t1 : decide (i < n) = false := decide_eq_false hlt
      obtain rfl : i = n := by omega
      have HT := Lib.hid (show l.take i = l from List.take_of_length_le (by rw [HN.out]; exact Nat.le_refl _))
      rw [HT.out] at HRO
      go_wp2_with fail
      go_ret
      exact ⟨_, rfl, by rw [HN.out]; exact HRO.out, HBE.out⟩

def upTo (s : Int) (id : List UInt8) (x : En) : Bool := decide (x.2.1 = id ∧ x.1 ≤ s)
def lastS (l : List En) (k : Nat) (s : Int) (id : List UInt8) : Bool := !(l.drop (k + 1)).any (upTo s id)
theorem up_mid {l : List En} {s : Int} {id : List UInt8} {i j : Nat} (h1 : i + 1 ≤ j) (h2 : j < l.length) : ((l.drop (i + 1)).take (j + 1 - (i + 1))).any (upTo s id) = (((l.drop (i + 1)).take (j - (i + 1))).any (upTo s id) || upTo s id l[j]) := by
  have hz : j - (i + 1) < (l.drop (i + 1)).length := by rw [List.length_drop]; omega
  have e : (l.drop (i + 1))[j - (i + 1)] = l[j] := by
    rw [List.getElem_drop]
    congr 1
    omega
  rw [show j + 1 - (i + 1) = j - (i + 1) + 1 by omega, List.take_succ_eq_append_getElem hz, List.any_append, e]
  simp
theorem up_at {l : List En} {s : Int} {id : List UInt8} {i j : Nat} (h1 : i + 1 ≤ j) (h2 : j < l.length) (h : upTo s id l[j] = true) : (l.drop (i + 1)).any (upTo s id) = true := by
  rw [List.any_eq_true]
  refine ⟨l[j], ?_, h⟩
  rw [List.mem_iff_getElem]
  refine ⟨j - (i + 1), by rw [List.length_drop]; omega, ?_⟩
  rw [List.getElem_drop]
  congr 1
  omega
set_option maxRecDepth 100000 in
set_option maxHeartbeats 1000000 in
theorem last_any (v : Value) (l : List En) (k : Nat) (s : Int) (w : World) (hl : RdE w w.heap.size v l) (hn : l.length ≤ 4611686018427387904) (hk : k < l.length) :
    Calls Try.prog 19 #[v, .int .i64 (k : Int), .int .i64 s] w fun e w' => e = .returned (.bool (lastS l k s l[k].2.1)) ∧ Below w.heap.size w w' := by
  have mixed : Try.prog.follows .mixedOrders = true := by kernel_rfl
  obtain ⟨A, c, rfl⟩ := RdE.form hl
  have HL := Lib.hid hl
  clear hl
  obtain ⟨n, hn'⟩ : ∃ n, l.length = n := ⟨_, rfl⟩
  have HN := Lib.hid hn'
  rcases hx : l[k] with ⟨eq, eid, ea⟩
  have HEk := Lib.hid hx
  simp only
  have hkl := Lib.hid hk
  rw [hn'] at hn HL hk
  rw [HN.out]
  clear hx hn'
  have k0 : (0 : Int) ≤ (k : Int) := by omega
  have k1 : (k : Int) < (n : Int) := by omega
  have k2 : ((k : Int)).toNat = k := by omega
  obtain ⟨XE, hXE⟩ : ∃ z, strOf eid = z := ⟨_, rfl⟩
  have HXS := Lib.hid hXE
  have HXL := Lib.hid (show XE.toList = eid by rw [← hXE, strOf_list])
  clear hXE
  go_enter Try.func19, Try.ntmps19
  go_wp2_with fail
  go_loopw [7] (fun ii wr => ∃ j : Nat, ii = .int .i64 (j : Int) ∧ k + 1 ≤ j ∧ j ≤ n ∧ Aside (((l.drop (k + 1)).take (j - (k + 1))).any (upTo s eid) = false) ∧ Aside (Below w.heap.size w wr)) (fun ii _ => n - (intOf ii).toNat)
  case atStart => exact ⟨k + 1, by go_num, by omega, by omega, (show _ = _ by rw [Nat.sub_self, List.take_zero]; rfl), (show Below _ _ _ from Below.refl _ _)⟩
  case round =>
    obtain ⟨j, rfl, hij, hjn, hno, hbel⟩ := hrel
    have HNO := Lib.hid hno.out
    have HBE := Lib.hid hbel.out
    clear hno hbel
    by_cases hlt : j < n
    · have t0 : decide ((j : Int) < (n : Int)) = true := decide_eq_true (by omega)
      have t1 : decide (j < n) = true := decide_eq_true hlt
      have j0 : (0 : Int) ≤ (j : Int) := by omega
      have j1 : (j : Int) < (n : Int) := by omega
      have j2 : ((j : Int)).toNat = j := by omega
      have hjl : j < l.length := by rw [HN.out]; exact hlt
      obtain ⟨g, o, c, e1, hg, a0, a1, a2⟩ := RdE.at_ HL.out HBE.out hkl.out
      injection e1 with e1 z1 z2
      subst e1
      clear z1 z2
      rw [HEk.out] at a0 a1 a2
      simp only at a0 a1 a2
      rw [HXS.out] at a1
      obtain ⟨g2, o2, c2, e2, -, b0, b1, b2⟩ := RdE.at_ HL.out HBE.out hjl
      injection e2 with e2 z1 z2
      injection e2 with e2
      injection e2 with e2 e3
      subst e2 e3
      clear z1 z2
      rcases hx : l[j] with ⟨yq, yid, ya⟩
      rw [hx] at b0 b1 b2
      have HEj := Lib.hid hx
      simp only at b0 b1 b2
      clear hx
      obtain ⟨Y, hY⟩ : ∃ z, strOf yid = z := ⟨_, rfl⟩
      have HY := Lib.hid (show Y.toList = yid by rw [← hY, strOf_list])
      rw [hY] at b1
      clear hY
      by_cases hid : yid = eid
      · have y1 : (Y.toList == XE.toList) = true := by rw [HY.out, HXL.out, hid]; exact beq_self_eq_true _
        have y2 : Y.toList = XE.toList := by rw [HY.out, HXL.out, hid]
        by_cases hq : yq ≤ s
        · have q1 : decide ((yq : Int) ≤ s) = true := decide_eq_true hq
          have HU := Lib.hid (show (l.drop (k + 1)).any (upTo s eid) = true from up_at hij hjl (by rw [HEj.out]; exact decide_eq_true ⟨hid, hq⟩))
          clear hid hq
          go_wp2_with (go_quiet (fail))
          go_ret
          exact ⟨by unfold lastS; rw [HU.out]; rfl, bdN HBE.out _⟩
        · have q1 : decide ((yq : Int) ≤ s) = false := decide_eq_false hq
          have HU := Lib.hid (show ((l.drop (k + 1)).take (j + 1 - (k + 1))).any (upTo s eid) = false by rw [up_mid hij hjl, HNO.out, HEj.out]; exact decide_eq_false fun h => hq h.2)
          clear hid hq
          go_wp2_with (go_quiet (fail))
          go_roundw
          case rel => exact ⟨j + 1, by go_num, by omega, by omega, HU.out, (show Below _ _ _ from bdN HBE.out _)⟩
          case measure => simp [intOf]; omega
      · have y1 : (Y.toList == XE.toList) = false := by rw [HY.out, HXL.out]; exact beq_eq_false_iff_ne.2 hid
        have y2 : ¬ Y.toList = XE.toList := by rw [HY.out, HXL.out]; exact hid
        have HU := Lib.hid (show ((l.drop (k + 1)).take (j + 1 - (k + 1))).any (upTo s eid) = false by rw [up_mid hij hjl, HNO.out, HEj.out]; exact decide_eq_false fun h => hid h.1)
        clear hid
        go_wp2_with (go_quiet (fail))
        go_roundw
        case rel => exact ⟨j + 1, by go_num, by omega, by omega, HU.out, (show Below _ _ _ from bdN HBE.out _)⟩
        case measure => simp [intOf]; omega
    · have t0 : decide ((j : Int) < (n : Int)) = false := decide_eq_false (by omega)
      have t1 : decide (j < n) = false := decide_eq_false hlt
      obtain rfl : j = n := by omega
      have HU := Lib.hid (show (l.drop (k + 1)).any (upTo s eid) = false by
        have h := HNO.out
        rwa [List.take_of_length_le (by rw [List.length_drop, HN.out]; exact Nat.le_refl _)] at h)
      go_wp2_with fail
      go_ret
      exact ⟨by unfold lastS; rw [HU.out]; rfl, HBE.out⟩

theorem rd_block {w : World} {B g s c : Nat} {cs : Array Value} {t : TypeId} {fr : Nat × Nat} {rows : List (List Value)} (h : w.heap[g]? = some (.cells cs t fr)) (hs : ∀ r ∈ rows, r.length = s) (hc : rows.flatten = cs.toList) (hg : g < B) : RdR w B s (.slice (some ⟨g, 0, none⟩) rows.length c) rows := by
  refine ⟨hs, _, _, rfl, fun _ => ⟨g, 0, rfl, hg, fun k hk j u hu => ?_⟩⟩
  have hj : j < s := by
    have := (List.getElem?_eq_some_iff.1 hu).1
    rwa [hs _ (List.getElem_mem hk)] at this
  rw [Nat.zero_add, cell_of_row w g _ cs t fr h, ← Array.getElem?_toList, ← hc, flat_at rows hs k hk j hj]
  exact hu
def exE : List En := [(1, [97], 1), (2, [98], 1), (3, [97], 3), (4, [98], 2)]
def GivesE (l : List En) (w : World) (e : Ending) (w' : World) : Prop := ∃ x, e = .returned x ∧ RdE w' w'.heap.size x l ∧ (∀ A m c, x = .slice A m c → m ≤ c) ∧ Below w.heap.size w w'
set_option maxHeartbeats 1000000 in
set_option maxRecDepth 100000 in
theorem example_any (w : World) : Calls Try.prog 21 #[] w (GivesE exE w) := by
  go_enter Try.func21, Try.ntmps21
  go_wp2_with fail
  go_ret
  exact ⟨_, rfl, rd_block (rows := enC exE) (heap_alloc_new w _) (fun r hr => by obtain ⟨q, -, rfl⟩ := List.mem_map.1 hr; rfl) rfl (by simp), (fun _ _ _ h => by injection h with h1 h2 h3; omega), (Below.refl _ _).alloc (Nat.le_refl _) _⟩
end Go.Proofs.Ytfdibmcjjclgkaa.Tl
namespace Go.Proofs.Ytfdibmcjjclgkaa.Tl
open Go.Proofs Go.RowKit
open Go.Proofs.Ytfdibmcjjclgkaa.Utf

theorem hit_is {s : Int} {id : List UInt8} {x : En} : hit s id x = true ↔ x.2.1 = id ∧ s < x.1 := by unfold hit; rw [decide_eq_true_iff]
def PsOf (l : List En) (s : Int) (x : Pa) : Prop := ∃ (e : Nat) (h : e < l.length), x = pastT s (l.take (e + 1)) l[e] ∧ s < l[e].1 ∧ (l.drop (e + 1)).any (hit s l[e].2.1) = false
theorem can_mem {s : Int} {l : List En} {x : Pa} : ∀ (d k : Nat), l.length - k = d → x ∈ canS s (l.take k) (l.drop k) → ∃ (e : Nat) (h : e < l.length), k ≤ e ∧ x = pastT s (l.take (e + 1)) l[e] ∧ s < l[e].1 ∧ (l.drop (e + 1)).any (hit s l[e].2.1) = false
  | 0, k, hd, hx => by
    rw [List.drop_eq_nil_of_le (by omega), canS] at hx
    cases hx
  | d + 1, k, hd, hx => by
    have hk : k < l.length := by omega
    rw [can_step hk] at hx
    rcases List.mem_append.1 hx with hx | hx
    · split at hx
      · rename_i hc
        rw [List.mem_singleton] at hx
        exact ⟨k, hk, Nat.le_refl _, hx, hc.1, hc.2⟩
      · cases hx
    · obtain ⟨e, he, h1, h2⟩ := can_mem d (k + 1) (by omega) hx
      exact ⟨e, he, by omega, h2⟩
theorem can_rise {f s : Int} {l : List En} (hok : okFrom f [] l = true) : ∀ (d k : Nat), l.length - k = d → (canS s (l.take k) (l.drop k)).Pairwise fun a b => a.2.2.2 < b.2.2.2
  | 0, k, hd => by
    rw [List.drop_eq_nil_of_le (by omega), canS]
    exact List.Pairwise.nil
  | d + 1, k, hd => by
    have hk : k < l.length := by omega
    rw [can_step hk]
    have ih := can_rise (s := s) hok d (k + 1) (by omega)
    split
    · rw [List.singleton_append, List.pairwise_cons]
      refine ⟨fun b hb => ?_, ih⟩
      obtain ⟨e, he, h1, h2, -⟩ := can_mem d (k + 1) (by omega) hb
      rw [h2]
      show l[k].1 < l[e].1
      rw [ok_seq hok hk, ok_seq hok he]
      omega
    · rw [List.nil_append]; exact ih
theorem fold_rise : ∀ (c O : List Pa), c.Pairwise (fun a b => a.2.2.2 < b.2.2.2) → (∀ x ∈ O, ∀ y ∈ c, x.2.2.2 < y.2.2.2) → c.foldl insP O = O ++ c := by
  intro c
  induction c with
  | nil => intro O _ _; rw [List.foldl_nil, List.append_nil]
  | cons p r ih =>
    intro O hp hO
    rw [List.pairwise_cons] at hp
    rw [List.foldl_cons, ins_end fun x hx => Int.le_of_lt (hO x hx p List.mem_cons_self), ih _ hp.2 ?_, List.append_assoc, List.singleton_append]
    intro x hx y hy
    rcases List.mem_append.1 hx with hx | hx
    · exact hO x hx y (List.mem_cons_of_mem _ hy)
    · rw [List.mem_singleton.1 hx]
      exact hp.1 y hy
theorem sin_can {f s : Int} {l : List En} (hok : okFrom f [] l = true) : sinS l s = canS s [] l := by
  have h := can_rise (s := s) hok l.length 0 (by omega)
  rw [List.take_zero, List.drop_zero] at h
  unfold sinS
  rw [fold_rise _ _ h (fun x hx => by cases hx), List.nil_append]
theorem sin_each {f s : Int} {l : List En} (hok : okFrom f [] l = true) {i : Nat} (hi : i < (sinS l s).length) : PsOf l s (sinS l s)[i] := by
  have h : (sinS l s)[i] ∈ canS s (l.take 0) (l.drop 0) := by
    rw [List.take_zero, List.drop_zero, ← sin_can hok]
    exact List.getElem_mem hi
  obtain ⟨e, he, -, h2⟩ := can_mem l.length 0 (by omega) h
  exact ⟨e, he, h2⟩
theorem sin_rise {f s : Int} {l : List En} (hok : okFrom f [] l = true) {i : Nat} (hi : i + 1 < (sinS l s).length) : (sinS l s)[i].2.2.2 < (sinS l s)[i + 1].2.2.2 := by
  have h := can_rise (s := s) hok l.length 0 (by omega)
  rw [List.take_zero, List.drop_zero, ← sin_can hok] at h
  exact List.pairwise_iff_getElem.1 h i (i + 1) (by omega) hi (by omega)

def nowS (l : List En) (s : Int) (id : List UInt8) (was : Bool) (k : Nat) : Bool := if (l.take k).any (hit s id) = true then decide (wasS (l.take k) id ≠ 3) else was
def cntS (l : List En) (s : Int) (id : List UInt8) (k : Nat) : Nat := ((l.take k).filter (hit s id)).length
section
variable {f s : Int} {l : List En} {x : Pa}
theorem any_take {p : En → Bool} {k : Nat} (h : k < l.length) : (l.take (k + 1)).any p = ((l.take k).any p || p l[k]) := by
  rw [List.take_succ_eq_append_getElem h, List.any_append, List.any_cons, List.any_nil, Bool.or_false]
theorem cnt_take {id : List UInt8} {k : Nat} (h : k < l.length) : cntS l s id (k + 1) = cntS l s id k + if hit s id l[k] = true then 1 else 0 := by
  unfold cntS
  rw [List.take_succ_eq_append_getElem h, List.filter_append, List.length_append]
  congr 1
  by_cases hh : hit s id l[k] = true
  · rw [if_pos hh, List.filter_cons_of_pos hh]; rfl
  · rw [if_neg hh, List.filter_cons_of_neg hh]; rfl
theorem PsOf.first (hx : PsOf l s x) : ∃ (a : Nat) (h : a < l.length), hit s x.1 l[a] = true ∧ (∀ m (hm : m < l.length), m < a → hit s x.1 l[m] = false) ∧ x.2.1 = decide (l[a].2.2 ≠ 1) := by
  obtain ⟨e, he, rfl, hs, -⟩ := hx
  have hhe : hit s l[e].2.1 l[e] = true := hit_is.2 ⟨rfl, hs⟩
  have hsome : ((l.take (e + 1)).find? (hit s l[e].2.1)).isSome = true := by
    rw [List.find?_isSome]
    exact ⟨l[e], by rw [List.take_succ_eq_append_getElem he]; exact List.mem_append_right _ List.mem_cons_self, hhe⟩
  obtain ⟨y, hy⟩ := Option.isSome_iff_exists.1 hsome
  have hy2 := hy
  rw [List.find?_eq_some_iff_getElem] at hy2
  obtain ⟨h1, a, ha, h2, h3⟩ := hy2
  rw [List.length_take] at ha
  have hal : a < l.length := by omega
  rw [List.getElem_take] at h2
  refine ⟨a, hal, by show hit s l[e].2.1 l[a] = true; rw [h2]; exact h1, fun m hm hma => ?_, ?_⟩
  · have := h3 m hma
    rw [List.getElem_take] at this
    show hit s l[e].2.1 l[m] = false
    cases hh : hit s l[e].2.1 l[m]
    · rfl
    · rw [hh] at this; cases this
  · show decide ((((l.take (e + 1)).find? (hit s l[e].2.1)).getD l[e]).2.2 ≠ 1) = _
    rw [hy, h2]; rfl
theorem no_hit {id : List UInt8} {k : Nat} : (l.take k).any (hit s id) = false ↔ ∀ m (hm : m < l.length), m < k → hit s id l[m] = false := by
  constructor
  · intro h m hm hmk
    cases hh : hit s id l[m]
    · rfl
    · have : (l.take k).any (hit s id) = true := List.any_eq_true.2 ⟨l[m], by rw [List.mem_take_iff_getElem]; exact ⟨m, by omega, rfl⟩, hh⟩
      rw [this] at h; cases h
  · intro h
    cases ha : (l.take k).any (hit s id)
    · rfl
    · obtain ⟨y, hy, hy2⟩ := List.any_eq_true.1 ha
      rw [List.mem_take_iff_getElem] at hy
      obtain ⟨m, hm, rfl⟩ := hy
      rw [h m (by omega) (by omega)] at hy2
      cases hy2
theorem now_other {id : List UInt8} {was : Bool} {k : Nat} (hk : k < l.length) (h : l[k].2.1 ≠ id) : nowS l s id was (k + 1) = nowS l s id was k ∧ cntS l s id (k + 1) = cntS l s id k := by
  have hh : hit s id l[k] = false := decide_eq_false fun e => h e.1
  refine ⟨?_, by rw [cnt_take hk, hh]; rfl⟩
  unfold nowS
  rw [any_take hk, hh, Bool.or_false, List.take_succ_eq_append_getElem hk, was_snoc, if_neg h]
theorem now_early (hok : okFrom f [] l = true) {id : List UInt8} {was : Bool} {k : Nat} (hk : k < l.length) (h : l[k].1 ≤ s) : nowS l s id was (k + 1) = nowS l s id was k ∧ cntS l s id (k + 1) = cntS l s id k := by
  have hh : hit s id l[k] = false := decide_eq_false fun e => by have := e.2; omega
  refine ⟨?_, by rw [cnt_take hk, hh]; rfl⟩
  have hn : (l.take k).any (hit s id) = false := no_hit.2 fun m hm hmk => decide_eq_false fun e => by
    have h1 := ok_seq hok hm
    have h2 := ok_seq hok hk
    have h3 := e.2
    omega
  unfold nowS
  rw [any_take hk, hh, hn]; rfl
theorem early_was (hok : okFrom f [] l = true) (hx : PsOf l s x) {k : Nat} (hk : k < l.length) (hid : l[k].2.1 = x.1) (h : l[k].1 ≤ s) (hw : decide (l[k].2.2 ≠ 3) ≠ x.2.1) : lastS l k s x.1 = false := by
  cases hl : lastS l k s x.1
  · rfl
  · exfalso
    apply hw
    obtain ⟨a, ha, h1, h2, h3⟩ := hx.first
    have hsk := ok_seq hok hk
    have hsa := ok_seq hok ha
    have hsa2 := (hit_is.1 h1).2
    have hka : k < a := by omega
    unfold lastS at hl
    have hnl : ∀ m (hm : m < l.length), k < m → m < a → l[m].2.1 ≠ x.1 := fun m hm hkm hma hmid => by
      by_cases hsm : l[m].1 ≤ s
      · have := up_at (l := l) (s := s) (id := x.1) (i := k) (j := m) (by omega) hm (decide_eq_true ⟨hmid, hsm⟩)
        rw [this] at hl; cases hl
      · have := h2 m hm hma
        rw [hit_is.2 ⟨hmid, by omega⟩] at this
        cases this
    have hwk : wasS (l.take a) x.1 = l[k].2.2 := by
      have e : l.take a = l.take (k + 1) ++ (l.drop (k + 1)).take (a - (k + 1)) := by
        have := List.take_append_drop (k + 1) (l.take a)
        rw [List.take_take, Nat.min_eq_left (by omega), List.drop_take] at this
        exact this.symm
      rw [e, was_app, if_neg, List.take_succ_eq_append_getElem hk, was_snoc, if_pos hid]
      intro hany
      obtain ⟨y, hy, hy2⟩ := List.any_eq_true.1 hany
      rw [List.mem_take_iff_getElem] at hy
      obtain ⟨m, hm, rfl⟩ := hy
      rw [List.length_drop] at hm
      rw [List.getElem_drop] at hy2
      exact hnl (k + 1 + m) (by omega) (by omega) (by omega) (of_decide_eq_true hy2)
    have ok1 := ok_is.1 (ok_each hok ha)
    have ok2 := ok_is.1 (ok_each hok hk)
    rw [(hit_is.1 h1).1, hwk] at ok1
    have hna : l[a].2.2 ≠ 1 := fun e => by
      have := ok1.2.2.2.1 e
      have := ok2.2.1
      omega
    rw [h3, decide_eq_true hna, decide_eq_true (ok1.2.2.2.2 hna)]
theorem now_late (hok : okFrom f [] l = true) (hx : PsOf l s x) {k : Nat} (hk : k < l.length) (hid : l[k].2.1 = x.1) (h : s < l[k].1) :
    decide (l[k].2.2 = 1) ≠ nowS l s x.1 x.2.1 k ∧ nowS l s x.1 x.2.1 (k + 1) = decide (l[k].2.2 ≠ 3) ∧ cntS l s x.1 (k + 1) = cntS l s x.1 k + 1 := by
  have hh : hit s x.1 l[k] = true := hit_is.2 ⟨hid, h⟩
  refine ⟨?_, ?_, by rw [cnt_take hk, hh]; rfl⟩
  · have ok1 := ok_is.1 (ok_each hok hk)
    rw [hid] at ok1
    unfold nowS
    by_cases ha : (l.take k).any (hit s x.1) = true
    · rw [if_pos ha]
      have hne : wasS (l.take k) x.1 ≠ 0 := fun e => by
        obtain ⟨y, hy, hy2⟩ := List.any_eq_true.1 ha
        have := (was_zero (l.take k) x.1 fun e he => by
          rw [List.mem_take_iff_getElem] at he
          obtain ⟨m, hm, rfl⟩ := he
          exact (ok_is.1 (ok_each hok (show m < l.length by omega))).2.1).1 e y hy
        exact this (hit_is.1 hy2).1
      have hn1 : l[k].2.2 ≠ 1 := fun e => hne (ok1.2.2.2.1 e)
      rw [decide_eq_false hn1, decide_eq_true (ok1.2.2.2.2 hn1)]
      exact Bool.false_ne_true
    · rw [if_neg ha]
      obtain ⟨a, hal, h1, h2, h3⟩ := hx.first
      have ha' : (l.take k).any (hit s x.1) = false := by simpa using ha
      have h4 := no_hit.1 ha'
      have hak : a = k := by
        rcases Nat.lt_trichotomy a k with hlt | he | hlt
        · rw [h4 a hal hlt] at h1; cases h1
        · exact he
        · rw [h2 k hk hlt] at hh; cases hh
      subst hak
      rw [h3]
      by_cases e : l[a].2.2 = 1 <;> simp [e]
  · unfold nowS
    rw [any_take hk, hh, Bool.or_true, if_pos rfl, List.take_succ_eq_append_getElem hk, was_snoc, if_pos hid]
theorem now_end (hok : okFrom f [] l = true) (hx : PsOf l s x) : nowS l s x.1 x.2.1 l.length = x.2.2.1 ∧ cntS l s x.1 l.length ≠ 0 := by
  obtain ⟨e, he, rfl, hs, hno⟩ := hx
  have hhe : hit s l[e].2.1 l[e] = true := hit_is.2 ⟨rfl, hs⟩
  have hany : l.any (hit s l[e].2.1) = true := List.any_eq_true.2 ⟨l[e], List.getElem_mem he, hhe⟩
  refine ⟨?_, ?_⟩
  · show nowS l s l[e].2.1 _ l.length = decide (l[e].2.2 ≠ 3)
    unfold nowS
    rw [List.take_length, if_pos hany]
    have hw : wasS l l[e].2.1 = l[e].2.2 := by
      have e1 : l = l.take (e + 1) ++ l.drop (e + 1) := (List.take_append_drop _ _).symm
      have h2 : wasS (l.take (e + 1) ++ l.drop (e + 1)) l[e].2.1 = l[e].2.2 := by
        rw [was_app, if_neg, List.take_succ_eq_append_getElem he, was_snoc, if_pos rfl]
        intro ha
        obtain ⟨y, hy, hy2⟩ := List.any_eq_true.1 ha
        obtain ⟨m, hm, rfl⟩ := List.mem_iff_getElem.1 hy
        have hm2 := hm
        rw [List.length_drop] at hm2
        have h3 : (l.drop (e + 1)).any (hit s l[e].2.1) = true := List.any_eq_true.2 ⟨_, List.getElem_mem hm, hit_is.2 ⟨of_decide_eq_true hy2, by
          rw [List.getElem_drop, ok_seq hok (show e + 1 + m < l.length by omega)]
          have := ok_seq hok he
          omega⟩⟩
        rw [hno] at h3; cases h3
      rwa [← e1] at h2
    rw [hw]
  · show cntS l s l[e].2.1 l.length ≠ 0
    unfold cntS
    rw [List.take_length]
    intro h0
    have : l[e] ∈ l.filter (hit s l[e].2.1) := List.mem_filter.2 ⟨List.getElem_mem he, hhe⟩
    rw [List.length_eq_zero_iff.1 h0] at this
    cases this
end
end Go.Proofs.Ytfdibmcjjclgkaa.Tl
