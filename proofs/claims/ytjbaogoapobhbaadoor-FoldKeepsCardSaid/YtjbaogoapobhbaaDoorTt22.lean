/- Merged: FoAw FoW0. -/
import Derived.Test.YtjbaogoapobhbaaDoorTt21
import Derived.Test.YtjbaogoapobhbaaDoorTt17
import Derived.Laws.Concat
namespace Go.Proofs.YtjbaogoapobhbaaDoor.Fo
open Go.Proofs Go.RowKit
open Go.Proofs.YtjbaogoapobhbaaDoor.Utf
open Go.Proofs.YtjbaogoapobhbaaDoor.Sc
open Go.Proofs.YtjbaogoapobhbaaDoor.Po

theorem lit_rd (w : World) (xs : List (List UInt8)) (cs : Array Value) (n : Nat) (hn : xs.length = n) (h : cs.toList = strC xs) : Rd (w.alloc (.cells cs 9)) (w.alloc (.cells cs 9)).heap.size (.slice (some ⟨w.heap.size, 0, none⟩) n n) (strC xs) := by
  subst hn
  refine ⟨some ⟨w.heap.size, 0, none⟩, xs.length, by rw [strC_len], fun _ => ⟨_, rfl, by show w.heap.size < _; simp, fun j u hu => ?_⟩⟩
  exact cells_new w 9 cs j u (by rw [h]; exact hu)
set_option maxRecDepth 100000 in
set_option maxHeartbeats 1000000 in
theorem awake_any16 (w : World) (hm : Mx w) : Calls Tryd.prog 9 #[] w fun e w' => e = .returned (.bool true) ∧ Below w.heap.size w w' := by
  have C1 := Lib.hid (fun W => pTerms_any ⟨#[97, 100, 97, 32, 34, 103, 114, 97, 99, 101, 32, 104, 111, 112, 112, 101, 114, 34, 120]⟩ W (by decide))
  rw [show tms (⟨#[97, 100, 97, 32, 34, 103, 114, 97, 99, 101, 32, 104, 111, 112, 112, 101, 114, 34, 120]⟩ : ByteArray).data.toList = [[97, 100, 97], [103, 114, 97, 99, 101, 32, 104, 111, 112, 112, 101, 114], [120]] from by decide +kernel] at C1
  have C2 := Lib.hid (fun (tv : Value) (W : World) (hv : Rd W W.heap.size tv (strC [[71, 114, 97, 99, 101, 32, 72, 111, 112, 112, 101, 114], [65, 100, 97, 32, 76]])) (hb : Below w.heap.size w W) => pMatch_any ⟨#[65, 68, 65, 32, 104, 111, 112]⟩ tv [[71, 114, 97, 99, 101, 32, 72, 111, 112, 112, 101, 114], [65, 100, 97, 32, 76]] W hv (by decide) (by decide) (by decide) (.inl ⟨hm.keep hb, by decide⟩))
  rw [show matS (⟨#[65, 68, 65, 32, 104, 111, 112]⟩ : ByteArray).data.toList [[71, 114, 97, 99, 101, 32, 72, 111, 112, 112, 101, 114], [65, 100, 97, 32, 76]] = true from by decide +kernel] at C2
  have C3 := Lib.hid (fun W => pCompare_any ⟨#[66]⟩ ⟨#[97]⟩ W (by decide) (by decide))
  rw [show cmpF (⟨#[66]⟩ : ByteArray).data.toList (⟨#[97]⟩ : ByteArray).data.toList = 1 from by decide +kernel] at C3
  have C4 := Lib.hid (fun W => pFold_any ⟨#[97, 66, 195, 137]⟩ W (by decide))
  rw [show low (⟨#[97, 66, 195, 137]⟩ : ByteArray).data.toList = [97, 98, 195, 137] from by decide +kernel] at C4
  have C5 := Lib.hid (fun W (hb : Below w.heap.size w W) => pHas_any ⟨#[97, 98]⟩ ⟨#[99]⟩ W (by decide) (by decide) (hm.keep hb))
  rw [show hasL (low (⟨#[97, 98]⟩ : ByteArray).data.toList) (low (⟨#[99]⟩ : ByteArray).data.toList) = false from by decide +kernel] at C5
  obtain ⟨X, hX⟩ : ∃ X, strOf [97, 98, 195, 137] = X := ⟨_, rfl⟩
  have x1 : (X.toList == [97, 98, 195, 137]) = true := by rw [← hX, strOf_list]; rfl
  have x2 : X.toList = [97, 98, 195, 137] := by rw [← hX, strOf_list]
  rw [hX] at C4
  clear hX
  go_enter Tryd.func9, Tryd.ntmps9
  go_wp2_with fail
  refine (C1.out _).mono ?_
  rintro e w1 ⟨tv, rfl, hown, hb1⟩
  have HR1 := Lib.hid (Rd.of_own hown)
  have HB1 := Lib.hid hb1
  clear hown hb1
  obtain ⟨W2, hW2⟩ : ∃ W2, W2 = w1.alloc (.cells #[.string ⟨#[97, 100, 97]⟩, .string ⟨#[103, 114, 97, 99, 101, 32, 104, 111, 112, 112, 101, 114]⟩, .string ⟨#[120]⟩] 9) := ⟨_, rfl⟩
  have HL2 := Lib.hid (lit_rd w1 [[97, 100, 97], [103, 114, 97, 99, 101, 32, 104, 111, 112, 112, 101, 114], [120]] #[.string ⟨#[97, 100, 97]⟩, .string ⟨#[103, 114, 97, 99, 101, 32, 104, 111, 112, 112, 101, 114]⟩, .string ⟨#[120]⟩] 3 rfl rfl)
  rw [← hW2] at HL2
  have hb2 : Below w1.heap.size w1 W2 := by rw [hW2]; exact (Below.refl _ _).alloc (Nat.le_refl _) _
  have HR2 := Lib.hid ((HR1.out.below hb2).more hb2.size)
  have HB2 := Lib.hid (HB1.out.trans (hb2.mono HB1.out.size))
  have HW2 := Lib.hid hW2
  clear hW2 hb2
  go_wp2_with fail
  rw [← HW2.out]
  refine (SameParts_any _ _ _ _ W2 HR2.out HL2.out (by decide)).mono ?_
  rintro e w3 ⟨⟨x, rfl, hx⟩, hb3⟩
  obtain rfl : x = true := hx.2 rfl
  have HB3 := Lib.hid (HB2.out.trans (hb3.mono HB2.out.size))
  clear hx hb3
  obtain ⟨W4, hW4⟩ : ∃ W4, W4 = w3.alloc (.cells #[.string ⟨#[71, 114, 97, 99, 101, 32, 72, 111, 112, 112, 101, 114]⟩, .string ⟨#[65, 100, 97, 32, 76]⟩] 9) := ⟨_, rfl⟩
  have HL4 := Lib.hid (lit_rd w3 [[71, 114, 97, 99, 101, 32, 72, 111, 112, 112, 101, 114], [65, 100, 97, 32, 76]] #[.string ⟨#[71, 114, 97, 99, 101, 32, 72, 111, 112, 112, 101, 114]⟩, .string ⟨#[65, 100, 97, 32, 76]⟩] 2 rfl rfl)
  rw [← hW4] at HL4
  have HB4 := Lib.hid (show Below w.heap.size w W4 by rw [hW4]; exact HB3.out.alloc HB3.out.size _)
  have HW4 := Lib.hid hW4
  clear hW4
  go_wp2_with fail
  rw [← HW4.out]
  refine (C2.out _ W4 HL4.out HB4.out).mono ?_
  rintro e w5 ⟨rfl, hb⟩
  have HB5 := Lib.hid (HB4.out.trans (hb.mono HB4.out.size))
  clear hb
  go_wp2_with fail
  refine (C3.out _).mono ?_
  rintro e w6 ⟨rfl, hb⟩
  have HB6 := Lib.hid (HB5.out.trans (hb.mono HB5.out.size))
  clear hb
  go_wp2_with fail
  refine (C4.out _).mono ?_
  rintro e w7 ⟨rfl, hb⟩
  have HB7 := Lib.hid (HB6.out.trans (hb.mono HB6.out.size))
  clear hb
  go_wp2_with fail
  refine (C5.out _ HB7.out).mono ?_
  rintro e w8 ⟨rfl, hb⟩
  have HB8 := Lib.hid (HB7.out.trans (hb.mono HB7.out.size))
  clear hb
  go_wp2_with fail
  go_ret
  exact ⟨rfl, HB8.out⟩
end Go.Proofs.YtjbaogoapobhbaaDoor.Fo
namespace Go.Proofs.YtjbaogoapobhbaaDoor.Fo
open Go.Proofs Go.RowKit
open Go.Proofs.YtjbaogoapobhbaaDoor.Utf
open Go.Proofs.YtjbaogoapobhbaaDoor.Sc
open Go.Proofs.YtjbaogoapobhbaaDoor.Po

section
variable {P : Program} {ops : Array Oper} {Q : Exit → Act → World → Prop} {a : Act} {w : World} {rest : List Oper} {o : Oper}
theorem wpl_wanted (hg : Region.wanted o (yielded ops a.tmps) = true) (h : ∀ K : Act → World → Prop, (∀ a w, wpList P ops Q rest a w → K a w) → o.wp P a w K Q) : wpList P ops Q (o :: rest) a w :=
  wpList_step fun K hK => by rw [if_pos hg]; exact h K hK
theorem append_any_g (hg : Region.wanted o (yielded ops a.tmps) = true) (s x : Operand) (t : TypeId)
    (ho : o.op = .call { callee := .builtin .append, args := #[s, x], argTypes := #[t, t] }) (base : Nat) (e : TypeId) (i : TypeInfo) (z : Value) (size bytes : Nat) (ht : P.underlying t = some (.slice e)) (hi : P.info? e = some i) (hz : i.zero = some z)
    (hsize : i.size = size) (hby : i.bytes = bytes) (hzs : z.cells.size = size) (hsz : 0 < size) (v : Value) (n : Nat) (xs : List Value) (hs : a.eval s = v) (hown : w.ownsRow base e size v n xs)
    (A : Option Addr) (m c : Nat) (news : List Value) (hx : a.eval x = .slice A m c) (hl : news.length = m * size) (hA : A = none → m = 0) (hnews : ∀ ad, A = some ad → ∀ j u, news[j]? = some u → w.cell? (ad.add j) = some u) (h1 : ∀ u ∈ news, u.oneCell' = true)
    (h63 : n + m ≤ maxLen) (hbytes : (n + m) * bytes ≤ 140737488355328) (hbase : base ≤ w.heap.size)
    (h : ∀ v' w', w'.ownsRow base e size v' (n + m) (xs ++ news) → w.grownBy w' v.ownBlock → wpList P ops Q rest (a.put o.dst v') w') : wpList P ops Q (o :: rest) a w := by
  refine wpl_wanted hg fun K hK => ?_
  cases A with
  | some ad =>
    obtain ⟨v', w', hr, h2, h3, h4⟩ := run_append_own (P := P) w base t o.type e i z size bytes ht hi hz hsize hby hzs hsz v n xs hown ad m c news hl (hnews ad rfl) h1 h63 hbytes hbase
    unfold Oper.wp execOp
    simp only [ho, resolve, invoke, builtin, Sem.run_bind, Sem.run_pure, Result.andThen_ok, List.map_toArray, List.map_cons, List.map_nil, hs, hx, hr]
    exact hK _ _ (h v' w' h2 h3)
  | none =>
    obtain rfl := hA rfl
    have hn : news = [] := List.eq_nil_of_length_eq_zero (by omega)
    subst hn
    have hrun : (Builtin.append_ #[t, t] o.type #[v, .slice none 0 c]).run P w = .ok v w := by
      rcases hown.2 with ⟨rfl, rfl⟩ | ⟨g, cap, cur, rfl, _, _, hnc, _⟩
      · simp [Builtin.append_, run_underlying ht, sizeOf, typeInfo, hi, Builtin.lenOf, Builtin.firstCells]
      · simp [Builtin.append_, run_underlying ht, sizeOf, typeInfo, hi, Builtin.lenOf, Builtin.firstCells, hnc, storeCells]
    unfold Oper.wp
    simp [execOp, ho, resolve, invoke, builtin, hs, hx, hrun, Result.andThen]
    exact hK _ _ (h v w (by simpa using hown) (World.grownBy.refl w _))
end
theorem strC_one (ps : List (List UInt8)) : ∀ u ∈ strC ps, u.oneCell' = true := by
  intro u hu
  unfold strC at hu
  obtain ⟨p, -, rfl⟩ := List.mem_map.1 hu
  rfl
theorem rd_open {w : World} {v : Value} {xs : List (List UInt8)} (h : Rd w w.heap.size v (strC xs)) : ∃ A c, v = .slice A xs.length c ∧ (A = none → xs.length = 0) ∧ ∀ ad, A = some ad → ∀ j u, (strC xs)[j]? = some u → w.cell? (ad.add j) = some u := by
  obtain ⟨A, c, rfl, hA⟩ := h
  rw [strC_len] at hA ⊢
  refine ⟨A, c, rfl, fun e => ?_, fun ad e j u hu => ?_⟩
  · rcases Nat.eq_zero_or_pos xs.length with h0 | h0
    · exact h0
    · obtain ⟨ad, e2, -⟩ := hA h0
      rw [e] at e2; cases e2
  · have hj := (List.getElem?_eq_some_iff.1 hu).1
    rw [strC_len] at hj
    obtain ⟨ad2, e2, -, hx⟩ := hA (by omega)
    rw [e] at e2
    injection e2 with e2
    subst e2
    exact hx j u hu
theorem own_spot {w : World} {B E n j : Nat} {v : Value} {xs : List Value} (h : w.ownsRow B E 1 v n xs) (hj : j < xs.length) :
    ∃ g c, v = .slice (some ⟨g, 0, none⟩) n c ∧ B ≤ g ∧ g < w.heap.size ∧ w.there g 0 xs.length := by
  have hl := h.1
  rcases h.2 with ⟨_, rfl⟩ | ⟨g, cap, cur, rfl, hb, hg, hc1, hc2, hc3, hx⟩
  · omega
  · refine ⟨g, cap, rfl, hb, (Array.getElem?_eq_some_iff.1 hg).1, fun i hi => ?_⟩
    have hic : i < cur.size := by
      rw [← hx, List.length_take] at hi
      have := Array.length_toList (xs := cur)
      omega
    refine ⟨?_, ?_⟩
    · rw [cell_of_row w g (0 + i) cur E (0, 0) hg, Nat.zero_add, Array.getElem?_eq_getElem hic]; rfl
    · simp [World.frozen?, hg]
structure SpB (g : Nat) (w0 wr : World) : Prop where
  os : wr.os = w0.os
  tape : wr.tape = w0.tape
  output : wr.output = w0.output
  size : wr.heap.size = w0.heap.size
  block : ∀ k, k ≠ g → wr.heap[k]? = w0.heap[k]?
  there : ∀ b o n, w0.there b o n → wr.there b o n
theorem SpB.refl (g : Nat) (w : World) : SpB g w w := ⟨rfl, rfl, rfl, rfl, fun _ _ => rfl, fun _ _ _ h => h⟩
theorem SpB.set {g : Nat} {w0 wr : World} (h : SpB g w0 wr) (j : Nat) (u : Value) : SpB g w0 (wr.setCell ⟨g, j, none⟩ u) := by
  refine ⟨h.os, h.tape, h.output, ?_, fun k hk => ?_, fun b o n hh => ?_⟩
  · simp [h.size]
  · rw [Below.heap_setCell _ _ _ _ (by show k ≠ g; exact hk)]
    exact h.block k hk
  · have := World.there_setCells (h.there b o n hh) g j [u]
    exact this
theorem SpB.below {g B : Nat} {w0 wr : World} (h : SpB g w0 wr) (hg : B ≤ g) : Below B w0 wr := ⟨h.os, h.tape, h.output, by rw [h.size]; exact Nat.le_refl _, fun k hk => h.block k (by omega)⟩
theorem SpB.own {g B E n : Nat} {w0 wr : World} {v : Value} {xs : List Value} (h : SpB g w0 wr) (hown : w0.ownsRow B E 1 v n xs) (hB : g < B ∨ w0.heap.size ≤ g) : wr.ownsRow B E 1 v n xs := by
  have hlt := hown.lt
  obtain ⟨h0, h1⟩ := hown
  refine ⟨h0, ?_⟩
  rcases h1 with h1 | ⟨k, cap, cur, rfl, h2, h3, h4⟩
  · exact .inl h1
  · have := hlt k rfl
    exact .inr ⟨k, cap, cur, rfl, h2, (h.block k (by omega)).trans h3, h4⟩
end Go.Proofs.YtjbaogoapobhbaaDoor.Fo
