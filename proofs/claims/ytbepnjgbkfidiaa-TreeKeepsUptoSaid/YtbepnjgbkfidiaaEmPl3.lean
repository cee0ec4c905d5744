import Derived.Test.YtbepnjgbkfidiaaEmPl2
import Derived.Test.YtbepnjgbkfidiaaRePl4
/- Plain facts on the texts of values of JSON: read again, they are what they were; what is read is right. No run of the program in this text. -/
namespace Go.Proofs.Ytbepnjgbkfidiaa.Em
open Go.Proofs.Ytbepnjgbkfidiaa.Utf
open Go.Proofs.Ytbepnjgbkfidiaa.Sc
open Go.Proofs.Ytbepnjgbkfidiaa.Re
open Go.Proofs.Ytbepnjgbkfidiaa.Ch (qbL)
open Go.Proofs.Ytbepnjgbkfidiaa.Nu

/-- the tokens of a right value's text, and what is read of them -/
theorem scn_em {v : V} (h : chk v = 0) (hl : lenV v) : (scn (emV v) 0).2 = (0, 0) ∧ ∀ E, rdT (scn (emV v) 0).1 E = (v, 0, 0) := by
  obtain ⟨h1, h2, h3⟩ := chk_ok h
  obtain ⟨ts, hs, ht⟩ := scan_V v h3 hl (chk_okW h hl) [] [] e_nil
  rw [List.append_nil, List.nil_append, List.length_nil, Nat.zero_add] at hs
  have e : scn (emV v) 0 = (ts, 0, 0) := by
    rw [hs.scn, scn_end (Nat.le_refl _), consR, if_pos rfl, List.append_nil]
  rw [e]
  refine ⟨rfl, fun E => ?_⟩
  have hlen : ts.length = (tkV v).length := by have := congrArg List.length ht; simpa using this
  have hat : atT ts E 0 (tkV v) := by have := atT_of (E := E) (tkV v) ts [] ht; simpa using this
  have := tkV_len v h3 hl
  have hp := pV_tk v h3 hl ts E (fuelOf ts) 1 0 0 (by unfold fuelOf; omega) h2 (by omega) hat
  rw [Nat.zero_add, ← hlen] at hp
  exact rdT_of hp
/-- THE TEXT OF A RIGHT VALUE IS READ AS IT WAS -/
theorem rd_em {v : V} (h : chk v = 0) (hl : lenV v) (hs : (emV v).length ≤ 65536) : rdV (emV v) = (v, 0, 0) := by
  obtain ⟨h1, h2⟩ := scn_em h hl
  have e : scnS (emV v) = scn (emV v) 0 := by unfold scnS; rw [if_neg (by omega)]
  unfold rdV
  rw [e, h1]
  simp only [ne_eq, not_true_eq_false, if_false]
  exact h2 _
/-- UNLIKE VALUES HAVE UNLIKE TEXTS -/
theorem em_inj {v u : V} (h1 : chk v = 0) (l1 : lenV v) (h2 : chk u = 0) (l2 : lenV u) (h : emV v = emV u) : v = u := by
  have a := (scn_em h1 l1).2 0
  have b := (scn_em h2 l2).2 0
  rw [h, b] at a
  exact (congrArg Prod.fst a).symm

mutual
theorem okV_len : ∀ v : V, okV v → lenV v
  | .mk k n s l ns ms, h => by rw [okV] at h; rw [lenV]; exact ⟨h.1, okL_len l h.2.2.1, okL_len ms h.2.2.2⟩
theorem okL_len : ∀ l : List V, okL l → lenL l
  | [], _ => by rw [lenL]; trivial
  | v :: r, h => by rw [okL] at h; rw [lenL]; exact ⟨okV_len v h.1, okL_len r h.2⟩
end
theorem own_tx {s : List UInt8} (h : okS s) : own 4 0 s 0 [] 0 := ⟨⟨by decide, fun _ => rfl, fun h => absurd rfl h, fun _ => rfl, fun _ => rfl⟩, fun h => absurd h (by decide), fun h => absurd h (by decide), fun _ => h, fun h => absurd h (by decide)⟩
theorem own_nm {n : Int} (h : n.natAbs ≤ maxN) : own 3 n [] 0 [] 0 := by
  have hm : maxN = 9007199254740991 := rfl
  exact ⟨⟨by decide, fun h => absurd rfl h.2, fun _ => rfl, fun _ => rfl, fun _ => rfl⟩, fun h => absurd h (by decide), fun _ => by omega, fun h => absurd h (by decide), fun h => absurd h (by decide)⟩
theorem own_ls (n : Nat) : own 5 0 [] n [] 0 := ⟨⟨by decide, fun _ => rfl, fun _ => rfl, fun h => absurd rfl h, fun _ => rfl⟩, fun h => absurd h (by decide), fun h => absurd h (by decide), fun h => absurd h (by decide), fun h => absurd h (by decide)⟩
theorem own_mp {ns : List (List UInt8)} (n : Nat) (h1 : ∀ x ∈ ns, okS x) (h2 : ns.Nodup) : own 6 0 [] 0 ns n := ⟨⟨by decide, fun _ => rfl, fun _ => rfl, fun _ => rfl, fun h => absurd rfl h⟩, fun h => absurd h (by decide), fun h => absurd h (by decide), fun h => absurd h (by decide), fun _ _ => ⟨h1, h2⟩⟩
theorem all_leaf {k n : Int} {s : List UInt8} (h : own k n s 0 [] 0) : allV (.mk k n s [] [] []) := by rw [allV, allL]; exact ⟨h, trivial, trivial⟩
theorem own_wd (s : List UInt8) : allV (wdV s) := by
  unfold wdV
  split
  · exact all_leaf (by decide)
  split
  · exact all_leaf (by decide)
  · exact all_leaf (by decide)
mutual
/-- texts and names have at most so many bytes -/
def mx (L : Nat) : V → Prop
  | .mk _ _ s l ns ms => s.length ≤ L ∧ (∀ x ∈ ns, x.length ≤ L) ∧ mxL L l ∧ mxL L ms
def mxL (L : Nat) : List V → Prop
  | [] => True
  | v :: r => mx L v ∧ mxL L r
end
theorem mx_leaf {L : Nat} (k n : Int) {s : List UInt8} (h : s.length ≤ L) : mx L (.mk k n s [] [] []) := by rw [mx, mxL]; exact ⟨h, (fun x hx => by cases hx), trivial, trivial⟩
theorem mx_wd (L : Nat) (s : List UInt8) : mx L (wdV s) := by
  obtain ⟨k, n, e⟩ := wdV_leaf s
  rw [e]
  exact mx_leaf _ _ (by simp)
theorem mx_sum (K : Nat) : ∀ ns : List (List UInt8), (∀ x ∈ ns, 1 + x.length ≤ K) → (ns.map fun x => 1 + x.length).sum ≤ K * ns.length
  | [], _ => by simp
  | x :: r, h => by
    have a := mx_sum K r (fun y hy => h y (by simp [hy]))
    have b := h x (by simp)
    rw [List.map_cons, List.sum_cons, List.length_cons, Nat.mul_add, Nat.mul_one]
    omega
mutual
theorem mx_sz (L : Nat) : ∀ v : V, lenV v → mx L v → szU v + (1 + L) ≤ 2 * ((1 + L) * cnt v)
  | .mk k n s l ns ms, hl, h => by
    rw [lenV] at hl
    rw [mx] at h
    have a := mxL_sz L l hl.2.1 h.2.2.1
    have b := mxL_sz L ms hl.2.2 h.2.2.2
    have c := mx_sum (1 + L) ns (fun x hx => by have := h.2.1 x hx; omega)
    rw [hl.1] at c
    have e : (1 + L) * (1 + cntL l + cntL ms) = (1 + L) + (1 + L) * cntL l + (1 + L) * cntL ms := by rw [Nat.mul_add, Nat.mul_add, Nat.mul_one]
    rw [szU, cnt, e]
    have := h.1
    clear e
    generalize (1 + L) * cntL l = x1 at *
    generalize (1 + L) * cntL ms = x2 at *
    generalize (1 + L) * l.length = x3 at *
    generalize (1 + L) * ms.length = x4 at *
    omega
theorem mxL_sz (L : Nat) : ∀ l : List V, lenL l → mxL L l → szUL l + (1 + L) * l.length ≤ 2 * ((1 + L) * cntL l)
  | [], _, _ => by rw [szUL, cntL]; simp
  | v :: r, hl, h => by
    rw [lenL] at hl
    rw [mxL] at h
    have a := mx_sz L v hl.1 h.1
    have b := mxL_sz L r hl.2 h.2
    rw [szUL, cntL, List.length_cons]
    have e1 : (1 + L) * (r.length + 1) = (1 + L) * r.length + (1 + L) := by rw [Nat.mul_add, Nat.mul_one]
    have e2 : (1 + L) * (cnt v + cntL r) = (1 + L) * cnt v + (1 + L) * cntL r := by rw [Nat.mul_add]
    rw [e1, e2]
    clear e1 e2
    generalize (1 + L) * cntL r = x1 at *
    generalize (1 + L) * cnt v = x2 at *
    generalize (1 + L) * r.length = x3 at *
    omega
end
theorem tk_okT {ts : List Tok} {E : Int} {L : Nat} (h : ∀ t ∈ ts, okT t ∧ t.2.2.1.length ≤ L) {i : Nat} (hi : (tk ts E i).1 ≠ 0) : okT (tk ts E i) ∧ (tk ts E i).2.2.1.length ≤ L := by
  have := tk_kind hi
  rw [tk_in this]
  exact h _ (List.getElem_mem this)
/-- what is read of right tokens is right, value by value -/
theorem p_all {ts : List Tok} {E : Int} {L : Nat} (ht : ∀ t ∈ ts, okT t ∧ t.2.2.1.length ≤ L) : ∀ f,
    (∀ d i p v j q, pV ts E f d i p = .ok v j q → p ≤ 8192 → allV v ∧ mx L v) ∧
    (∀ d i p l j q, pL ts E f d i p = .ok l j q → p ≤ 8192 → allL l ∧ mxL L l) ∧
    (∀ d i p ns x j q, pM ts E f d i p ns = .ok x j q → p ≤ 8192 → ns.Nodup → (allL x.2 ∧ mxL L x.2) ∧ ∀ y ∈ x.1, okS y ∧ y.length ≤ L) := by
  intro f
  induction f with
  | zero => exact ⟨fun d i p v j q h => (by rw [pV] at h; cases h), fun d i p v j q h => (by rw [pL] at h; cases h), fun d i p ns v j q h => (by rw [pM] at h; cases h)⟩
  | succ f ih =>
    obtain ⟨iV, iL, iM⟩ := ih
    have pf := p_ok ts E f
    refine ⟨fun d i p v j q h hp => ?_, fun d i p l j q h hp => ?_, fun d i p ns x j q h hp hn => ?_⟩
    · rw [pV] at h
      by_cases c1 : badV (tk ts E i) = true
      · rw [if_pos c1] at h; cases h
      rw [if_neg c1] at h
      have h0 : (tk ts E i).1 ≠ 0 := fun e => c1 (by unfold badV; rw [e]; simp)
      have hok2 := tk_okT ht h0
      have hok := hok2.1
      by_cases c2 : 16 < d
      · rw [if_pos c2] at h; cases h
      rw [if_neg c2] at h
      by_cases c3 : p = 8192
      · rw [if_pos c3] at h; cases h
      rw [if_neg c3] at h
      by_cases c4 : (tk ts E i).1 = 4
      · rw [if_pos c4] at h
        simp only [Rs.ok.injEq] at h
        rw [← h.1]
        rcases hok with g | g | g | g
        · omega
        · omega
        · omega
        · exact ⟨all_leaf (own_tx g.2.2), mx_leaf _ _ hok2.2⟩
      rw [if_neg c4] at h
      by_cases c5 : (tk ts E i).1 = 3
      · rw [if_pos c5] at h
        simp only [Rs.ok.injEq] at h
        rw [← h.1]
        rcases hok with g | g | g | g
        · omega
        · omega
        · exact ⟨all_leaf (own_nm g.2.1), mx_leaf _ _ (by simp)⟩
        · omega
      rw [if_neg c5] at h
      by_cases c6 : (tk ts E i).1 = 2
      · rw [if_pos c6] at h
        simp only [Rs.ok.injEq] at h
        rw [← h.1]
        exact ⟨own_wd _, mx_wd _ _⟩
      rw [if_neg c6] at h
      by_cases c7 : (tk ts E i).2.2.1 = [91]
      · rw [if_pos c7] at h
        by_cases c8 : isM (tk ts E (i + 1)) 93 = true
        · rw [if_pos c8] at h
          simp only [Rs.ok.injEq] at h
          rw [← h.1]
          exact ⟨all_leaf (own_ls 0), mx_leaf _ _ (by simp)⟩
        · rw [if_neg c8] at h
          obtain ⟨l, h1, h2⟩ := map_ok h
          have a := iL _ _ _ _ _ _ h1 (by omega)
          rw [← h2, lsV, allV, mx]
          exact ⟨⟨own_ls _, a.1, by rw [allL]; trivial⟩, by simp, (fun x hx => by cases hx), a.2, by rw [mxL]; trivial⟩
      · rw [if_neg c7] at h
        by_cases c8 : isM (tk ts E (i + 1)) 125 = true
        · rw [if_pos c8] at h
          simp only [Rs.ok.injEq] at h
          rw [← h.1]
          exact ⟨all_leaf (own_mp 0 (fun _ h => by cases h) List.nodup_nil), mx_leaf _ _ (by simp)⟩
        · rw [if_neg c8] at h
          obtain ⟨x, h1, h2⟩ := map_ok h
          obtain ⟨a, b⟩ := iM _ _ _ _ _ _ _ h1 (by omega) List.nodup_nil
          have c := pf.2.2 _ _ _ _ _ _ _ h1 (by omega) List.nodup_nil
          rw [← h2, mpV, allV, mx]
          exact ⟨⟨own_mp _ (fun y hy => (b y hy).1) (by simpa using c.2.2.2.2.2.2.2.1), by rw [allL]; trivial, a.1⟩, by simp, fun y hy => (b y hy).2, by rw [mxL]; trivial, a.2⟩
    · rw [pL] at h
      rcases hv : pV ts E f (d + 1) i p with ⟨a, y⟩ | ⟨v, j1, q1⟩
      · rw [hv] at h; cases h
      · rw [hv] at h
        simp only at h
        have a := iV _ _ _ _ _ _ hv hp
        have hq := (pf.1 _ _ _ _ _ _ hv hp).2.2.2.1
        by_cases c1 : isM (tk ts E j1) 93 = true
        · rw [if_pos c1] at h
          simp only [Rs.ok.injEq] at h
          rw [← h.1, allL, allL, mxL, mxL]
          exact ⟨⟨a.1, trivial⟩, a.2, trivial⟩
        rw [if_neg c1] at h
        by_cases c2 : isM (tk ts E j1) 44 = true
        · rw [if_pos c2] at h
          obtain ⟨x, h1, h2⟩ := map_ok h
          have b := iL _ _ _ _ _ _ h1 hq
          rw [← h2, allL, mxL]
          exact ⟨⟨a.1, b.1⟩, a.2, b.2⟩
        · rw [if_neg c2] at h; cases h
    · rw [pM] at h
      by_cases c4 : (tk ts E i).1 ≠ 4
      · rw [if_pos c4] at h; cases h
      rw [if_neg c4] at h
      have c4' : (tk ts E i).1 = 4 := by simpa using c4
      have hok2 := tk_okT ht (i := i) (E := E) (by omega)
      have hok := hok2.1
      have hS : okS (tk ts E i).2.2.1 := by
        rcases hok with g | g | g | g
        · omega
        · omega
        · omega
        · exact g.2.2
      by_cases c5 : (tk ts E i).2.2.1 ∈ ns
      · rw [if_pos c5] at h; cases h
      rw [if_neg c5] at h
      by_cases c6 : isM (tk ts E (i + 1)) 58 = false
      · rw [if_pos c6] at h; cases h
      rw [if_neg c6] at h
      rcases hv : pV ts E f (d + 1) (i + 1 + 1) p with ⟨a, y⟩ | ⟨v, j1, q1⟩
      · rw [hv] at h; cases h
      · rw [hv] at h
        simp only at h
        have a := iV _ _ _ _ _ _ hv hp
        have hq := (pf.1 _ _ _ _ _ _ hv hp).2.2.2.1
        by_cases c1 : isM (tk ts E j1) 125 = true
        · rw [if_pos c1] at h
          simp only [Rs.ok.injEq] at h
          rw [← h.1]
          refine ⟨by rw [allL, allL, mxL, mxL]; exact ⟨⟨a.1, trivial⟩, a.2, trivial⟩, fun y hy => ?_⟩
          simp only [List.mem_singleton] at hy
          rw [hy]; exact ⟨hS, hok2.2⟩
        rw [if_neg c1] at h
        by_cases c2 : isM (tk ts E j1) 44 = true
        · rw [if_pos c2] at h
          obtain ⟨x, h1, h2⟩ := map_ok h
          obtain ⟨b, c⟩ := iM _ _ _ _ _ _ _ h1 hq (by rw [List.nodup_append]; exact ⟨hn, by simp, fun z hz y hy => by simp only [List.mem_singleton] at hy; subst hy; rintro rfl; exact c5 hz⟩)
          rw [← h2]
          refine ⟨by rw [allL, mxL]; exact ⟨⟨a.1, b.1⟩, a.2, b.2⟩, fun y hy => ?_⟩
          rcases List.mem_cons.1 hy with rfl | hy
          · exact ⟨hS, hok2.2⟩
          · exact c y hy
        · rw [if_neg c2] at h; cases h
/-- WHAT IS READ IS RIGHT -/
theorem rd_right {l : List UInt8} (h : (rdV l).2.2 = 0) : chk (rdV l).1 = 0 ∧ lenV (rdV l).1 ∧ szU (rdV l).1 ≤ 1099511627776 := by
  obtain ⟨_, h1, h2, h3, _⟩ := sorts_ok h
  obtain ⟨h4, h5⟩ := rdV_ok h
  obtain ⟨h6, _, h7, _⟩ := scnS_Scan h4
  rw [h5] at h ⊢
  obtain ⟨p, h8, _⟩ := rdT_ok h
  obtain ⟨h9, h10⟩ := (p_all (fun t ht => h7.okT t ht) _).1 _ _ _ _ _ _ h8 (by omega)
  rw [h5] at h1 h2 h3
  have hl := okV_len _ h3
  have hs := mx_sz _ _ hl h10
  have : (1 + (l.length + 1)) * cnt (rdT (scnS l).1 (l.length : Int)).1 ≤ 65538 * 8192 := Nat.mul_le_mul (by omega) h1
  exact ⟨chk_of h1 h2 h9, hl, by omega⟩
end Go.Proofs.Ytbepnjgbkfidiaa.Em
