/- Merged: RfF RfG RfH ReW1. -/
import Derived.Test.YtofelafamfckiaaGreatDoorTt24
set_option maxRecDepth 100000
set_option maxHeartbeats 8000000
namespace Go.Proofs.YtofelafamfckiaaGreatDoor
namespace Re
open Go.RowKit Utf Sc
def okK (t:Tok):Prop:=t.1=0∨t.1=1∨t.1=2∨t.1=3∨t.1=4
theorem qcP {t:Tok} (h:okK t):cd t=0↔qbY t=true:=by
 unfold cd qbY;rw [decide_eq_true_iff];rcases h with h | h | h | h | h
 ·rw [if_neg (by omega),if_neg (by omega),if_neg (by omega),if_neg (by omega)];exact ⟨fun _=> .inl h,fun _=>rfl⟩
 ·rw [if_neg (by omega),if_neg (by omega),if_neg (by omega),if_pos h];by_cases h1:t.2.2.1=[91]
  ·rw [if_pos h1];exact ⟨fun e=>absurd e (by decide),fun e=>by rcases e with e | e;omega;exact absurd h1 e.2.1⟩
  ·rw [if_neg h1];by_cases h2:t.2.2.1=[123]
   ·rw [if_pos h2];exact ⟨fun e=>absurd e (by decide),fun e=>by rcases e with e | e;omega;exact absurd h2 e.2.2⟩
   ·rw [if_neg h2];exact ⟨fun _=> .inr ⟨h,h1,h2⟩,fun _=>rfl⟩
 ·rw [if_pos h];refine ⟨fun e=>?_,fun e=>by rcases e with e | e <;> omega⟩;split at e <;> exact absurd e (by decide)
 ·rw [if_neg (by omega),if_pos h];exact ⟨fun e=>absurd e (by decide),fun e=>by rcases e with e | e <;> omega⟩
 ·rw [if_neg (by omega),if_neg (by omega),if_pos h];exact ⟨fun e=>absurd e (by decide),fun e=>by rcases e with e | e <;> omega⟩
theorem qhM {t:Tok} (h:cd t≠0):(t.1=2∧t.2.2.1=ce∧cd t=1)∨(t.1=2∧t.2.2.1≠ce∧cd t=2)∨(t.1=3∧cd t=3)∨(t.1=4∧cd t=4)∨(t.1=1∧t.2.2.1=[91]∧cd t=5)∨(t.1=1∧t.2.2.1=[123]∧cd t=6):=by
 unfold cd at h ⊢;by_cases h2:t.1=2
 ·rw [if_pos h2];by_cases hn:t.2.2.1=ce
  ·rw [if_pos hn];exact .inl ⟨h2,hn,rfl⟩
  ·rw [if_neg hn];exact .inr (.inl ⟨h2,hn,rfl⟩)
 ·rw [if_neg h2] at h ⊢;by_cases h3:t.1=3
  ·rw [if_pos h3];exact .inr (.inr (.inl ⟨h3,rfl⟩))
  ·rw [if_neg h3] at h ⊢;by_cases h4:t.1=4
   ·rw [if_pos h4];exact .inr (.inr (.inr (.inl ⟨h4,rfl⟩)))
   ·rw [if_neg h4] at h ⊢;by_cases h1:t.1=1
    ·rw [if_pos h1] at h ⊢;by_cases ha:t.2.2.1=[91]
     ·rw [if_pos ha];exact .inr (.inr (.inr (.inr (.inl ⟨h1,ha,rfl⟩))))
     ·rw [if_neg ha] at h ⊢;by_cases hb:t.2.2.1=[123]
      ·rw [if_pos hb];exact .inr (.inr (.inr (.inr (.inr ⟨h1,hb,rfl⟩))))
      ·rw [if_neg hb] at h;exact absurd rfl h
    ·rw [if_neg h1] at h;exact absurd rfl h
theorem qlw {ts:List Tok} {E:Int} {f d i p:Nat} (hk:okK (tk ts E i)) (h:qei (cd (tk ts E i)) d p≠0):pV ts E (f+1) d i p = .bad (tk ts E i).2.2.2 (qei (cd (tk ts E i)) d p):=by
 rw [pV];unfold qei at h ⊢;by_cases c1:cd (tk ts E i)=0
 ·rw [if_pos c1,if_pos ((qcP hk).1 c1)]
 ·rw [if_neg c1] at h ⊢;rw [if_neg (fun e=>c1 ((qcP hk).2 e))];by_cases c2:16<d
  ·rw [if_pos c2,if_pos c2]
  ·rw [if_neg c2] at h ⊢;rw [if_neg c2];by_cases c3:p=8192
   ·rw [if_pos c3,if_pos c3]
   ·rw [if_neg c3] at h;exact absurd rfl h
theorem qlj {k:Int} {d p:Nat} (h:qei k d p=0):k≠0∧¬16<d∧p≠8192:=by
 unfold qei at h;by_cases c1:k=0
 ·rw [if_pos c1] at h;exact absurd h (by decide)
 ·rw [if_neg c1] at h;by_cases c2:16<d
  ·rw [if_pos c2] at h;exact absurd h (by decide)
  ·rw [if_neg c2] at h;by_cases c3:p=8192
   ·rw [if_pos c3] at h;exact absurd h (by decide)
   ·exact ⟨c1,c2,c3⟩
theorem qkU {ts:List Tok} {E:Int} {f d i p:Nat} (h1:qbY (tk ts E i)=false) (h2:¬16<d) (h3:p≠8192) :
  ((tk ts E i).1=4→pV ts E (f+1) d i p = .ok (txV (tk ts E i).2.2.1) (i+1) (p+1))∧((tk ts E i).1=3→pV ts E (f+1) d i p = .ok (nmV (tk ts E i).2.1) (i+1) (p+1))∧
  ((tk ts E i).1=2→pV ts E (f+1) d i p = .ok (wdV (tk ts E i).2.2.1) (i+1) (p+1)):=by
 refine ⟨fun h=>?_,fun h=>?_,fun h=>?_⟩
 ·rw [pV,if_neg (by rw [h1];decide),if_neg h2,if_neg h3,if_pos h]
 ·rw [pV,if_neg (by rw [h1];decide),if_neg h2,if_neg h3,if_neg (by omega),if_pos h]
 ·rw [pV,if_neg (by rw [h1];decide),if_neg h2,if_neg h3,if_neg (by omega),if_neg (by omega),if_pos h]
theorem qhL (rb:Nat) (vL:Value) (ts:List Tok) (E:Int) (hi2:ts.length≤65536) (hln:∀ i,(tk ts E i).2.2.1.length≤65537) (hkk:∀ i,okK (tk ts E i)) (g:Nat):qkH rb vL ts E g:=by
 induction g using Nat.strongRecOn with
 | ind g ih=>
  intro d i p w hp hr hi hpp hd hf;obtain ⟨f,rfl⟩:∃ f,g=f+1:=⟨g-1,by omega⟩
  have IH:∀ g,g<f→qkH rb vL ts E g:=fun g hg=>ih g (by omega);clear ih;obtain ⟨hlt,c0,c1,_,_⟩:=hp.cells;obtain ⟨gb,c,hvL,hg,a0,a1,a2,a3⟩:=qaQ hr hi;rw [hvL] at c0;have k0:(0:Int)≤(i:Int):=by omega
  have k1:(i:Int)<(ts.length:Int)+1:=by omega
  obtain ⟨wa,hwa⟩:∃ wa,wa=w.alloc (.cells #[.int .i64 0,.int .i64 0,.string ⟨#[]⟩,.slice none 0 0,.slice none 0 0] 25):=⟨_,rfl⟩
  have hba:Below w.heap.size w wa:=by rw [hwa];exact (Below.refl _ _).alloc (Nat.le_refl _) _
  have hsa:wa.heap.size=w.heap.size+1:=by rw [hwa,aj]
  have hza:wa.heap[w.heap.size]? = some (.cells #[.int .i64 0,.int .i64 0,.string ⟨#[]⟩,.slice none 0 0,.slice none 0 0] 25 (0,0)):=by rw [hwa];exact heap_alloc_new w _
  have hKO:=fun w=>qfH (tk ts E i) w;unfold qcR at hKO;have hB:=fun w1 (hb:Below w.heap.size w w1)=>qhu rb vL ts E i p d (cd (tk ts E i)) w1 (hp.below hb) (aW hr (Nat.le_of_lt hlt) (Fr.of rb hb)) hi hpp;obtain ⟨t,ht⟩:∃ t,t=tk ts E i:=⟨_,rfl⟩
  have hkt:=hkk i;rw [←ht] at a0 a1 a2 a3 hKO hB hkt;obtain ⟨x1,x2,x3,x4⟩:=t;simp only at a0 a1 a2 a3 hKO hB;generalize ae x3=X at *;have HT:=zh ht;clear ht;obtain ⟨k,hk⟩:∃ k,k=cd (x1,x2,x3,x4):=⟨_,rfl⟩
  rw [←hk] at hKO hB;have HKO:=zh hKO;clear hKO;have HB:=zh hB;clear hB;have HR:=zh hr;clear hr;have HP:=zh hp;clear hp;have HWA:=zh hwa;have HBA:=zh hba;clear hba;have HZA:=zh hza;clear hza;have HIH:=zh IH;clear IH;have HLN:=zh hln;clear hln;have HKK:=zh hkk;clear hkk;have HK:=zh hk;clear hk;have HKT:=zh hkt;clear hkt;have HVL:=zh hvL;clear hvL;have hn:w.heap.size≠rb:=by omega
  clear hwa;go_enter Tryz.func51,Tryz.ntmps51;go_wp2_with fail;go_region_held3 (fun w'=>w'.cell? ⟨rb,0,none⟩=some (.slice (some ⟨gb,0,none⟩) (ts.length+1) c)∧w'.cell? ⟨rb,1,none⟩=some (.int .i64 i)∧w'.cell? ⟨gb,i*4,none⟩=some (.int .i64 x1)∧w'.cell? ⟨gb,i*4+1,none⟩=some (.int .i64 x2)∧w'.cell? ⟨gb,i*4+2,none⟩=some (.string X)∧w'.cell? ⟨gb,i*4+3,none⟩=some (.int .i64 x4))
   (first | exact ⟨(KK ⟨rb,0,none⟩ hlt).trans c0,(KK ⟨rb,1,none⟩ hlt).trans c1,(KK ⟨gb,_,none⟩ (Nat.lt_trans hg hlt)).trans a0,(KK ⟨gb,_,none⟩ (Nat.lt_trans hg hlt)).trans a1,(KK ⟨gb,_,none⟩ (Nat.lt_trans hg hlt)).trans a2,(KK ⟨gb,_,none⟩ (Nat.lt_trans hg hlt)).trans a3⟩ | go_keep)
   ((go_at_call 77;refine (HKO.out _).mono ?_;rw [←HWA.out];rintro e w1 ⟨rfl,hb1⟩;have hbw:Below w.heap.size w w1:=(HBA.out.drew).trans (hb1.mono (by show w.heap.size≤wa.heap.size;omega));have KK:∀ p:Addr,p.block<w.heap.size→w1.cell? p=w.cell? p:=fun p hp=>hbw.cell hp))
  all_goals
   have hz1:w1.heap[w.heap.size]? = _:=(hb1.block w.heap.size (by show w.heap.size<wa.heap.size;omega)).trans HZA.out;have hs1:wa.heap.size≤w1.heap.size:=hb1.size;have HZ1:=zh hz1;clear hz1;have HBW:=zh hbw;clear hbw;clear hb1 KK c0 c1 a0 a1 a2 a3;go_wp2_with fail;refine (HB.out w1 HBW.out).mono ?_;by_cases hy:qei k d p=0
   ·rw [zT hy];rintro e w2 ⟨hg2,⟨_,rfl,hp2⟩ | ⟨h,_⟩⟩
    ·obtain ⟨hk0,hd16,hp8⟩:=qlj hy;have hbad:qbY (tk ts E i)=false:=by
      rcases hb:qbY (tk ts E i) with _ | _
      ·rfl
      ·rw [←HT.out] at hb;exact absurd (HK.out.trans ((qcP HKT.out).2 hb)) hk0
     have hin:=qgi hbad;have hs2:=hg2.size;have HG2:=zh (Fr.trans (Fr.of rb HBW.out) hg2);have HZ2:=zh (au hg2 (by omega) (by omega) HZ1.out);have HR2:=zh (aW HR.out (Nat.le_of_lt hlt) HG2.out);have HLF:=zh (qkU (f:=f) hbad hd16 hp8);have HBD:=zh hbad;have HP2:=zh hp2;have hlt2:rb<w2.heap.size:=by omega
     clear hy hbad hp2 hg2;have hways:=qhM (t:=(x1,x2,x3,x4)) (by rw [←HK.out];exact hk0);rw [←HK.out] at hways;rcases hways with ⟨h1,h2,rfl⟩ | ⟨h1,h2,rfl⟩ | ⟨h1,rfl⟩ | ⟨h1,rfl⟩ | ⟨h1,h2,rfl⟩ | ⟨h1,h2,rfl⟩
     ·have HPV:=zh (show pV ts E (f+1) d i p = .ok (V.mk 1 0 [] [] [] []) (i+1) (p+1) by
       rw [HLF.out.2.2 (by rw [←HT.out];exact h1),←HT.out,wdV,if_pos h2])
      clear h1 h2 hk0;go_wp2_with fail;refine (qiM rb vL ts E i (p+1) w2 HP2.out HR2.out hi (by omega)).mono ?_;rintro e w3 ⟨hg3,v0,v1,v2,v3,v4,rfl,ho3,hV3,hp3⟩;have hz3:=au hg3 (by omega) (by omega) HZ2.out;obtain ⟨z0,z1,z2,z3,z4⟩:=aw hz3;obtain ⟨q0,q1,q2,q3,q4⟩:=aE hz3;have HZ3:=zh hz3;clear hz3;have hs3:=hg3.size;obtain ⟨A,c',A2,c2,hcs,_⟩:=hV3.cells;simp only [List.cons.injEq,and_true] at hcs;obtain ⟨rfl,rfl,rfl,rfl,rfl⟩:=hcs;have HG3:=zh hg3;clear hg3;have HP3:=zh hp3;clear hp3;have HV3:=zh hV3;clear hV3;have HO3:=zh ho3;clear ho3;go_wp2_with fail;refine bodyPost_ret (aV rfl rfl (aJ HZ3.out _ _ _ _ _)) rfl ?_;rw [HPV.out];exact ⟨bg (Fr.trans HG2.out HG3.out) (Nat.le_refl _) _ _ _ _ _,_,_,_,_,_,rfl,HO3.out.keep (by simp) (fun p _=>by simp),RdV.keep (fun pp h1 h2=>be _ _ _ (by omega) _ _ _ _ _) (by omega) (by simp) _ _ HV3.out,aX HP3.out hn _ _ _ _ _⟩
     ·by_cases htr:x3=bS
      ·have HPV:=zh (show pV ts E (f+1) d i p = .ok (V.mk 2 1 [] [] [] []) (i+1) (p+1) by
        rw [HLF.out.2.2 (by rw [←HT.out];exact h1),←HT.out,wdV,if_neg h2,if_pos htr])
       have HTR:=zh (show (tk ts E i).2.2.1=bS by rw [←HT.out];exact htr);clear h1 h2 hk0 htr;go_wp2_with fail;refine (qhr rb vL ts E i (p+1) w2 HP2.out HR2.out hi (by omega) HTR.out).mono ?_;rintro e w3 ⟨hg3,v0,v1,v2,v3,v4,rfl,ho3,hV3,hp3⟩;have hz3:=au hg3 (by omega) (by omega) HZ2.out;obtain ⟨z0,z1,z2,z3,z4⟩:=aw hz3;obtain ⟨q0,q1,q2,q3,q4⟩:=aE hz3;have HZ3:=zh hz3;clear hz3;have hs3:=hg3.size;obtain ⟨A,c',A2,c2,hcs,_⟩:=hV3.cells;simp only [List.cons.injEq,and_true] at hcs;obtain ⟨rfl,rfl,rfl,rfl,rfl⟩:=hcs;have HG3:=zh hg3;clear hg3;have HP3:=zh hp3;clear hp3;have HV3:=zh hV3;clear hV3;have HO3:=zh ho3;clear ho3;go_wp2_with fail;refine bodyPost_ret (aV rfl rfl (aJ HZ3.out _ _ _ _ _)) rfl ?_;rw [HPV.out];exact ⟨bg (Fr.trans HG2.out HG3.out) (Nat.le_refl _) _ _ _ _ _,_,_,_,_,_,rfl,HO3.out.keep (by simp) (fun p _=>by simp),RdV.keep (fun pp h1 h2=>be _ _ _ (by omega) _ _ _ _ _) (by omega) (by simp) _ _ HV3.out,aX HP3.out hn _ _ _ _ _⟩
      ·have HPV:=zh (show pV ts E (f+1) d i p = .ok (V.mk 2 0 [] [] [] []) (i+1) (p+1) by
        rw [HLF.out.2.2 (by rw [←HT.out];exact h1),←HT.out,wdV,if_neg h2,if_neg htr])
       have HTR:=zh (show (tk ts E i).2.2.1≠bS by rw [←HT.out];exact htr);clear h1 h2 hk0 htr;go_wp2_with fail;refine (qiE rb vL ts E i (p+1) w2 HP2.out HR2.out hi (by omega) HTR.out).mono ?_;rintro e w3 ⟨hg3,v0,v1,v2,v3,v4,rfl,ho3,hV3,hp3⟩;have hz3:=au hg3 (by omega) (by omega) HZ2.out;obtain ⟨z0,z1,z2,z3,z4⟩:=aw hz3;obtain ⟨q0,q1,q2,q3,q4⟩:=aE hz3;have HZ3:=zh hz3;clear hz3;have hs3:=hg3.size;obtain ⟨A,c',A2,c2,hcs,_⟩:=hV3.cells;simp only [List.cons.injEq,and_true] at hcs;obtain ⟨rfl,rfl,rfl,rfl,rfl⟩:=hcs;have HG3:=zh hg3;clear hg3;have HP3:=zh hp3;clear hp3;have HV3:=zh hV3;clear hV3;have HO3:=zh ho3;clear ho3;go_wp2_with fail;refine bodyPost_ret (aV rfl rfl (aJ HZ3.out _ _ _ _ _)) rfl ?_;rw [HPV.out];exact ⟨bg (Fr.trans HG2.out HG3.out) (Nat.le_refl _) _ _ _ _ _,_,_,_,_,_,rfl,HO3.out.keep (by simp) (fun p _=>by simp),RdV.keep (fun pp h1 h2=>be _ _ _ (by omega) _ _ _ _ _) (by omega) (by simp) _ _ HV3.out,aX HP3.out hn _ _ _ _ _⟩
     ·have HPV:=zh (HLF.out.2.1 (by rw [←HT.out];exact h1));clear h1 hk0;go_wp2_with fail;refine (qe9 rb vL ts E i (p+1) w2 HP2.out HR2.out hi (by omega)).mono ?_;rintro e w3 ⟨hg3,v0,v1,v2,v3,v4,rfl,ho3,hV3,hp3⟩;have hz3:=au hg3 (by omega) (by omega) HZ2.out;obtain ⟨z0,z1,z2,z3,z4⟩:=aw hz3;obtain ⟨q0,q1,q2,q3,q4⟩:=aE hz3;have HZ3:=zh hz3;clear hz3;have hs3:=hg3.size;obtain ⟨A,c',A2,c2,hcs,_⟩:=hV3.cells;simp only [List.cons.injEq,and_true] at hcs;obtain ⟨rfl,rfl,rfl,rfl,rfl⟩:=hcs;have HG3:=zh hg3;clear hg3;have HP3:=zh hp3;clear hp3;have HV3:=zh hV3;clear hV3;have HO3:=zh ho3;clear ho3;go_wp2_with fail;refine bodyPost_ret (aV rfl rfl (aJ HZ3.out _ _ _ _ _)) rfl ?_;rw [HPV.out];exact ⟨bg (Fr.trans HG2.out HG3.out) (Nat.le_refl _) _ _ _ _ _,_,_,_,_,_,rfl,HO3.out.keep (by simp) (fun p _=>by simp),RdV.keep (fun pp h1 h2=>be _ _ _ (by omega) _ _ _ _ _) (by omega) (by simp) _ _ HV3.out,aX HP3.out hn _ _ _ _ _⟩
     ·have HPV:=zh (HLF.out.1 (by rw [←HT.out];exact h1));clear h1 hk0;go_wp2_with fail;refine (qht rb vL ts E i (p+1) w2 HP2.out HR2.out hi (by omega)).mono ?_;rintro e w3 ⟨hg3,v0,v1,v2,v3,v4,rfl,ho3,hV3,hp3⟩;have hz3:=au hg3 (by omega) (by omega) HZ2.out;obtain ⟨z0,z1,z2,z3,z4⟩:=aw hz3;obtain ⟨q0,q1,q2,q3,q4⟩:=aE hz3;have HZ3:=zh hz3;clear hz3;have hs3:=hg3.size;obtain ⟨A,c',A2,c2,hcs,_⟩:=hV3.cells;simp only [List.cons.injEq,and_true] at hcs;obtain ⟨rfl,rfl,rfl,rfl,rfl⟩:=hcs;have HG3:=zh hg3;clear hg3;have HP3:=zh hp3;clear hp3;have HV3:=zh hV3;clear hV3;have HO3:=zh ho3;clear ho3;go_wp2_with fail;refine bodyPost_ret (aV rfl rfl (aJ HZ3.out _ _ _ _ _)) rfl ?_;rw [HPV.out];exact ⟨bg (Fr.trans HG2.out HG3.out) (Nat.le_refl _) _ _ _ _ _,_,_,_,_,_,rfl,HO3.out.keep (by simp) (fun p _=>by simp),RdV.keep (fun pp h1 h2=>be _ _ _ (by omega) _ _ _ _ _) (by omega) (by simp) _ _ HV3.out,aX HP3.out hn _ _ _ _ _⟩
     ·have HM:=zh (show isM (tk ts E i) 91=true by rw [←HT.out];exact decide_eq_true ⟨h1,h2⟩);have HPV:=zh (qkb (f:=f) HBD.out hd16 hp8 (by rw [←HT.out];exact h1) (by rw [←HT.out];exact h2));clear h1 h2 hk0;go_wp2_with fail;refine (qi9 rb vL ts E hi2 f HIH.out d i (p+1) w2 HP2.out HR2.out hin HM.out (by omega) (by omega) (by omega)).mono ?_;rcases hres:(gL ts E f d (i+1) (p+1) true).map lsV with ⟨a,y⟩ | ⟨v,j1,q1⟩
      ·rintro e w3 ⟨hg3,rfl⟩;refine ag (P:=Tryz.prog) (fn:=Tryz.f51) rfl ?_;rw [HPV.out,hres];exact ⟨Fr.trans HG2.out hg3,rfl⟩
      ·rintro e w3 ⟨hg3,v0,v1,v2,v3,v4,rfl,ho3,hV3,hp3⟩;have hz3:=au hg3 (by omega) (by omega) HZ2.out;obtain ⟨z0,z1,z2,z3,z4⟩:=aw hz3;obtain ⟨q0,q1,q2,q3,q4⟩:=aE hz3;have HZ3:=zh hz3;clear hz3;have hs3:=hg3.size;obtain ⟨A,c',A2,c2,hcs,_⟩:=hV3.cells;simp only [List.cons.injEq,and_true] at hcs;obtain ⟨rfl,rfl,rfl,rfl,rfl⟩:=hcs;have HG3:=zh hg3;clear hg3;have HP3:=zh hp3;clear hp3;have HV3:=zh hV3;clear hV3;have HO3:=zh ho3;clear ho3;go_wp2_with fail;refine bodyPost_ret (aV rfl rfl (aJ HZ3.out _ _ _ _ _)) rfl ?_;rw [HPV.out,hres];exact ⟨bg (Fr.trans HG2.out HG3.out) (Nat.le_refl _) _ _ _ _ _,_,_,_,_,_,rfl,HO3.out.keep (by simp) (fun p _=>by simp),RdV.keep (fun pp h1 h2=>be _ _ _ (by omega) _ _ _ _ _) (by omega) (by simp) _ _ HV3.out,aX HP3.out hn _ _ _ _ _⟩
     ·have HM:=zh (show isM (tk ts E i) 123=true by rw [←HT.out];exact decide_eq_true ⟨h1,h2⟩);have HPV:=zh (qly (f:=f) HBD.out hd16 hp8 (by rw [←HT.out];exact h1) (by rw [←HT.out];show x3≠[91];rw [show x3=[123] from h2];decide));clear h1 h2 hk0;go_wp2_with fail;refine (qeG rb vL ts E hi2 HLN.out f HIH.out d i (p+1) w2 HP2.out HR2.out hin HM.out (by omega) (by omega) (by omega)).mono ?_;rcases hres:(gM ts E f d (i+1) (p+1) [] true).map mpV with ⟨a,y⟩ | ⟨v,j1,q1⟩
      ·rintro e w3 ⟨hg3,rfl⟩;refine ag (P:=Tryz.prog) (fn:=Tryz.f51) rfl ?_;rw [HPV.out,hres];exact ⟨Fr.trans HG2.out hg3,rfl⟩
      ·rintro e w3 ⟨hg3,v0,v1,v2,v3,v4,rfl,ho3,hV3,hp3⟩;have hz3:=au hg3 (by omega) (by omega) HZ2.out;obtain ⟨z0,z1,z2,z3,z4⟩:=aw hz3;obtain ⟨q0,q1,q2,q3,q4⟩:=aE hz3;have HZ3:=zh hz3;clear hz3;have hs3:=hg3.size;obtain ⟨A,c',A2,c2,hcs,_⟩:=hV3.cells;simp only [List.cons.injEq,and_true] at hcs;obtain ⟨rfl,rfl,rfl,rfl,rfl⟩:=hcs;have HG3:=zh hg3;clear hg3;have HP3:=zh hp3;clear hp3;have HV3:=zh hV3;clear hV3;have HO3:=zh ho3;clear ho3;go_wp2_with fail;refine bodyPost_ret (aV rfl rfl (aJ HZ3.out _ _ _ _ _)) rfl ?_;rw [HPV.out,hres];exact ⟨bg (Fr.trans HG2.out HG3.out) (Nat.le_refl _) _ _ _ _ _,_,_,_,_,_,rfl,HO3.out.keep (by simp) (fun p _=>by simp),RdV.keep (fun pp h1 h2=>be _ _ _ (by omega) _ _ _ _ _) (by omega) (by simp) _ _ HV3.out,aX HP3.out hn _ _ _ _ _⟩
    ·cases h
   ·rw [zF hy];rintro e w2 ⟨hg2,⟨h,_⟩ | ⟨_,rfl⟩⟩
    ·cases h
    ·refine ag (P:=Tryz.prog) (fn:=Tryz.f51) rfl ?_;have hpv:=qlw (ts:=ts) (E:=E) (f:=f) (d:=d) (i:=i) (p:=p) (HKK.out i) (by rw [←HT.out,←HK.out];exact hy);rw [←HT.out,←HK.out] at hpv;rw [hpv];exact ⟨Fr.trans (Fr.of rb HBW.out) hg2,rfl⟩
def whR (ts:List Tok) (E:Int):Rs V:=
 match pV ts E (cU ts) 1 0 0 with
 | .bad a y=> .bad a y
 | .ok v i p=>if i<ts.length then .bad (tk ts E i).2.2.2 50 else .ok v i p
theorem qgn (ts:List Tok) (E:Int):rdT ts E=(match whR ts E with | .bad a y=>(V0,a,y) | .ok v _ _=>(v,0,0)):=by
 unfold rdT whR;rcases pV ts E (cU ts) 1 0 0 with ⟨a,y⟩ | ⟨v,i,p⟩
 ·rfl
 ·simp only;by_cases h:i<ts.length
  ·rw [if_pos h,if_pos h]
  ·rw [if_neg h,if_neg h]
theorem qhZ (rb:Nat) (vL:Value) (ts:List Tok) (E:Int) (hi2:ts.length≤65536) (hln:∀ i,(tk ts E i).2.2.1.length≤65537) (hkk:∀ i,okK (tk ts E i)) (w:World) (hp:Rdr w rb vL 0 0) (hr:RdT w rb vL (aM ts E)) :
  Calls Tryz.prog 40 #[.pointer (some ⟨rb,0,none⟩)] w (ck rb vL (whR ts E) w):=by
 have hlt:=hp.cells.1;obtain ⟨wa,hwa⟩:∃ wa,wa=w.alloc (.cells #[.int .i64 0,.int .i64 0,.string ⟨#[]⟩,.slice none 0 0,.slice none 0 0] 25):=⟨_,rfl⟩
 have hba:Below w.heap.size w wa:=by rw [hwa];exact (Below.refl _ _).alloc (Nat.le_refl _) _
 have hsa:wa.heap.size=w.heap.size+1:=by rw [hwa,aj]
 have hza:wa.heap[w.heap.size]? = some (.cells #[.int .i64 0,.int .i64 0,.string ⟨#[]⟩,.slice none 0 0,.slice none 0 0] 25 (0,0)):=by rw [hwa];exact heap_alloc_new w _
 have hV:Calls Tryz.prog 51 #[.pointer (some ⟨rb,0,none⟩),.int .i64 1] wa (ck rb vL (pV ts E (cU ts) 1 0 0) wa):=
  qhL rb vL ts E hi2 hln hkk (cU ts) 1 0 0 wa (hp.below hba) (aW hr (Nat.le_of_lt hlt) (Fr.of rb hba)) (by omega) (by omega) (by omega) (by unfold cU;omega)
 have hF:=fun i p w1 hp1 hr1 hi=>qaL rb vL ts E i p 50 w1 hp1 hr1 hi;have hok:=(ql6 ts E (cU ts)).1 1 0 0;obtain ⟨gb,c,hvL,hg,_⟩:=qaQ hr (i:=0) (by omega);rw [hwa] at hV;unfold whR;have hn:w.heap.size≠rb:=by omega
 have HVL:=zh hvL;clear hvL;have HOK:=zh hok;clear hok;have HF:=zh hF;clear hF;have HR:=zh hr;clear hr;have HWA:=zh hwa;have HFA:=zh (Fr.of rb hba);have HZA:=zh hza;clear hza;clear hwa hba hp;rcases hres:pV ts E (cU ts) 1 0 0 with ⟨a,y⟩ | ⟨v,j,q⟩
 ·rw [hres] at hV;have HV:=zh hV;clear hV;clear hres;go_enter Tryz.func40,Tryz.ntmps40;go_wp2_with fail;refine HV.out.mono ?_;rw [←HWA.out];rintro e w1 ⟨hg1,rfl⟩;refine ag (P:=Tryz.prog) (fn:=Tryz.f40) rfl ?_;exact ⟨Fr.trans HFA.out hg1,rfl⟩
 ·rw [hres] at hV;obtain ⟨_,hj,_⟩:=HOK.out _ _ _ hres (by omega);have HV:=zh hV;clear hV;clear hres;simp only;have kj:(0:Int)≤(j:Int):=by omega
  have wr1:IntKind.i64.wrap ((ts.length:Int)+1-1)=(ts.length:Int):=by rw [IntWalk.i64_in _ (by omega)];omega
  have wr2:IntKind.i64.wrap (((ts.length+1:Nat):Int)-1)=(ts.length:Int):=by rw [IntWalk.i64_in _ (by omega)];omega
  have wr3:IntKind.i64.wrap (ts.length:Int)=(ts.length:Int):=IntWalk.i64_in _ (by omega);by_cases hjl:j<ts.length
  ·rw [if_pos hjl];have t1:decide ((j:Int)<(ts.length:Int))=true:=zT (by omega);have t2:decide (j<ts.length)=true:=zT hjl;clear hjl;go_enter Tryz.func40,Tryz.ntmps40;go_wp2_with fail;refine HV.out.mono ?_;rw [←HWA.out];rintro e w1 ⟨hg1,v0,v1,v2,v3,v4,rfl,ho1,hV1,hp1⟩;obtain ⟨A,c',A2,c2,hcs,_⟩:=hV1.cells;simp only [List.cons.injEq,and_true] at hcs;obtain ⟨rfl,rfl,rfl,rfl,rfl⟩:=hcs;obtain ⟨hlt1,c0,c1,_,_⟩:=hp1.cells;rw [HVL.out] at c0;have HP1:=zh hp1;clear hp1;have HV1:=zh hV1;clear hV1;have HG1:=zh hg1;clear hg1;have HO1:=zh ho1;clear ho1;go_wp2_with fail;go_quiet (fail)
   have hbq:=below_drewN ((Below.refl w1.heap.size w1).alloc (Nat.le_refl _) (.cells #[.int .i64 v.k,.int .i64 v.n,.string (ae v.s),.slice A v.l.length c',.slice A2 v.ms.length c2] 25)) nq;have HBQ:=zh hbq;clear hbq;go_wp2_with fail;refine (HF.out j q _ (HP1.out.below HBQ.out) (aW HR.out (Nat.le_of_lt hlt) (Fr.trans (Fr.trans HFA.out HG1.out) (Fr.of rb HBQ.out))) hj).mono ?_;rintro e w2 ⟨rfl,hb2⟩;refine ag (P:=Tryz.prog) (fn:=Tryz.f40) rfl ?_;exact ⟨Fr.trans (Fr.trans (Fr.trans HFA.out HG1.out) (Fr.of rb HBQ.out)) (Fr.of rb hb2),rfl⟩
  ·rw [if_neg hjl];have t1:decide ((j:Int)<(ts.length:Int))=false:=zF (by omega);have t2:decide (j<ts.length)=false:=zF hjl;clear hjl;go_enter Tryz.func40,Tryz.ntmps40;go_wp2_with fail;refine HV.out.mono ?_;rw [←HWA.out];rintro e w1 ⟨hg1,v0,v1,v2,v3,v4,rfl,ho1,hV1,hp1⟩;obtain ⟨A,c',A2,c2,hcs,_⟩:=hV1.cells;simp only [List.cons.injEq,and_true] at hcs;obtain ⟨rfl,rfl,rfl,rfl,rfl⟩:=hcs;obtain ⟨hlt1,c0,c1,_,_⟩:=hp1.cells;rw [HVL.out] at c0;have hz1:=au hg1 (by omega) (by omega) HZA.out;have hs1:=hg1.size;have HZ1:=zh hz1;clear hz1;have HP1:=zh hp1;clear hp1;have HV1:=zh hV1;clear hV1;have HG1:=zh hg1;clear hg1;have HO1:=zh ho1;clear ho1;go_wp2_with fail;go_quiet (fail)
   have hbq:=below_drewN ((Below.refl w1.heap.size w1).alloc (Nat.le_refl _) (.cells #[.int .i64 v.k,.int .i64 v.n,.string (ae v.s),.slice A v.l.length c',.slice A2 v.ms.length c2] 25)) nq;have hz2:=(hbq.block w.heap.size (by omega)).trans HZ1.out;obtain ⟨z0,z1,z2,z3,z4⟩:=aw hz2;obtain ⟨q0,q1,q2,q3,q4⟩:=aE hz2;have HBQ:=zh hbq;clear hbq;have HZ2:=zh hz2;clear hz2;go_wp2_with fail;refine bodyPost_ret (aV rfl rfl (aJ HZ2.out _ _ _ _ _)) rfl ?_;have hg2:=Fr.trans (Fr.trans HFA.out HG1.out) (Fr.of rb HBQ.out);refine ⟨bg hg2 (Nat.le_refl _) _ _ _ _ _,_,_,_,_,_,rfl,(HO1.out.keep HBQ.out.size (fun p hp=>HBQ.out.frozen hp)).keep (by simp) (fun p _=>by simp),RdV.keep (fun pp h1 h2=>(be _ _ _ (by omega) _ _ _ _ _).trans (HBQ.out.cell h2)) (by omega) (by simp) _ _ HV1.out,aX (HP1.out.below HBQ.out) hn _ _ _ _ _⟩
def qbX (w w':World) (b2 b3 b4:Nat) (a y:Int):Prop:=
 w'.heap[b2]? = some (.cells #[.int .i64 0,.int .i64 0,.string ⟨#[]⟩,.slice none 0 0,.slice none 0 0] 25 (0,0))∧w'.heap[b3]? = some (.cells #[.int .i64 a] 3 (0,0))∧w'.heap[b4]? = some (.cells #[.int .i64 y] 43 (0,0))∧
  ∀ B,B≤b2→B≤b3→B≤b4→Below B w w'
theorem qbX.drew {w w':World} {b2 b3 b4:Nat} {a y:Int} (h:qbX w w' b2 b3 b4 a y):qbX w w'.drew b2 b3 b4 a y:=⟨h.1,h.2.1,h.2.2.1,fun B x2 x3 x4=>(h.2.2.2 B x2 x3 x4).drew⟩
theorem qgY {w w1:World} {b2 b3 b4:Nat} {a y:Int} {u0 u1 u2 u3 u4 a0 y0:Value} (hb:∀ B,B≤w.heap.size→Below B w w1) (h2:w1.heap[b2]? = some (.cells #[u0,u1,u2,u3,u4] 25 (0,0))) (h3:w1.heap[b3]? = some (.cells #[a0] 3 (0,0)))
  (h4:w1.heap[b4]? = some (.cells #[y0] 43 (0,0))) (hl2:b2<w.heap.size) (h23:b2≠b3) (h24:b2≠b4) (h34:b3≠b4) :
  qbX w (((((((w1.setCell ⟨b2,0,none⟩ (.int .i64 0)).setCell ⟨b2,1,none⟩ (.int .i64 0)).setCell ⟨b2,2,none⟩ (.string ⟨#[]⟩)).setCell ⟨b2,3,none⟩ (.slice none 0 0)).setCell ⟨b2,4,none⟩ (.slice none 0 0)).setCell ⟨b3,0,none⟩ (.int .i64 a)).setCell ⟨b4,0,none⟩ (.int .i64 y)) b2 b3 b4 a y:=by
 have r2:=aJ h2 (.int .i64 0) (.int .i64 0) (.string ⟨#[]⟩) (.slice none 0 0) (.slice none 0 0);have r3:=qaZ w1 b2 b3 (fun e=>h23 e.symm) (.int .i64 0) (.int .i64 0) (.string ⟨#[]⟩) (.slice none 0 0) (.slice none 0 0);have r4:=qaZ w1 b2 b4 (fun e=>h24 e.symm) (.int .i64 0) (.int .i64 0) (.string ⟨#[]⟩) (.slice none 0 0) (.slice none 0 0);refine ⟨(heap_setCell_other _ ⟨b4,0,none⟩ b2 _ h24).trans ((heap_setCell_other _ ⟨b3,0,none⟩ b2 _ h23).trans r2),(heap_setCell_other _ ⟨b4,0,none⟩ b3 _ h34).trans (heap_setCell_same _ b3 0 _ _ (.int .i64 a) (r3.trans h3)),heap_setCell_same _ b4 0 _ _ (.int .i64 y) ((heap_setCell_other _ ⟨b3,0,none⟩ b4 _ (fun e=>h34 e.symm)).trans (r4.trans h4)),fun B x2 x3 x4=>?_⟩;exact (((((((hb B (by omega)).setCell x2 _).setCell x2 _).setCell x2 _).setCell x2 _).setCell x2 _).setCell x3 _).setCell x4 _
theorem qhy (b2 b3 b4:Nat) (a y:Int) (w:World) (u0 u1 u2 u3 u4 a0 y0:Value) (h2:w.heap[b2]? = some (.cells #[u0,u1,u2,u3,u4] 25 (0,0))) (h3:w.heap[b3]? = some (.cells #[a0] 3 (0,0))) (h4:w.heap[b4]? = some (.cells #[y0] 43 (0,0)))
  (h23:b2≠b3) (h24:b2≠b4) (h34:b3≠b4) :
  CallsD Tryz.prog 39 #[.pointer (some ⟨b2,0,none⟩),.pointer (some ⟨b3,0,none⟩),.pointer (some ⟨b4,0,none⟩)] (.panicking ({ v:=qcr a y,recovered:=false }::[])) w fun e u' w'=>
   e = .returned (.tuple #[])∧u' = .panicking ({ v:=qcr a y,recovered:=true }::[])∧qbX w w' b2 b3 b4 a y:=by
 unfold qcr;obtain ⟨z0,z1,z2,z3,z4⟩:=aw h2;obtain ⟨q0,q1,q2,q3,q4⟩:=aE h2;have z5:w.cell? ⟨b3,0,none⟩=some a0:=(cell_of_row _ _ 0 _ _ _ h3).trans rfl;have q5:w.frozen? ⟨b3,0,none⟩=false:=frozen_of_row _ _ 0 _ _ h3;have z6:w.cell? ⟨b4,0,none⟩=some y0:=(cell_of_row _ _ 0 _ _ _ h4).trans rfl;have q6:w.frozen? ⟨b4,0,none⟩=false:=frozen_of_row _ _ 0 _ _ h4;refine callsD_of_wpS Tryz.func39 rfl fun c₀ cs hu=>?_;have hta:∀ w:World,(Instr.typeAssert (.iface 68 (.agg #[.int .i64 a,.int .i64 y])) 20 68 false).run Tryz.prog w = .ok (.agg #[.int .i64 a,.int .i64 y]) w:=fun _=>by kernel_rfl
 rw [show (#[Value.pointer (some ⟨b2,0,none⟩),.pointer (some ⟨b3,0,none⟩),.pointer (some ⟨b4,0,none⟩)]++Array.replicate (Tryz.f39.ntmps - #[Value.pointer (some ⟨b2,0,none⟩),.pointer (some ⟨b3,0,none⟩),.pointer (some ⟨b4,0,none⟩)].size) undef) = #[.pointer (some ⟨b2,0,none⟩),.pointer (some ⟨b3,0,none⟩),.pointer (some ⟨b4,0,none⟩),undef,undef,undef,undef,undef,undef,undef,undef,undef,undef,undef,undef] from rfl];apply wpS_seq;apply wpS_region;simp [wpOpsS,go_sem,recoverD,hu,Exit.thenS];refine wpS_of_wp ?_;have hl2:b2<w.heap.size:=(Array.getElem?_eq_some_iff.1 h2).1;have hl3:b3<w.heap.size:=(Array.getElem?_eq_some_iff.1 h3).1;have hl4:b4<w.heap.size:=(Array.getElem?_eq_some_iff.1 h4).1;have n2:b2≠w.heap.size:=by omega
 have n3:b3≠w.heap.size:=by omega
 have n4:b4≠w.heap.size:=by omega
 have m2:w.heap.size≠b2:=by omega
 have m3:w.heap.size≠b3:=by omega
 have m4:w.heap.size≠b4:=by omega
 have g23:b3≠b2:=fun e=>h23 e.symm;have g24:b4≠b2:=fun e=>h24 e.symm;have g34:b4≠b3:=fun e=>h34 e.symm;obtain ⟨w1,hw1⟩:∃ w1,w1=w.alloc (.cells #[.int .i64 a,.int .i64 y] 68):=⟨_,rfl⟩
 have hb1:∀ B,B≤w.heap.size→Below B w w1:=fun B hB=>by rw [hw1];exact (Below.refl _ _).alloc hB _
 have hz1:w1.heap[w.heap.size]? = some (.cells #[.int .i64 a,.int .i64 y] 68 (0,0)):=by rw [hw1];exact heap_alloc_new w _
 have HW1:=zh hw1;have HB1:=zh hb1;have HZ1:=zh hz1;clear hw1 hb1 hz1;go_wp2_with fail;rw [←HW1.out];clear z0 z1 z2 z3 z4 z5 z6 q0 q1 q2 q3 q4 q5 q6;have h2':=((HB1.out w.heap.size (Nat.le_refl _)).block b2 hl2).trans h2;have h3':=((HB1.out w.heap.size (Nat.le_refl _)).block b3 hl3).trans h3;have h4':=((HB1.out w.heap.size (Nat.le_refl _)).block b4 hl4).trans h4;obtain ⟨z0,z1,z2,z3,z4⟩:=aw h2';obtain ⟨q0,q1,q2,q3,q4⟩:=aE h2';have z5:w1.cell? ⟨b3,0,none⟩=some a0:=(cell_of_row _ _ 0 _ _ _ h3').trans rfl;have q5:w1.frozen? ⟨b3,0,none⟩=false:=frozen_of_row _ _ 0 _ _ h3';have z6:w1.cell? ⟨b4,0,none⟩=some y0:=(cell_of_row _ _ 0 _ _ _ h4').trans rfl;have q6:w1.frozen? ⟨b4,0,none⟩=false:=frozen_of_row _ _ 0 _ _ h4';have y1:w1.cell? ⟨w.heap.size,0,none⟩=some (.int .i64 a):=(cell_of_row _ _ 0 _ _ _ HZ1.out).trans rfl;have y2:w1.cell? ⟨w.heap.size,1,none⟩=some (.int .i64 y):=(cell_of_row _ _ 1 _ _ _ HZ1.out).trans rfl;have H2:=zh h2';have H3:=zh h3';have H4:=zh h4';clear h2 h3 h4 h2' h3' h4';go_region_held3 (fun w'=>w'.cell? ⟨w.heap.size,0,none⟩=some (.int .i64 a)∧w'.cell? ⟨w.heap.size,1,none⟩=some (.int .i64 y)) (go_keep) (fail)
 all_goals
  refine ⟨rfl,_,rfl,_,results_none rfl _ _ _,rfl,rfl,?_⟩;exact qbX.drew (qgY HB1.out H2.out H3.out H4.out hl2 h23 h24 h34)
theorem qfu (b2 b3 b4:Nat) (w:World) :
  CallsD Tryz.prog 39 #[.pointer (some ⟨b2,0,none⟩),.pointer (some ⟨b3,0,none⟩),.pointer (some ⟨b4,0,none⟩)] .returning w fun e u' w'=>e = .returned (.tuple #[])∧u' = .returning∧w'=w:=by
 refine callsD_of_wpS Tryz.func39 rfl fun c₀ cs hu=>?_;rw [show (#[Value.pointer (some ⟨b2,0,none⟩),.pointer (some ⟨b3,0,none⟩),.pointer (some ⟨b4,0,none⟩)]++Array.replicate (Tryz.f39.ntmps - #[Value.pointer (some ⟨b2,0,none⟩),.pointer (some ⟨b3,0,none⟩),.pointer (some ⟨b4,0,none⟩)].size) undef) = #[.pointer (some ⟨b2,0,none⟩),.pointer (some ⟨b3,0,none⟩),.pointer (some ⟨b4,0,none⟩),undef,undef,undef,undef,undef,undef,undef,undef,undef,undef,undef,undef] from rfl];apply wpS_seq;apply wpS_region;simp [wpOpsS,go_sem,recoverD,hu,Exit.thenS];refine wpS_of_wp ?_;go_wp2_with fail;cases c₀;refine ⟨rfl,_,?_,_,results_none rfl _ _ _,rfl,rfl,rfl⟩
 simp_all
def qiD (r:V×Int×Int) (w:World) (e:Ending) (w':World):Prop:=
 ∃ c0 c1 c2 c3 c4:Value,e = .returned (.tuple #[.agg #[c0,c1,c2,c3,c4],.int .i64 r.2.1,.int .i64 r.2.2])∧OkC w' [c0,c1,c2,c3,c4]∧RdV w' w.heap.size w'.heap.size r.1 [c0,c1,c2,c3,c4]∧Below w.heap.size w w'
theorem qhq {fn:Func} {b2 b3 b4:Nat} {tmps:Array Value} {w:World} {fr2 fr3 fr4:Nat×Nat} {v0 v1 v2 v3 v4:Value} {a y:Int} (hf:fn.results = #[.cell 2 25,.cell 3 3,.cell 4 43])
  (t2:tmps.getD 2 undef = .pointer (some ⟨b2,0,none⟩)) (t3:tmps.getD 3 undef = .pointer (some ⟨b3,0,none⟩)) (t4:tmps.getD 4 undef = .pointer (some ⟨b4,0,none⟩))
  (h2:w.heap[b2]? = some (.cells #[v0,v1,v2,v3,v4] 25 fr2)) (h3:w.heap[b3]? = some (.cells #[.int .i64 a] 3 fr3)) (h4:w.heap[b4]? = some (.cells #[.int .i64 y] 43 fr4)) :
  (results fn tmps).run Tryz.prog w = .ok (.tuple #[.agg #[v0,v1,v2,v3,v4],.int .i64 a,.int .i64 y]) w:=by
 obtain ⟨c0,c1,c2,c3,c4⟩:=aw h2;have c5:w.cell? ⟨b3,0,none⟩=some (.int .i64 a):=(cell_of_row _ _ 0 _ _ _ h3).trans rfl;have c6:w.cell? ⟨b4,0,none⟩=some (.int .i64 y):=(cell_of_row _ _ 0 _ _ _ h4).trans rfl;rw [Array.getD_eq_getD_getElem?] at t2 t3 t4;simp [results,hf,t2,t3,t4,c0,c1,c2,c3,c4,c5,c6,go_sem]
theorem qex {fn:Func} {b2 b3 b4:Nat} {tmps:Array Value} {w:World} {R:Ending→World→Prop} {fr2 fr3 fr4:Nat×Nat} {v0 v1 v2 v3 v4:Value} {a y:Int} (hf:fn.results = #[.cell 2 25,.cell 3 3,.cell 4 43])
  (t2:tmps.getD 2 undef = .pointer (some ⟨b2,0,none⟩)) (t3:tmps.getD 3 undef = .pointer (some ⟨b3,0,none⟩)) (t4:tmps.getD 4 undef = .pointer (some ⟨b4,0,none⟩))
  (h2:w.heap[b2]? = some (.cells #[v0,v1,v2,v3,v4] 25 fr2)) (h3:w.heap[b3]? = some (.cells #[.int .i64 a] 3 fr3)) (h4:w.heap[b4]? = some (.cells #[.int .i64 y] 43 fr4))
  (hR:R (.returned (.tuple #[.agg #[v0,v1,v2,v3,v4],.int .i64 a,.int .i64 y])) w):Leaves Tryz.prog fn tmps R [] .returning w:=⟨_,qhq hf t2 t3 t4 h2 h3 h4,hR⟩
theorem qcV {W:World} {b:Nat} {o:Obj} (h:W.heap[b]? = some o):W.drew.heap[b]? = some o:=h
theorem qlM {w:World} {b2 b3 b4:Nat} {a0 y0 a y:Value} {o2:Obj} (h2:w.heap[b2]? = some o2) (h3:w.heap[b3]? = some (.cells #[a0] 3 (0,0))) (h4:w.heap[b4]? = some (.cells #[y0] 43 (0,0)))
  (h23:b2≠b3) (h24:b2≠b4) (h34:b3≠b4) :
  ((w.setCell ⟨b3,0,none⟩ a).setCell ⟨b4,0,none⟩ y).heap[b2]? = some o2∧((w.setCell ⟨b3,0,none⟩ a).setCell ⟨b4,0,none⟩ y).heap[b3]? = some (.cells #[a] 3 (0,0))∧((w.setCell ⟨b3,0,none⟩ a).setCell ⟨b4,0,none⟩ y).heap[b4]? = some (.cells #[y] 43 (0,0)):=
 ⟨(heap_setCell_other _ ⟨b4,0,none⟩ b2 _ h24).trans ((heap_setCell_other _ ⟨b3,0,none⟩ b2 _ h23).trans h2),(heap_setCell_other _ ⟨b4,0,none⟩ b3 _ h34).trans (heap_setCell_same _ b3 0 _ _ a h3),heap_setCell_same _ b4 0 _ _ y ((heap_setCell_other _ ⟨b3,0,none⟩ b4 _ (fun e=>h34 e.symm)).trans h4)⟩
theorem qmG {w:World} {b2 b3 b4:Nat} {u0 u1 u2 u3 u4 a0 y0 v0 v1 v2 v3 v4 a y:Value} (h2:w.heap[b2]? = some (.cells #[u0,u1,u2,u3,u4] 25 (0,0))) (h3:w.heap[b3]? = some (.cells #[a0] 3 (0,0))) (h4:w.heap[b4]? = some (.cells #[y0] 43 (0,0)))
  (h23:b2≠b3) (h24:b2≠b4) (h34:b3≠b4) :
  let W:=(((((((w.setCell ⟨b2,0,none⟩ v0).setCell ⟨b2,1,none⟩ v1).setCell ⟨b2,2,none⟩ v2).setCell ⟨b2,3,none⟩ v3).setCell ⟨b2,4,none⟩ v4).setCell ⟨b3,0,none⟩ a).setCell ⟨b4,0,none⟩ y)
  W.heap[b2]? = some (.cells #[v0,v1,v2,v3,v4] 25 (0,0))∧W.heap[b3]? = some (.cells #[a] 3 (0,0))∧W.heap[b4]? = some (.cells #[y] 43 (0,0))∧(∀ B,B≤b2→B≤b3→B≤b4→Below B w W)∧
   (∀ q:Addr,q.block≠b2→q.block≠b3→q.block≠b4→W.cell? q=w.cell? q):=by
 have r2:=aJ h2 v0 v1 v2 v3 v4;have r3:=(qaZ w b2 b3 (fun e=>h23 e.symm) v0 v1 v2 v3 v4).trans h3;have r4:=(qaZ w b2 b4 (fun e=>h24 e.symm) v0 v1 v2 v3 v4).trans h4;obtain ⟨p2,p3,p4⟩:=qlM (a:=a) (y:=y) r2 r3 r4 h23 h24 h34;refine ⟨p2,p3,p4,fun B x2 x3 x4=>?_,fun q e2 e3 e4=>?_⟩
 ·exact (((((((Below.refl B w).setCell x2 _).setCell x2 _).setCell x2 _).setCell x2 _).setCell x2 _).setCell x3 _).setCell x4 _
 ·rw [World.cell?_setCell_other _ ⟨b4,0,none⟩ q _ (fun e=>e4 (by rw [←e])),World.cell?_setCell_other _ ⟨b3,0,none⟩ q _ (fun e=>e3 (by rw [←e]))];exact be w b2 q (fun e=>e2 e.symm) _ _ _ _ _
theorem qfz {l:List UInt8} (he:(cI l).2.2=0) (E:Int):(cI l).1.length≤65536∧(∀ i,(tk (cI l).1 E i).2.2.1.length≤65537)∧(∀ i,okK (tk (cI l).1 E i))∧l.length≤65536:=by
 obtain ⟨h1,_,h2,_⟩:=qhx he;have h3:=h2.le.2.1;have h4:=h2.okT;refine ⟨by omega,fun i=>?_,fun i=>?_,h1⟩
 ·rcases Nat.lt_or_ge i (cI l).1.length with g | g
  ·rw [qiI g];have:=(h4 _ (List.getElem_mem g)).2;omega
  ·rw [qbI g];simp
 ·rcases Nat.lt_or_ge i (cI l).1.length with g | g
  ·rw [qiI g];rcases (h4 _ (List.getElem_mem g)).1 with h | h | h | h
   ·exact .inr (.inl h.1)
   ·exact .inr (.inr (.inl h.1))
   ·exact .inr (.inr (.inr (.inl h.1)))
   ·exact .inr (.inr (.inr (.inr h.1)))
  ·rw [qbI g];exact .inl rfl
theorem qg6 (s:ByteArray) (w:World) (hs:s.size≤9223372036854775807) :
  Calls Tryz.prog 22 #[.string s] w (qiD (rdV s.data.toList) w):=by
 obtain ⟨n,hn⟩:∃ n,n=w.heap.size:=⟨_,rfl⟩
 obtain ⟨i0,hi0,hz0,hz1,hz2⟩:=info_parts qgp;obtain ⟨wa,hwa⟩:∃ wa,wa=((w.alloc (.cells #[.int .i64 0,.int .i64 0,.string ⟨#[]⟩,.slice none 0 0,.slice none 0 0] 25)).alloc (.cells #[.int .i64 0] 3)).alloc (.cells #[.int .i64 0] 43):=⟨_,rfl⟩
 have hs1:(w.alloc (.cells #[.int .i64 0,.int .i64 0,.string ⟨#[]⟩,.slice none 0 0,.slice none 0 0] 25)).heap.size=w.heap.size+1:=aj _ _;have hs2:((w.alloc (.cells #[.int .i64 0,.int .i64 0,.string ⟨#[]⟩,.slice none 0 0,.slice none 0 0] 25)).alloc (.cells #[.int .i64 0] 3)).heap.size=w.heap.size+2:=by rw [aj,hs1]
 have hba:Below w.heap.size w wa:=by rw [hwa];exact (((Below.refl _ _).alloc (Nat.le_refl _) _).alloc (by rw [hs1];omega) _).alloc (by rw [hs2];omega) _
 have hsa:wa.heap.size=w.heap.size+3:=by rw [hwa,aj,hs2]
 have hza:wa.heap[w.heap.size]? = some (.cells #[.int .i64 0,.int .i64 0,.string ⟨#[]⟩,.slice none 0 0,.slice none 0 0] 25 (0,0)):=by rw [hwa];exact (heap_alloc_old _ _ (by rw [hs2];omega)).trans ((heap_alloc_old _ _ (by rw [hs1];omega)).trans (heap_alloc_new w _))
 have hzb:wa.heap[w.heap.size+1]? = some (.cells #[.int .i64 0] 3 (0,0)):=by
  have:=heap_alloc_new (w.alloc (.cells #[.int .i64 0,.int .i64 0,.string ⟨#[]⟩,.slice none 0 0,.slice none 0 0] 25)) (.cells #[.int .i64 0] 3);rw [hs1] at this;rw [hwa];exact (heap_alloc_old _ _ (by rw [hs2];omega)).trans this
 have hzc:wa.heap[w.heap.size+2]? = some (.cells #[.int .i64 0] 43 (0,0)):=by
  have:=heap_alloc_new ((w.alloc (.cells #[.int .i64 0,.int .i64 0,.string ⟨#[]⟩,.slice none 0 0,.slice none 0 0] 25)).alloc (.cells #[.int .i64 0] 3)) (.cells #[.int .i64 0] 43);rw [hs2] at this;rw [hwa];exact this
 have hT:=qfM s wa hs;have hfacts:=fun he=>qfz (l:=s.data.toList) he (s.data.toList.length:Int);have hE:=af s;unfold rdV;rcases hsc:cI s.data.toList with ⟨ts,at_,er⟩;rw [hsc] at hT hfacts;simp only at hfacts ⊢;rw [hwa] at hT;rw [hE] at hfacts ⊢;have hmf:∀ (fn:Fn) (first cap:Array Value) (w:World),(Instr.makeFunc fn first cap).run Tryz.prog w = .ok (.func fn first cap) w:=fun _ _ _ _=>rfl;have HT:=zh hT;clear hT;have HWA:=zh hwa;have HBA:=zh hba;clear hba;have HZA:=zh hza;clear hza;have HZB:=zh hzb;clear hzb;have HZC:=zh hzc;clear hzc;have HFC:=zh hfacts;clear hfacts;clear hwa hsc hs1 hs2;have d1:w.heap.size≠w.heap.size+1:=by omega
 have d2:w.heap.size≠w.heap.size+2:=by omega
 have d3:w.heap.size+1≠w.heap.size+2:=by omega
 by_cases he:er=0
 ·subst he;simp only [ne_eq,not_true_eq_false,if_false];obtain ⟨fl,fln,fkk,fsz⟩:=HFC.out rfl;have hWH:=fun rb vL w hp hr=>qhZ rb vL ts (s.size:Int) fl fln fkk w hp hr;have HWH:=zh hWH;clear hWH;clear fln fkk;go_enter_defers Tryz.func22,Tryz.ntmps22
  go_wp2_with fail;refine HT.out.mono ?_;rw [←HWA.out];rintro e w1 ⟨v,rfl,hown,hb1⟩;have hs3:=hb1.size;have h2:=(hb1.block w.heap.size (by omega)).trans HZA.out;have h3:=(hb1.block (w.heap.size+1) (by omega)).trans HZB.out;have h4:=(hb1.block (w.heap.size+2) (by omega)).trans HZC.out;have z3:w1.cell? ⟨w.heap.size+1,0,none⟩=some (.int .i64 0):=(cell_of_row _ _ 0 _ _ _ h3).trans rfl;have z4:w1.cell? ⟨w.heap.size+2,0,none⟩=some (.int .i64 0):=(cell_of_row _ _ 0 _ _ _ h4).trans rfl;have q3:w1.frozen? ⟨w.heap.size+1,0,none⟩=false:=frozen_of_row _ _ 0 _ _ h3;have q4:w1.frozen? ⟨w.heap.size+2,0,none⟩=false:=frozen_of_row _ _ 0 _ _ h4;have p0:=qlM (a:= .int .i64 at_) (y:= .int .i64 0) h2 h3 h4 d1 d2 d3;have HB1:=zh hb1;clear hb1;have HO:=zh hown;clear hown;clear h2 h3 h4;obtain ⟨w2,hw2⟩:∃ w2,w2=(w1.setCell ⟨w.heap.size+1,0,none⟩ (.int .i64 at_)).setCell ⟨w.heap.size+2,0,none⟩ (.int .i64 0):=⟨_,rfl⟩
  have hb2:Below w.heap.size w w2:=by rw [hw2];exact ((HBA.out.trans (HB1.out.mono (by omega))).setCell (by show w.heap.size≤w.heap.size+1;omega) _).setCell (by show w.heap.size≤w.heap.size+2;omega) _
  rw [←hw2] at p0;obtain ⟨h2,h3,h4⟩:=p0;have HW2:=zh hw2;clear hw2;have HB2:=zh hb2;clear hb2;have H2:=zh h2;clear h2;have H3:=zh h3;clear h3;have H4:=zh h4;clear h4;have hn2:w2.heap.size=w1.heap.size:=by rw [HW2.out];simp
  have hown2:w2.ownsRow (w.heap.size+3) 70 4 v ts.length (bG ts):=by
   rw [HW2.out,←hsa];exact ownsRow_setCell_below (ownsRow_setCell_below HO.out (by show w.heap.size+1<wa.heap.size;omega) _) (by show w.heap.size+2<wa.heap.size;omega) _
  have HO2:=zh hown2;clear hown2;obtain ⟨w3,hw3⟩:∃ w3,w3=w2.alloc (.cells #[.int .i64 0,.int .i64 0,.string ⟨#[]⟩,.int .i64 s.size] 70):=⟨_,rfl⟩
  have hn3:w3.heap[w1.heap.size]? = some (.cells #[.int .i64 0,.int .i64 0,.string ⟨#[]⟩,.int .i64 s.size] 70 (0,0)):=by rw [hw3,←hn2];exact heap_alloc_new w2 _
  have hown3:w3.ownsRow (w.heap.size+3) 70 4 v ts.length (bG ts):=by rw [hw3];exact HO2.out.alloc _
  have hb3:Below w.heap.size w w3:=by rw [hw3];exact HB2.out.alloc HB2.out.size _
  have hz3:w3.heap.size=w1.heap.size+1:=by rw [hw3,aj,hn2]
  have h23:∀ b,b<w.heap.size+3→w3.heap[b]? = w2.heap[b]?:=fun b hb=>by rw [hw3];exact heap_alloc_old _ _ (by omega)
  rw [HW2.out] at hw3;have HW3:=zh hw3;clear hw3;have HN3:=zh hn3;clear hn3;have HO3:=zh hown3;clear hown3;have HB3:=zh hb3;clear hb3;have HH3:=zh h23;clear h23;go_wp2_with (at_builtin;rw [←HW3.out];refine wpList_append_lies w3 rfl _ _ _ rfl (w.heap.size+3) 70 i0 _ 4 40 Tryz.underlying64 hi0 hz0 hz1 hz2 (by rfl) (by omega) v ts.length (bG ts) rfl HO3.out ⟨w1.heap.size,0,none⟩ 1 1 [.int .i64 0,.int .i64 0,.string ⟨#[]⟩,.int .i64 s.size] rfl rfl (World.news_of_block HN3.out) (by simp [Value.oneCell']) (by omega) (by unfold maxLen;omega) (by omega) (by omega) (w1.heap.size+1) hz3 ?_;intro g cap w4 hown4 hg4 hat hlt4)
  obtain ⟨w5,hw5⟩:∃ w5,w5=w4.alloc (.cells #[.slice (some ⟨g,0,none⟩) (ts.length+1) cap,.int .i64 0,.int .i64 0] 72):=⟨_,rfl⟩
  rw [←hw5];have hs4:=hg4.size;have hp5:Rdr w5 w4.heap.size (.slice (some ⟨g,0,none⟩) (ts.length+1) cap) 0 0:=by rw [hw5];exact heap_alloc_new w4 _
  have hcs:bG (aM ts (s.size:Int))=bG ts++[.int .i64 0,.int .i64 0,.string ⟨#[]⟩,.int .i64 s.size]:=by unfold aM;rw [qbT,qb5];rfl
  have hr4:RdT w4 w4.heap.size (.slice (some ⟨g,0,none⟩) (ts.length+1) cap) (aM ts (s.size:Int)):=RdT.of_own (ts:=aM ts (s.size:Int)) (by rw [qbN,hcs];exact hown4);have hb45:Below w4.heap.size w4 w5:=by rw [hw5];exact (Below.refl _ _).alloc (Nat.le_refl _) _
  have hr5:=hr4.below hb45 (Nat.le_refl _);have hrow:∀ b,b<w.heap.size+3→w5.heap[b]? = w2.heap[b]?:=fun b hb=>(hb45.block b (by omega)).trans ((hg4.block b (by omega) (aB HO3.out hb).symm).trans (HH3.out b hb));have h2:=(hrow w.heap.size (by omega)).trans H2.out;have h3:=(hrow (w.heap.size+1) (by omega)).trans H3.out;have h4:=(hrow (w.heap.size+2) (by omega)).trans H4.out;have hb5:Below w.heap.size w w5:=(HB3.out.grown hg4 HB3.out.size (fun k hk=>by have:=(HO3.out.lt k hk).1;omega)).trans (hb45.mono (by omega));have hs5:w5.heap.size=w4.heap.size+1:=by rw [hw5,aj]
  have hW:=HWH.out w4.heap.size _ w5 hp5 hr5;have HH2:=zh h2;clear h2;have HHH3:=zh h3;clear h3;have HH4:=zh h4;clear h4;have HB5:=zh hb5;clear hb5;clear hw5 hrow hr5 hr4 hb45 hcs hown4 hg4 hp5;refine hW.mono ?_;clear hW;rcases hwh:whR ts (s.size:Int) with ⟨a,y⟩ | ⟨vv,jj,q⟩
  ·rintro e w6 ⟨hg6,rfl⟩;have hs6:=hg6.size;have r2:=au hg6 (by omega) (by omega) HH2.out;have r3:=au hg6 (by omega) (by omega) HHH3.out;have r4:=au hg6 (by omega) (by omega) HH4.out;refine leaves_cons (f:=39) (args:= #[.pointer (some ⟨w.heap.size,0,none⟩),.pointer (some ⟨w.heap.size+1,0,none⟩),.pointer (some ⟨w.heap.size+2,0,none⟩)]) (by simp) (by simp [go_sem]) ?_;refine (qhy w.heap.size (w.heap.size+1) (w.heap.size+2) a y w6 _ _ _ _ _ _ _ r2 r3 r4 d1 d2 d3).mono ?_;rintro e u' w7 ⟨rfl,rfl,c2,c3,c4,cb⟩;refine qex rfl rfl rfl rfl c2 c3 c4 ?_;rw [qgn,hwh];exact ⟨_,_,_,_,_,rfl,OkC.of (NF.nil_ _ _) (NF.nil_ _ _),cC _ _ _ 0 0 [],(HB5.out.grown hg6 HB5.out.size (fun k hk=>by obtain rfl:=Option.some.inj hk;omega)).trans (cb _ (Nat.le_refl _) (by omega) (by omega))⟩
  ·rintro e w6 ⟨hg6,v0,v1,v2,v3,v4,rfl,ho6,hV6,hp6⟩;have hs6:=hg6.size;have r2:=au hg6 (by omega) (by omega) HH2.out;have r3:=au hg6 (by omega) (by omega) HHH3.out;have r4:=au hg6 (by omega) (by omega) HH4.out;obtain ⟨A,c',A2,c2,hcs,_⟩:=hV6.cells;simp only [List.cons.injEq,and_true] at hcs;obtain ⟨rfl,rfl,rfl,rfl,rfl⟩:=hcs;obtain ⟨z0,z1,z2,z3,z4⟩:=aw r2;obtain ⟨q0,q1,q2,q3,q4⟩:=aE r2;have z5:w6.cell? ⟨w.heap.size+1,0,none⟩=some (.int .i64 at_):=(cell_of_row _ _ 0 _ _ _ r3).trans rfl;have q5:w6.frozen? ⟨w.heap.size+1,0,none⟩=false:=frozen_of_row _ _ 0 _ _ r3;have z6:w6.cell? ⟨w.heap.size+2,0,none⟩=some (.int .i64 0):=(cell_of_row _ _ 0 _ _ _ r4).trans rfl;have q6:w6.frozen? ⟨w.heap.size+2,0,none⟩=false:=frozen_of_row _ _ 0 _ _ r4;have R2:=zh r2;clear r2;have R3:=zh r3;clear r3;have R4:=zh r4;clear r4;have HV6:=zh hV6;clear hV6;have HO6:=zh ho6;clear ho6;have HG6:=zh hg6;clear hg6;clear hp6;go_wp2_with fail;refine leaves_cons (f:=39) (args:= #[.pointer (some ⟨w.heap.size,0,none⟩),.pointer (some ⟨w.heap.size+1,0,none⟩),.pointer (some ⟨w.heap.size+2,0,none⟩)]) (by simp) (by simp [go_sem]) ?_;refine (qfu w.heap.size (w.heap.size+1) (w.heap.size+2) _).mono ?_;rintro e u' w7 ⟨rfl,rfl,rfl⟩;obtain ⟨r2,r3,r4,rb,rc⟩:=qmG R2.out R3.out R4.out d1 d2 d3 (v0:= .int .i64 vv.k) (v1:= .int .i64 vv.n) (v2:= .string (ae vv.s)) (v3:= .slice A vv.l.length c') (v4:= .slice A2 vv.ms.length c2) (a:= .int .i64 0) (y:= .int .i64 0);refine qex rfl rfl rfl rfl r2 r3 r4 ?_;rw [qgn,hwh];refine ⟨_,_,_,_,_,rfl,HO6.out.keep (by simp) (fun p _=>by simp),RdV.keep (fun q hq1 hq2=>rc q (by omega) (by omega) (by omega)) (by omega) (by simp) _ _ HV6.out,(HB5.out.grown HG6.out HB5.out.size (fun k hk=>by obtain rfl:=Option.some.inj hk;omega)).trans (rb _ (Nat.le_refl _) (by omega) (by omega))⟩
 ·rw [if_pos he];have t1:(er != 0)=true:=by rw [bne_iff_ne];exact he
  have t2:(er==0)=false:=by rw [beq_eq_false_iff_ne];exact he
  clear he;go_enter_defers Tryz.func22,Tryz.ntmps22
  go_wp2_with fail;refine HT.out.mono ?_;rw [←HWA.out];rintro e w1 ⟨v,rfl,hown,hb1⟩;have hs3:=hb1.size;have h2:=(hb1.block w.heap.size (by omega)).trans HZA.out;have h3:=(hb1.block (w.heap.size+1) (by omega)).trans HZB.out;have h4:=(hb1.block (w.heap.size+2) (by omega)).trans HZC.out;have z3:w1.cell? ⟨w.heap.size+1,0,none⟩=some (.int .i64 0):=(cell_of_row _ _ 0 _ _ _ h3).trans rfl;have z4:w1.cell? ⟨w.heap.size+2,0,none⟩=some (.int .i64 0):=(cell_of_row _ _ 0 _ _ _ h4).trans rfl;have q3:w1.frozen? ⟨w.heap.size+1,0,none⟩=false:=frozen_of_row _ _ 0 _ _ h3;have q4:w1.frozen? ⟨w.heap.size+2,0,none⟩=false:=frozen_of_row _ _ 0 _ _ h4;have p0:=qlM (a:= .int .i64 at_) (y:= .int .i64 er) h2 h3 h4 d1 d2 d3;have HB1:=zh hb1;clear hb1;have HO:=zh hown;clear hown;clear h2 h3 h4;obtain ⟨w2,hw2⟩:∃ w2,w2=(w1.setCell ⟨w.heap.size+1,0,none⟩ (.int .i64 at_)).setCell ⟨w.heap.size+2,0,none⟩ (.int .i64 er):=⟨_,rfl⟩
  have hb2:Below w.heap.size w w2:=by rw [hw2];exact ((HBA.out.trans (HB1.out.mono (by omega))).setCell (by show w.heap.size≤w.heap.size+1;omega) _).setCell (by show w.heap.size≤w.heap.size+2;omega) _
  rw [←hw2] at p0;obtain ⟨h2,h3,h4⟩:=p0;have HW2:=zh hw2;clear hw2;have HB2:=zh hb2;clear hb2;have H2:=zh h2;clear h2;have H3:=zh h3;clear h3;have H4:=zh h4;clear h4;go_wp2_with fail;rw [←HW2.out];clear z3 z4 q3 q4;obtain ⟨z0,z1,z2,z3,z4⟩:=aw H2.out;obtain ⟨q0,q1,q2,q3,q4⟩:=aE H2.out;have z5:w2.cell? ⟨w.heap.size+1,0,none⟩=some (.int .i64 at_):=(cell_of_row _ _ 0 _ _ _ H3.out).trans rfl;have q5:w2.frozen? ⟨w.heap.size+1,0,none⟩=false:=frozen_of_row _ _ 0 _ _ H3.out;have z6:w2.cell? ⟨w.heap.size+2,0,none⟩=some (.int .i64 er):=(cell_of_row _ _ 0 _ _ _ H4.out).trans rfl;have q6:w2.frozen? ⟨w.heap.size+2,0,none⟩=false:=frozen_of_row _ _ 0 _ _ H4.out;go_region
  all_goals
   go_wp2_with fail;obtain ⟨r2,r3,r4,rb,_⟩:=qmG H2.out H3.out H4.out d1 d2 d3 (v0:= .int .i64 0) (v1:= .int .i64 0) (v2:= .string ⟨#[]⟩) (v3:= .slice none 0 0) (v4:= .slice none 0 0) (a:= .int .i64 at_) (y:= .int .i64 er);exact qex rfl rfl rfl rfl (qcV r2) (qcV r3) (qcV r4) ⟨_,_,_,_,_,rfl,OkC.of (NF.nil_ _ _) (NF.nil_ _ _),cC _ _ _ 0 0 [],(HB2.out.trans (rb _ (Nat.le_refl _) (by omega) (by omega))).drew⟩
def qgV (v:V) (a y:Int) (w:World) (e:Ending) (w':World):Prop:=
 ∃ A c A2 c2,e = .returned (.tuple #[.agg #[.int .i64 v.k,.int .i64 v.n,.string (ae v.s),.slice A v.l.length c,.slice A2 v.ms.length c2],.int .i64 a,.int .i64 y])∧
  RdV w' w.heap.size w'.heap.size v [.int .i64 v.k,.int .i64 v.n,.string (ae v.s),.slice A v.l.length c,.slice A2 v.ms.length c2]∧Below w.heap.size w w'
theorem qda (s:ByteArray) (w:World) (hs:s.size≤9223372036854775807) {v:V} {a y:Int} (h:rdV s.data.toList=(v,a,y)) :
  Calls Tryz.prog 22 #[.string s] w (qgV v a y w):=by
 refine (qg6 s w hs).mono fun e w' hg=>?_;rw [h] at hg;obtain ⟨c0,c1,c2,c3,c4,rfl,_,hV,hb⟩:=hg;obtain ⟨A,c,A2,d,hcs,_⟩:=hV.cells;simp only [List.cons.injEq,and_true] at hcs;obtain ⟨rfl,rfl,rfl,rfl,rfl⟩:=hcs;exact ⟨A,c,A2,d,rfl,hV,hb⟩
