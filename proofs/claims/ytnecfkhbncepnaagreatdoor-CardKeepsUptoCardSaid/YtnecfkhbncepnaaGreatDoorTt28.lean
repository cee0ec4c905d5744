/- Merged: StF StG. -/
import Derived.Test.YtnecfkhbncepnaaGreatDoorTt23
import Derived.WalkSmall
set_option maxRecDepth 100000
set_option maxHeartbeats 2000000
namespace Go.Proofs.YtnecfkhbncepnaaGreatDoor
namespace St
open Go.RowKit Utf Nu
def qrP (n:Int) (b:Bool) (w:World) (e:Ending) (w':World):Prop:=e = .returned (.tuple #[.int .i64 n,.bool b])∧Below w.heap.size w w'
theorem qfk (w:World) (b i:Nat) (cs:Array Value) (t:TypeId) (v:Value) (h:w.heap[b]? = some (.cells cs t (0,0))):(w.setCell ⟨b,i,none⟩ v).heap[b]? = some (.cells (cs.setIfInBounds i v) t (0,0)):=by
 obtain ⟨hlt,hk⟩:=Array.getElem?_eq_some_iff.1 h;show (w.heap.modify b _)[b]? = _;rw [Array.getElem?_eq_getElem (by rw [Array.size_modify];exact hlt),Array.getElem_modify_self,hk];rfl
theorem qsZ {w:World} {b:Nat} {o:Obj} (h:w.heap[b]? = some o):b<w.heap.size:=(Array.getElem?_eq_some_iff.1 h).1
theorem bL {w w':World} {B b:Nat} {o:Obj} (h:w.heap[b]? = some o) (hb:Below B w w') (hB:b<B):w'.heap[b]? = some o:=(hb.block b hB).trans h
def pC (l:List UInt8) (k:Nat):Array Value:= #[.int .i64 ((if 0<k then aH l 0 4 else 0:Nat):Int),.int .i64 ((if 1<k then aH l 5 2 else 0:Nat):Int),.int .i64 ((if 2<k then aH l 8 2 else 0:Nat):Int),.int .i64 ((if 3<k then aH l 11 2 else 0:Nat):Int),.int .i64 ((if 4<k then aH l 14 2 else 0:Nat):Int),.int .i64 ((if 5<k then aH l 17 2 else 0:Nat):Int)]
theorem qq3 (s:ByteArray) (p q j:Nat) (hj:j<q-p):byt (s.extract p q).data.toList j=byt s.data.toList (p+j):=by
 rw [ByteArray.data_extract];unfold byt;rw [List.getD_eq_getElem?_getD,List.getD_eq_getElem?_getD];simp only [Array.toList_extract,List.extract];rw [List.getElem?_take,if_pos hj,List.getElem?_drop]
theorem qqC (s:ByteArray) (p n:Nat) (hq:p+n≤s.size) (hd:bk s.data.toList p n=true):(s.extract p (p+n)).size=n∧aH (s.extract p (p+n)).data.toList 0 n=aH s.data.toList p n∧bk (s.extract p (p+n)).data.toList 0 n=true:=by
 have hb:∀ j,j<n→byt (s.extract p (p+n)).data.toList (0+j)=byt s.data.toList (p+j):=fun j hj=>by rw [Nat.zero_add];exact qq3 s p (p+n) j (by omega)
 refine ⟨by rw [ByteArray.size_extract];omega,?_,(bN _ _ _).2 fun j hj=>by rw [hb j hj];exact (bN _ _ _).1 hd j hj⟩;clear hd;have key:∀ k,k≤n→aH (s.extract p (p+n)).data.toList 0 k=aH s.data.toList p k:=by
  intro k;induction k with
  | zero=>intro _;rfl
  | succ k ih=>intro hk;rw [aH,aH,ih (by omega),hb k (by omega)]
 exact key n (Nat.le_refl _)
theorem eN (s:ByteArray) (p n q:Nat) (w:World) (hpq:p+n=q) (hq:q≤s.size) (h9:n≤9) (hd:bk s.data.toList p n=true) :
  Calls Tryz.prog 178 #[.string (s.extract p q)] w (qbk (.int .i64 (aH s.data.toList p n:Nat)) w):=by
 subst hpq;obtain ⟨h1,h2,h3⟩:=qqC s p n hq hd;have:=qpI (s.extract p (p+n)) w (by omega) (by rw [h1];exact h3);rw [h1,h2] at this;exact this
theorem qoN {l:List UInt8} (h:cA l):qot l=qhX l:=if_pos h
theorem qcl {l:List UInt8} (h:¬cA l):qot l=0:=if_neg h
theorem qhf (s:ByteArray) (w:World) (T:Tab w) (hs:s.size≤9223372036854775807):Calls Tryz.prog 140 #[.string s] w (qrP (qot s.data.toList) (decide (cA s.data.toList)) w):=by
 have CF:=zh (fun wx=>qaP s wx hs);by_cases hf:(frm s.data.toList&&eO s.data.toList 19)=true
 case neg=>
  have hno:¬cA s.data.toList:=fun h=>hf (by rw [h.1,h.2.1];rfl);rw [qcl hno,zF hno];have hf2:=Bool.eq_false_iff.2 hf;rw [hf2] at CF;clear hno hf hf2;go_enter Tryz.func140,Tryz.ntmps140;go_wp2_with fail;refine (CF.out _).mono ?_;rintro e w1 ⟨rfl,hb1⟩;have HB1:=zh hb1;clear hb1;go_wp2_with fail;go_ret2
  exact ⟨rfl,HB1.out⟩
 case pos=>
  rw [hf] at CF;have hf1:=(Bool.and_eq_true_iff.1 hf).1;have hf2:=(Bool.and_eq_true_iff.1 hf).2;have h19:19≤s.size:=qkJ hf1;obtain ⟨d0,d5,d8,d11,d14,d17⟩:=qo9 hf1;have HOK:=zh (show cA s.data.toList↔(db (aH s.data.toList 0 4) (aH s.data.toList 5 2) (aH s.data.toList 8 2)∧aH s.data.toList 11 2≤23∧aH s.data.toList 14 2≤59∧aH s.data.toList 17 2≤59) from ⟨fun h=>h.2.2,fun h=>⟨hf1,hf2,h⟩⟩);have P0:=zh (fun wx=>eN s 0 4 4 wx rfl (by omega) (by omega) d0);have P1:=zh (fun wx=>eN s 5 2 7 wx rfl (by omega) (by omega) d5);have P2:=zh (fun wx=>eN s 8 2 10 wx rfl (by omega) (by omega) d8);have P3:=zh (fun wx=>eN s 11 2 13 wx rfl (by omega) (by omega) d11);have P4:=zh (fun wx=>eN s 14 2 16 wx rfl (by omega) (by omega) d14);have P5:=zh (fun wx=>eN s 17 2 19 wx rfl (by omega) (by omega) d17);have n0:=(qrA _ _ d0).1;have n1:=(qdY _ _ d5).1;have n2:=(qdY _ _ d8).1;have n3:=(qdY _ _ d11).1;have n4:=(qdY _ _ d14).1;have n5:=(qdY _ _ d17).1;have HV:=zh (show qhX s.data.toList=(qem (aH s.data.toList 0 4) (aH s.data.toList 5 2) (aH s.data.toList 8 2)-719528)*86400+((aH s.data.toList 11 2:Int)*60+aH s.data.toList 14 2)*60+aH s.data.toList 17 2 from rfl);have HN:=zh (show qot s.data.toList=if cA s.data.toList then qhX s.data.toList else 0 from rfl);have HPC:=zh (show ∀ k,pC s.data.toList k = #[.int .i64 ((if 0<k then aH s.data.toList 0 4 else 0:Nat):Int),.int .i64 ((if 1<k then aH s.data.toList 5 2 else 0:Nat):Int),.int .i64 ((if 2<k then aH s.data.toList 8 2 else 0:Nat):Int),.int .i64 ((if 3<k then aH s.data.toList 11 2 else 0:Nat):Int),.int .i64 ((if 4<k then aH s.data.toList 14 2 else 0:Nat):Int),.int .i64 ((if 5<k then aH s.data.toList 17 2 else 0:Nat):Int)] from fun _=>rfl);obtain ⟨A0,a0⟩:∃ A0:Nat,aH s.data.toList 0 4=A0:=⟨_,rfl⟩
  obtain ⟨A1,a1⟩:∃ A1:Nat,aH s.data.toList 5 2=A1:=⟨_,rfl⟩
  obtain ⟨A2,a2⟩:∃ A2:Nat,aH s.data.toList 8 2=A2:=⟨_,rfl⟩
  obtain ⟨A3,a3⟩:∃ A3:Nat,aH s.data.toList 11 2=A3:=⟨_,rfl⟩
  obtain ⟨A4,a4⟩:∃ A4:Nat,aH s.data.toList 14 2=A4:=⟨_,rfl⟩
  obtain ⟨A5,a5⟩:∃ A5:Nat,aH s.data.toList 17 2=A5:=⟨_,rfl⟩
  rw [a0,a1,a2,a3,a4,a5] at HOK HV;rw [a0] at P0 n0;rw [a1] at P1 n1;rw [a2] at P2 n2;rw [a3] at P3 n3;rw [a4] at P4 n4;rw [a5] at P5 n5;have HPD:=zh (show ∀ k,pC s.data.toList k = #[.int .i64 ((if 0<k then A0 else 0:Nat):Int),.int .i64 ((if 1<k then A1 else 0:Nat):Int),.int .i64 ((if 2<k then A2 else 0:Nat):Int),.int .i64 ((if 3<k then A3 else 0:Nat):Int),.int .i64 ((if 4<k then A4 else 0:Nat):Int),.int .i64 ((if 5<k then A5 else 0:Nat):Int)] from fun k=>by rw [HPC.out k,a0,a1,a2,a3,a4,a5]);clear HPC;have z4:(4:Int)≤(s.size:Int):=by omega
  have z7:(7:Int)≤(s.size:Int):=by omega
  have z10:(10:Int)≤(s.size:Int):=by omega
  have z13:(13:Int)≤(s.size:Int):=by omega
  have z16:(16:Int)≤(s.size:Int):=by omega
  have z19:(19:Int)≤(s.size:Int):=by omega
  clear a0 a1 a2 a3 a4 a5 d0 d5 d8 d11 d14 d17 hf hf1 hf2 h19;go_enter Tryz.func140,Tryz.ntmps140;go_wp2_with fail;refine (CF.out _).mono ?_;rintro e w1 ⟨rfl,hb1⟩;have HB1:=zh hb1;have HT1:=zh (T.below hb1);clear hb1;obtain ⟨W2,hW2⟩:∃ W2,W2=w1.alloc (.cells #[.int .i64 0,.int .i64 0,.int .i64 0,.int .i64 0,.int .i64 0,.int .i64 0] 186):=⟨_,rfl⟩
  have HB2:=zh (show Below w1.heap.size w1 W2 by rw [hW2];exact (Below.refl _ _).alloc (Nat.le_refl _) _);have HT2:=zh (HT1.out.below HB2.out);have HR2:=zh (show W2.heap[w1.heap.size]? = some (.cells (pC s.data.toList 0) 186 (0,0)) by rw [hW2,HPD.out];exact heap_alloc_new _ _);have HB02:=zh (HB1.out.trans (HB2.out.mono HB1.out.size));have q0:=(HT2.out).2 0 (by omega);have q1:=(HT2.out).2 1 (by omega);have q2:=(HT2.out).2 2 (by omega);have q3:=(HT2.out).2 3 (by omega);have q4:=(HT2.out).2 4 (by omega);have q5:=(HT2.out).2 5 (by omega);have q6:=(HT2.out).2 6 (by omega);have q7:=(HT2.out).2 7 (by omega);have q8:=(HT2.out).2 8 (by omega);have q9:=(HT2.out).2 9 (by omega);have q10:=(HT2.out).2 10 (by omega);have q11:=(HT2.out).2 11 (by omega)
  change _=some (Value.int .i64 0) at q0
  change _=some (Value.int .i64 4) at q1
  change _=some (Value.int .i64 5) at q2
  change _=some (Value.int .i64 7) at q3
  change _=some (Value.int .i64 8) at q4
  change _=some (Value.int .i64 10) at q5
  change _=some (Value.int .i64 11) at q6
  change _=some (Value.int .i64 13) at q7
  change _=some (Value.int .i64 14) at q8
  change _=some (Value.int .i64 16) at q9
  change _=some (Value.int .i64 17) at q10
  change _=some (Value.int .i64 19) at q11
  rw [hW2] at q0 q1 q2 q3 q4 q5 q6 q7 q8 q9 q10 q11;have HW2:=zh hW2;clear hW2
  -- LOOP
  go_wp2_with fail;go_loopw [16] (fun i wr=>∃ k:Nat,i = .int .i64 k∧k≤6∧Aside (wr.heap[w1.heap.size]? = some (.cells (pC s.data.toList k) 186 (0,0)))∧Aside (Below w.heap.size w wr)) (fun i _=>6-(intOf i).toNat)
  case atStart=>exact ⟨0,rfl,by omega,by rw [←HW2.out];exact HR2.out,by rw [←HW2.out];exact HB02.out⟩
  case round=>
   obtain ⟨k,rfl,hk,hrow,hbel⟩:=hrel;have HROW:=zh hrow.out;have HBEL:=zh hbel.out;clear hrow hbel q0 q1 q2 q3 q4 q5 q6 q7 q8 q9 q10 q11;have HLT:=zh (qsZ HROW.out);by_cases hlt:k<6
   ·have t1:decide ((k:Int)<6)=true:=zT (by omega);have key:k=0∨k=1∨k=2∨k=3∨k=4∨k=5:=by omega
    clear hlt hk;rcases key with rfl | rfl | rfl | rfl | rfl | rfl
    ·obtain ⟨W4,hW4⟩:∃ W4,W4=wr.alloc (.cells #[.int .i64 0,.int .i64 4] 188):=⟨_,rfl⟩
     have HB4:=zh (show Below wr.heap.size wr W4 by rw [hW4];exact (Below.refl _ _).alloc (Nat.le_refl _) _);have HW4:=zh hW4;clear hW4;rw [show ((0:Nat):Int)=0 from rfl];have ix:∀ wx,(Instr.index 189 (.agg #[.int .i64 0,.int .i64 4,.int .i64 5,.int .i64 7,.int .i64 8,.int .i64 10,.int .i64 11,.int .i64 13,.int .i64 14,.int .i64 16,.int .i64 17,.int .i64 19]) (.int .i64 0)).run Tryz.prog wx = .ok (.agg #[.int .i64 0,.int .i64 4]) wx:=fun wx=>by kernel_rfl
     go_wp2_with fail;refine (P0.out _).mono ?_;rintro e w3 ⟨rfl,hb3⟩;rw [←HW4.out] at hb3;have HB3:=zh (hb3.mono HB4.out.size);clear hb3;have HR3:=zh (bL (bL HROW.out HB4.out HLT.out) HB3.out HLT.out);have c3:=cell_of_row w3 w1.heap.size 0 _ _ _ HR3.out;rw [HPD.out 0] at c3;replace c3:w3.cell? ⟨w1.heap.size,0,none⟩=some (.int .i64 0):=c3;have f3:=frozen_of_row w3 w1.heap.size 0 _ _ HR3.out;go_wp2_with fail;go_roundw
     case rel=>exact ⟨1,by go_num,by omega,by
      have h:=qfk w3 w1.heap.size 0 _ _ (.int .i64 (A0:Int)) HR3.out;rw [HPD.out 0] at h;rw [HPD.out 1];exact h,((HBEL.out.trans (HB4.out.mono HBEL.out.size)).trans (HB3.out.mono HBEL.out.size)).setCell (p:=⟨w1.heap.size,0,none⟩) HB1.out.size _⟩
     case measure=>simp [intOf]
    ·obtain ⟨W4,hW4⟩:∃ W4,W4=wr.alloc (.cells #[.int .i64 5,.int .i64 7] 188):=⟨_,rfl⟩
     have HB4:=zh (show Below wr.heap.size wr W4 by rw [hW4];exact (Below.refl _ _).alloc (Nat.le_refl _) _);have HW4:=zh hW4;clear hW4;rw [show ((1:Nat):Int)=1 from rfl];have ix:∀ wx,(Instr.index 189 (.agg #[.int .i64 0,.int .i64 4,.int .i64 5,.int .i64 7,.int .i64 8,.int .i64 10,.int .i64 11,.int .i64 13,.int .i64 14,.int .i64 16,.int .i64 17,.int .i64 19]) (.int .i64 1)).run Tryz.prog wx = .ok (.agg #[.int .i64 5,.int .i64 7]) wx:=fun wx=>by kernel_rfl
     go_wp2_with fail;refine (P1.out _).mono ?_;rintro e w3 ⟨rfl,hb3⟩;rw [←HW4.out] at hb3;have HB3:=zh (hb3.mono HB4.out.size);clear hb3;have HR3:=zh (bL (bL HROW.out HB4.out HLT.out) HB3.out HLT.out);have c3:=cell_of_row w3 w1.heap.size 1 _ _ _ HR3.out;rw [HPD.out 1] at c3;replace c3:w3.cell? ⟨w1.heap.size,1,none⟩=some (.int .i64 0):=c3;have f3:=frozen_of_row w3 w1.heap.size 1 _ _ HR3.out;go_wp2_with fail;go_roundw
     case rel=>exact ⟨2,by go_num,by omega,by
      have h:=qfk w3 w1.heap.size 1 _ _ (.int .i64 (A1:Int)) HR3.out;rw [HPD.out 1] at h;rw [HPD.out 2];exact h,((HBEL.out.trans (HB4.out.mono HBEL.out.size)).trans (HB3.out.mono HBEL.out.size)).setCell (p:=⟨w1.heap.size,1,none⟩) HB1.out.size _⟩
     case measure=>simp [intOf]
    ·obtain ⟨W4,hW4⟩:∃ W4,W4=wr.alloc (.cells #[.int .i64 8,.int .i64 10] 188):=⟨_,rfl⟩
     have HB4:=zh (show Below wr.heap.size wr W4 by rw [hW4];exact (Below.refl _ _).alloc (Nat.le_refl _) _);have HW4:=zh hW4;clear hW4;rw [show ((2:Nat):Int)=2 from rfl];have ix:∀ wx,(Instr.index 189 (.agg #[.int .i64 0,.int .i64 4,.int .i64 5,.int .i64 7,.int .i64 8,.int .i64 10,.int .i64 11,.int .i64 13,.int .i64 14,.int .i64 16,.int .i64 17,.int .i64 19]) (.int .i64 2)).run Tryz.prog wx = .ok (.agg #[.int .i64 8,.int .i64 10]) wx:=fun wx=>by kernel_rfl
     go_wp2_with fail;refine (P2.out _).mono ?_;rintro e w3 ⟨rfl,hb3⟩;rw [←HW4.out] at hb3;have HB3:=zh (hb3.mono HB4.out.size);clear hb3;have HR3:=zh (bL (bL HROW.out HB4.out HLT.out) HB3.out HLT.out);have c3:=cell_of_row w3 w1.heap.size 2 _ _ _ HR3.out;rw [HPD.out 2] at c3;replace c3:w3.cell? ⟨w1.heap.size,2,none⟩=some (.int .i64 0):=c3;have f3:=frozen_of_row w3 w1.heap.size 2 _ _ HR3.out;go_wp2_with fail;go_roundw
     case rel=>exact ⟨3,by go_num,by omega,by
      have h:=qfk w3 w1.heap.size 2 _ _ (.int .i64 (A2:Int)) HR3.out;rw [HPD.out 2] at h;rw [HPD.out 3];exact h,((HBEL.out.trans (HB4.out.mono HBEL.out.size)).trans (HB3.out.mono HBEL.out.size)).setCell (p:=⟨w1.heap.size,2,none⟩) HB1.out.size _⟩
     case measure=>simp [intOf]
    ·obtain ⟨W4,hW4⟩:∃ W4,W4=wr.alloc (.cells #[.int .i64 11,.int .i64 13] 188):=⟨_,rfl⟩
     have HB4:=zh (show Below wr.heap.size wr W4 by rw [hW4];exact (Below.refl _ _).alloc (Nat.le_refl _) _);have HW4:=zh hW4;clear hW4;rw [show ((3:Nat):Int)=3 from rfl];have ix:∀ wx,(Instr.index 189 (.agg #[.int .i64 0,.int .i64 4,.int .i64 5,.int .i64 7,.int .i64 8,.int .i64 10,.int .i64 11,.int .i64 13,.int .i64 14,.int .i64 16,.int .i64 17,.int .i64 19]) (.int .i64 3)).run Tryz.prog wx = .ok (.agg #[.int .i64 11,.int .i64 13]) wx:=fun wx=>by kernel_rfl
     go_wp2_with fail;refine (P3.out _).mono ?_;rintro e w3 ⟨rfl,hb3⟩;rw [←HW4.out] at hb3;have HB3:=zh (hb3.mono HB4.out.size);clear hb3;have HR3:=zh (bL (bL HROW.out HB4.out HLT.out) HB3.out HLT.out);have c3:=cell_of_row w3 w1.heap.size 3 _ _ _ HR3.out;rw [HPD.out 3] at c3;replace c3:w3.cell? ⟨w1.heap.size,3,none⟩=some (.int .i64 0):=c3;have f3:=frozen_of_row w3 w1.heap.size 3 _ _ HR3.out;go_wp2_with fail;go_roundw
     case rel=>exact ⟨4,by go_num,by omega,by
      have h:=qfk w3 w1.heap.size 3 _ _ (.int .i64 (A3:Int)) HR3.out;rw [HPD.out 3] at h;rw [HPD.out 4];exact h,((HBEL.out.trans (HB4.out.mono HBEL.out.size)).trans (HB3.out.mono HBEL.out.size)).setCell (p:=⟨w1.heap.size,3,none⟩) HB1.out.size _⟩
     case measure=>simp [intOf]
    ·obtain ⟨W4,hW4⟩:∃ W4,W4=wr.alloc (.cells #[.int .i64 14,.int .i64 16] 188):=⟨_,rfl⟩
     have HB4:=zh (show Below wr.heap.size wr W4 by rw [hW4];exact (Below.refl _ _).alloc (Nat.le_refl _) _);have HW4:=zh hW4;clear hW4;rw [show ((4:Nat):Int)=4 from rfl];have ix:∀ wx,(Instr.index 189 (.agg #[.int .i64 0,.int .i64 4,.int .i64 5,.int .i64 7,.int .i64 8,.int .i64 10,.int .i64 11,.int .i64 13,.int .i64 14,.int .i64 16,.int .i64 17,.int .i64 19]) (.int .i64 4)).run Tryz.prog wx = .ok (.agg #[.int .i64 14,.int .i64 16]) wx:=fun wx=>by kernel_rfl
     go_wp2_with fail;refine (P4.out _).mono ?_;rintro e w3 ⟨rfl,hb3⟩;rw [←HW4.out] at hb3;have HB3:=zh (hb3.mono HB4.out.size);clear hb3;have HR3:=zh (bL (bL HROW.out HB4.out HLT.out) HB3.out HLT.out);have c3:=cell_of_row w3 w1.heap.size 4 _ _ _ HR3.out;rw [HPD.out 4] at c3;replace c3:w3.cell? ⟨w1.heap.size,4,none⟩=some (.int .i64 0):=c3;have f3:=frozen_of_row w3 w1.heap.size 4 _ _ HR3.out;go_wp2_with fail;go_roundw
     case rel=>exact ⟨5,by go_num,by omega,by
      have h:=qfk w3 w1.heap.size 4 _ _ (.int .i64 (A4:Int)) HR3.out;rw [HPD.out 4] at h;rw [HPD.out 5];exact h,((HBEL.out.trans (HB4.out.mono HBEL.out.size)).trans (HB3.out.mono HBEL.out.size)).setCell (p:=⟨w1.heap.size,4,none⟩) HB1.out.size _⟩
     case measure=>simp [intOf]
    ·obtain ⟨W4,hW4⟩:∃ W4,W4=wr.alloc (.cells #[.int .i64 17,.int .i64 19] 188):=⟨_,rfl⟩
     have HB4:=zh (show Below wr.heap.size wr W4 by rw [hW4];exact (Below.refl _ _).alloc (Nat.le_refl _) _);have HW4:=zh hW4;clear hW4;rw [show ((5:Nat):Int)=5 from rfl];have ix:∀ wx,(Instr.index 189 (.agg #[.int .i64 0,.int .i64 4,.int .i64 5,.int .i64 7,.int .i64 8,.int .i64 10,.int .i64 11,.int .i64 13,.int .i64 14,.int .i64 16,.int .i64 17,.int .i64 19]) (.int .i64 5)).run Tryz.prog wx = .ok (.agg #[.int .i64 17,.int .i64 19]) wx:=fun wx=>by kernel_rfl
     go_wp2_with fail;refine (P5.out _).mono ?_;rintro e w3 ⟨rfl,hb3⟩;rw [←HW4.out] at hb3;have HB3:=zh (hb3.mono HB4.out.size);clear hb3;have HR3:=zh (bL (bL HROW.out HB4.out HLT.out) HB3.out HLT.out);have c3:=cell_of_row w3 w1.heap.size 5 _ _ _ HR3.out;rw [HPD.out 5] at c3;replace c3:w3.cell? ⟨w1.heap.size,5,none⟩=some (.int .i64 0):=c3;have f3:=frozen_of_row w3 w1.heap.size 5 _ _ HR3.out;go_wp2_with fail;go_roundw
     case rel=>exact ⟨6,by go_num,by omega,by
      have h:=qfk w3 w1.heap.size 5 _ _ (.int .i64 (A5:Int)) HR3.out;rw [HPD.out 5] at h;rw [HPD.out 6];exact h,((HBEL.out.trans (HB4.out.mono HBEL.out.size)).trans (HB3.out.mono HBEL.out.size)).setCell (p:=⟨w1.heap.size,5,none⟩) HB1.out.size _⟩
     case measure=>simp [intOf]
   ·obtain rfl:k=6:=by omega
    have t1:decide (((6:Nat):Int)<6)=false:=by decide
    have hrow:=HROW.out;rw [HPD.out 6] at hrow;replace hrow:wr.heap[w1.heap.size]? = some (.cells #[.int .i64 (A0:Int),.int .i64 (A1:Int),.int .i64 (A2:Int),.int .i64 (A3:Int),.int .i64 (A4:Int),.int .i64 (A5:Int)] 186 (0,0)):=hrow;have c0:wr.cell? ⟨w1.heap.size,0,none⟩=some (.int .i64 (A0:Int)):=cell_of_row _ _ 0 _ _ _ hrow;have c1:wr.cell? ⟨w1.heap.size,1,none⟩=some (.int .i64 (A1:Int)):=cell_of_row _ _ 1 _ _ _ hrow;have c2:wr.cell? ⟨w1.heap.size,2,none⟩=some (.int .i64 (A2:Int)):=cell_of_row _ _ 2 _ _ _ hrow;have c3:wr.cell? ⟨w1.heap.size,3,none⟩=some (.int .i64 (A3:Int)):=cell_of_row _ _ 3 _ _ _ hrow;have c4:wr.cell? ⟨w1.heap.size,4,none⟩=some (.int .i64 (A4:Int)):=cell_of_row _ _ 4 _ _ _ hrow;have c5:wr.cell? ⟨w1.heap.size,5,none⟩=some (.int .i64 (A5:Int)):=cell_of_row _ _ 5 _ _ _ hrow;have HT:=zh (T.below HBEL.out);have HD:=zh (qpa (A0:Int) (A1:Int) (A2:Int) wr HT.out);clear hlt hk hrow;by_cases hd:db (A0:Int) (A1:Int) (A2:Int)
    case neg=>
     rw [qae hd,zF hd] at HD;have hno:¬cA s.data.toList:=fun h=>hd (HOK.out.1 h).1;have HF:=zh (qcl hno);have HF2:=zh (zF hno);clear hno hd;go_wp2_with fail;refine HD.out.mono ?_;rintro e w3 ⟨rfl,rfl⟩;go_wp2_with (go_quiet (fail))
     go_ret2
     exact ⟨by rw [HF.out,HF2.out];rfl,below_drewN HBEL.out _⟩
    case pos=>
     have hdb:=qq6 hd;rw [qhS hd,zT hd] at HD;have HDD:=zh hd;obtain ⟨D,hD⟩:∃ D,qem (A0:Int) (A1:Int) (A2:Int)=D:=⟨_,rfl⟩
     rw [hD] at HD HV hdb;clear hd hD;by_cases h23:(23:Int)<(A3:Int)
     case pos=>
      have t2:decide ((23:Int)<(A3:Int))=true:=zT h23;have hno:¬cA s.data.toList:=fun h=>by have:=(HOK.out.1 h).2.1;omega
      have HF:=zh (qcl hno);have HF2:=zh (zF hno);clear hno h23;go_wp2_with fail;refine HD.out.mono ?_;rintro e w3 ⟨rfl,rfl⟩;go_wp2_with (go_quiet (fail))
      go_ret2
      exact ⟨by rw [HF.out,HF2.out];rfl,below_drewN HBEL.out _⟩
     have t2:decide ((23:Int)<(A3:Int))=false:=zF h23;by_cases h59:(59:Int)<(A4:Int)
     case pos=>
      have t3:decide ((59:Int)<(A4:Int))=true:=zT h59;have hno:¬cA s.data.toList:=fun h=>by have:=(HOK.out.1 h).2.2.1;omega
      have HF:=zh (qcl hno);have HF2:=zh (zF hno);clear hno h23 h59;go_wp2_with fail;refine HD.out.mono ?_;rintro e w3 ⟨rfl,rfl⟩;go_wp2_with (go_quiet (fail))
      go_ret2
      exact ⟨by rw [HF.out,HF2.out];rfl,below_drewN HBEL.out _⟩
     have t3:decide ((59:Int)<(A4:Int))=false:=zF h59;by_cases h60:(59:Int)<(A5:Int)
     case pos=>
      have t4:decide ((59:Int)<(A5:Int))=true:=zT h60;have hno:¬cA s.data.toList:=fun h=>by have:=(HOK.out.1 h).2.2.2;omega
      have HF:=zh (qcl hno);have HF2:=zh (zF hno);clear hno h23 h59 h60;go_wp2_with fail;refine HD.out.mono ?_;rintro e w3 ⟨rfl,rfl⟩;go_wp2_with (go_quiet (fail))
      go_ret2
      exact ⟨by rw [HF.out,HF2.out];rfl,below_drewN HBEL.out _⟩
     have t4:decide ((59:Int)<(A5:Int))=false:=zF h60;have hyes:cA s.data.toList:=HOK.out.2 ⟨HDD.out,by omega,by omega,by omega⟩;have HF:=zh (qoN hyes);have HF2:=zh (zT hyes);clear hyes h23 h59 h60;go_wp2_with fail;refine HD.out.mono ?_;rintro e w3 ⟨rfl,rfl⟩;go_wp2_with (go_quiet (fail))
     go_ret2
     exact ⟨by rw [HF.out,HF2.out,HV.out];rfl,below_drewN HBEL.out _⟩
theorem qoQ (s:ByteArray) (w:World) (T:Tab w) (hs:s.size≤9223372036854775807):Calls Tryz.prog 81 #[.string s] w (qbk (.bool (decide (cA s.data.toList))) w):=by
 have CS:=zh (qhf s w T hs);generalize decide (cA s.data.toList)=B at *;generalize qot s.data.toList=X at *;go_enter Tryz.func81,Tryz.ntmps81;go_wp2_with fail;refine CS.out.mono ?_;rintro e w1 ⟨rfl,hb1⟩;have HB1:=zh hb1;clear hb1;go_wp2_with fail;go_ret;exact ⟨rfl,HB1.out⟩
