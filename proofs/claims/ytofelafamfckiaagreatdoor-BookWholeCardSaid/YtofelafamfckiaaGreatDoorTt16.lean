/- Merged: ChC ChW0. -/
import Derived.Test.YtofelafamfckiaaGreatDoorTt12
import Derived.Deep.AppendLies
set_option maxRecDepth 100000
set_option maxHeartbeats 4000000
namespace Go.Proofs.YtofelafamfckiaaGreatDoor
namespace Ch
open Go.RowKit Utf
def qlg:ByteArray:=⟨#[48,49,50,51,52,53,54,55,56,57,97,98,99,100,101,102]⟩
theorem qds (w:World):∀ k:Nat,k<16→(Instr.index 9 (.string qlg) (.int .u8 (k:Nat))).run Tryz.prog w = .ok (.int .u8 (qbC k)) w:=by
 intro k hk;have:k=0∨k=1∨k=2∨k=3∨k=4∨k=5∨k=6∨k=7∨k=8∨k=9∨k=10∨k=11∨k=12∨k=13∨k=14∨k=15:=by omega
 rcases this with rfl | rfl | rfl | rfl | rfl | rfl | rfl | rfl | rfl | rfl | rfl | rfl | rfl | rfl | rfl | rfl <;> rfl
theorem qkL (v:Value) (xs:List Value) (c:Int) (B:Nat) (w:World) (hown:w.ownsRow B 5 1 v xs.length xs) (hB:B≤w.heap.size) (hr:xs.length+6≤140737488355328) (h0:0≤c) (h1:c<32)
  (n8:c≠8) (n9:c≠9) (n10:c≠10) (n12:c≠12) (n13:c≠13) :
  Calls Tryz.prog 105 #[v,.int .u8 c] w (bJ 5 B (xs++Lib.byteCells (toB (qbZ c))) w):=by
 obtain ⟨i0,hi,hz0,hz1,hz2⟩:=info_parts bX;have e1:bits .and .u8 c 15=c % 16:=u8_and15 _ h0 (by omega);have hq:qbZ c=[92,117,48,48,qbC (c / 16),qbC (c % 16)]:=by
  unfold qbZ qfc;rw [if_pos (by simp [bh];omega),if_neg (by omega),if_neg n8,if_neg n9,if_neg n10,if_neg n12,if_neg n13]
 rw [qa6 _ (qe7 c h0 (by omega)),hq];clear hq;have d1:∀ w,(Instr.index 9 (.string ⟨#[48,49,50,51,52,53,54,55,56,57,97,98,99,100,101,102]⟩) (.int .u8 (c / 16))).run Tryz.prog w = .ok (.int .u8 (qbC (c / 16))) w:=fun w=>by
  have:=qds w (c / 16).toNat (by omega);rw [show (((c / 16).toNat:Nat):Int)=c / 16 by omega] at this;exact this
 have d2:∀ w,(Instr.index 9 (.string ⟨#[48,49,50,51,52,53,54,55,56,57,97,98,99,100,101,102]⟩) (.int .u8 (c % 16))).run Tryz.prog w = .ok (.int .u8 (qbC (c % 16))) w:=fun w=>by
  have:=qds w (c % 16).toNat (by omega);rw [show (((c % 16).toNat:Nat):Int)=c % 16 by omega] at this;exact this
 have t1:(c==34)=false:=by rw [beq_eq_false_iff_ne];omega
 have t2:(c==92)=false:=by rw [beq_eq_false_iff_ne];omega
 have t3:(c==8)=false:=by rw [beq_eq_false_iff_ne];exact n8
 have t4:(c==9)=false:=by rw [beq_eq_false_iff_ne];exact n9
 have t5:(c==10)=false:=by rw [beq_eq_false_iff_ne];exact n10
 have t6:(c==12)=false:=by rw [beq_eq_false_iff_ne];exact n12
 have t7:(c==13)=false:=by rw [beq_eq_false_iff_ne];exact n13
 go_enter Tryz.func105,Tryz.ntmps105;go_wp2_with fail;go_region_held3 (fun _=>True) (trivial)
  ((refine step_append_lies _ (by rfl) _ _ _ (by rfl) B 5 i0 _ 1 1 Tryz.underlying82 hi hz0 hz1 hz2 (by rfl) (by omega) v xs.length xs (by rfl) ((hown.alloc _).drew) ⟨w.heap.size,0,none⟩ 6 6 [.int .u8 92,.int .u8 117,.int .u8 48,.int .u8 48,.int .u8 (qbC (c / 16)),.int .u8 (qbC (c % 16))] (by rfl) (by rfl) (World.news_of_block (cs:= #[.int .u8 92,.int .u8 117,.int .u8 48,.int .u8 48,.int .u8 (qbC (c / 16)),.int .u8 (qbC (c % 16))]) (t:=5) (fr:=(0,0)) (heap_alloc_new w _)) (by simp [Value.oneCell']) (by omega) (by unfold maxLen;omega) (by omega) (by simp;omega) (w.heap.size+1) (by simp) ?_;intro g cap w1 hown1 hg1 hat hlt))
 all_goals
  go_wp2;go_ret;exact ⟨_,rfl,by rw [List.length_append];exact hown1,(Below.drew ((Below.refl B w).alloc hB _)).grown hg1 (by simp;omega) (fun k hk=>(hown.lt k hk).1)⟩
theorem qmA (v:Value) (xs:List Value) (B:Nat) (w:World) (hown:w.ownsRow B 5 1 v xs.length xs) (hB:B≤w.heap.size) (hr:xs.length+6≤140737488355328) :
  Calls Tryz.prog 105 #[v,.int .u8 8] w (bJ 5 B (xs++Lib.byteCells (toB (qbZ 8))) w):=by
 obtain ⟨i0,hi,hz0,hz1,hz2⟩:=info_parts bX;go_enter Tryz.func105,Tryz.ntmps105;go_wp2_with (at_builtin;refine Lib.wpList_append_own_string _ rfl _ _ 82 9 rfl B 5 i0 Tryz.underlying82 Tryz.underlying9 hi hz0 hz1 hz2 v xs.length xs rfl hown ⟨#[92,98]⟩ rfl ?_ ?_ ?_ ?_;(show _+2≤_;unfold maxLen;omega);(show _+2≤_;omega);omega;intro v2 w2 hown2 hg2 _)
 go_ret;exact ⟨v2,rfl,by rw [List.length_append];exact hown2,(Below.refl B w).grown hg2 hB (fun k hk=>(hown.lt k hk).1)⟩
theorem qmo (v:Value) (xs:List Value) (B:Nat) (w:World) (hown:w.ownsRow B 5 1 v xs.length xs) (hB:B≤w.heap.size) (hr:xs.length+6≤140737488355328) :
  Calls Tryz.prog 105 #[v,.int .u8 9] w (bJ 5 B (xs++Lib.byteCells (toB (qbZ 9))) w):=by
 obtain ⟨i0,hi,hz0,hz1,hz2⟩:=info_parts bX;go_enter Tryz.func105,Tryz.ntmps105;go_wp2_with (at_builtin;refine Lib.wpList_append_own_string _ rfl _ _ 82 9 rfl B 5 i0 Tryz.underlying82 Tryz.underlying9 hi hz0 hz1 hz2 v xs.length xs rfl hown ⟨#[92,116]⟩ rfl ?_ ?_ ?_ ?_;(show _+2≤_;unfold maxLen;omega);(show _+2≤_;omega);omega;intro v2 w2 hown2 hg2 _)
 go_ret;exact ⟨v2,rfl,by rw [List.length_append];exact hown2,(Below.refl B w).grown hg2 hB (fun k hk=>(hown.lt k hk).1)⟩
theorem qlX (v:Value) (xs:List Value) (B:Nat) (w:World) (hown:w.ownsRow B 5 1 v xs.length xs) (hB:B≤w.heap.size) (hr:xs.length+6≤140737488355328) :
  Calls Tryz.prog 105 #[v,.int .u8 10] w (bJ 5 B (xs++Lib.byteCells (toB (qbZ 10))) w):=by
 obtain ⟨i0,hi,hz0,hz1,hz2⟩:=info_parts bX;go_enter Tryz.func105,Tryz.ntmps105;go_wp2_with (at_builtin;refine Lib.wpList_append_own_string _ rfl _ _ 82 9 rfl B 5 i0 Tryz.underlying82 Tryz.underlying9 hi hz0 hz1 hz2 v xs.length xs rfl hown ⟨#[92,110]⟩ rfl ?_ ?_ ?_ ?_;(show _+2≤_;unfold maxLen;omega);(show _+2≤_;omega);omega;intro v2 w2 hown2 hg2 _)
 go_ret;exact ⟨v2,rfl,by rw [List.length_append];exact hown2,(Below.refl B w).grown hg2 hB (fun k hk=>(hown.lt k hk).1)⟩
theorem ql9 (v:Value) (xs:List Value) (B:Nat) (w:World) (hown:w.ownsRow B 5 1 v xs.length xs) (hB:B≤w.heap.size) (hr:xs.length+6≤140737488355328) :
  Calls Tryz.prog 105 #[v,.int .u8 12] w (bJ 5 B (xs++Lib.byteCells (toB (qbZ 12))) w):=by
 obtain ⟨i0,hi,hz0,hz1,hz2⟩:=info_parts bX;go_enter Tryz.func105,Tryz.ntmps105;go_wp2_with (at_builtin;refine Lib.wpList_append_own_string _ rfl _ _ 82 9 rfl B 5 i0 Tryz.underlying82 Tryz.underlying9 hi hz0 hz1 hz2 v xs.length xs rfl hown ⟨#[92,102]⟩ rfl ?_ ?_ ?_ ?_;(show _+2≤_;unfold maxLen;omega);(show _+2≤_;omega);omega;intro v2 w2 hown2 hg2 _)
 go_ret;exact ⟨v2,rfl,by rw [List.length_append];exact hown2,(Below.refl B w).grown hg2 hB (fun k hk=>(hown.lt k hk).1)⟩
theorem qlH (v:Value) (xs:List Value) (B:Nat) (w:World) (hown:w.ownsRow B 5 1 v xs.length xs) (hB:B≤w.heap.size) (hr:xs.length+6≤140737488355328) :
  Calls Tryz.prog 105 #[v,.int .u8 13] w (bJ 5 B (xs++Lib.byteCells (toB (qbZ 13))) w):=by
 obtain ⟨i0,hi,hz0,hz1,hz2⟩:=info_parts bX;go_enter Tryz.func105,Tryz.ntmps105;go_wp2_with (at_builtin;refine Lib.wpList_append_own_string _ rfl _ _ 82 9 rfl B 5 i0 Tryz.underlying82 Tryz.underlying9 hi hz0 hz1 hz2 v xs.length xs rfl hown ⟨#[92,114]⟩ rfl ?_ ?_ ?_ ?_;(show _+2≤_;unfold maxLen;omega);(show _+2≤_;omega);omega;intro v2 w2 hown2 hg2 _)
 go_ret;exact ⟨v2,rfl,by rw [List.length_append];exact hown2,(Below.refl B w).grown hg2 hB (fun k hk=>(hown.lt k hk).1)⟩
theorem qlF (v:Value) (xs:List Value) (B:Nat) (w:World) (hown:w.ownsRow B 5 1 v xs.length xs) (hB:B≤w.heap.size) (hr:xs.length+6≤140737488355328) :
  Calls Tryz.prog 105 #[v,.int .u8 34] w (bJ 5 B (xs++Lib.byteCells (toB (qbZ 34))) w):=by
 obtain ⟨i0,hi,hz0,hz1,hz2⟩:=info_parts bX;go_enter Tryz.func105,Tryz.ntmps105;go_wp2_with (at_builtin;refine wpList_append_own _ rfl _ _ 82 rfl B 5 i0 (.int .u8 0) 1 1 Tryz.underlying82 hi hz0 hz1 hz2 rfl (by decide) v xs.length xs rfl (hown.alloc _) ⟨w.heap.size,0,none⟩ 2 2 [.int .u8 92,.int .u8 34] rfl rfl (ba _ _ _) ?_ ?_ ?_ ?_ ?_;(intro u hu;simp at hu;rcases hu with rfl | rfl <;> rfl);(unfold maxLen;omega);omega;(simp;omega);intro v1 w1 hown1 hg1 _)
 go_ret;exact ⟨v1,rfl,by rw [List.length_append];exact hown1,((Below.refl B w).alloc hB _).grown hg1 (by simp;omega) (fun k hk=>(hown.lt k hk).1)⟩
theorem ql3 (v:Value) (xs:List Value) (B:Nat) (w:World) (hown:w.ownsRow B 5 1 v xs.length xs) (hB:B≤w.heap.size) (hr:xs.length+6≤140737488355328) :
  Calls Tryz.prog 105 #[v,.int .u8 92] w (bJ 5 B (xs++Lib.byteCells (toB (qbZ 92))) w):=by
 obtain ⟨i0,hi,hz0,hz1,hz2⟩:=info_parts bX;go_enter Tryz.func105,Tryz.ntmps105;go_wp2_with (at_builtin;refine wpList_append_own _ rfl _ _ 82 rfl B 5 i0 (.int .u8 0) 1 1 Tryz.underlying82 hi hz0 hz1 hz2 rfl (by decide) v xs.length xs rfl (hown.alloc _) ⟨w.heap.size,0,none⟩ 2 2 [.int .u8 92,.int .u8 92] rfl rfl (ba _ _ _) ?_ ?_ ?_ ?_ ?_;(intro u hu;simp at hu;rcases hu with rfl | rfl <;> rfl);(unfold maxLen;omega);omega;(simp;omega);intro v1 w1 hown1 hg1 _)
 go_ret;exact ⟨v1,rfl,by rw [List.length_append];exact hown1,((Below.refl B w).alloc hB _).grown hg1 (by simp;omega) (fun k hk=>(hown.lt k hk).1)⟩
theorem qiC (v:Value) (xs:List Value) (c:Int) (B:Nat) (w:World) (hown:w.ownsRow B 5 1 v xs.length xs) (hB:B≤w.heap.size) (hr:xs.length+6≤140737488355328) (h0:0≤c) (h255:c≤255)
  (hs:bh c=false):Calls Tryz.prog 105 #[v,.int .u8 c] w (bJ 5 B (xs++Lib.byteCells (toB (qbZ c))) w):=by
 obtain ⟨i0,hi,hz0,hz1,hz2⟩:=info_parts bX;have hq:qbZ c=[c]:=by unfold qbZ;rw [if_neg (by rw [hs];simp)]
 rw [qa6 _ (qe7 c h0 h255),hq];have hs':¬(c<32∨c=34∨c=92):=by simpa [bh] using hs
 have t1:(c==34)=false:=by rw [beq_eq_false_iff_ne];omega
 have t2:(c==92)=false:=by rw [beq_eq_false_iff_ne];omega
 have t3:(c==8)=false:=by rw [beq_eq_false_iff_ne];omega
 have t4:(c==9)=false:=by rw [beq_eq_false_iff_ne];omega
 have t5:(c==10)=false:=by rw [beq_eq_false_iff_ne];omega
 have t6:(c==12)=false:=by rw [beq_eq_false_iff_ne];omega
 have t7:(c==13)=false:=by rw [beq_eq_false_iff_ne];omega
 have t8:decide (c<32)=false:=zF (by omega);clear hs hs' hq;go_enter Tryz.func105,Tryz.ntmps105;go_wp2_with (at_builtin;refine wpList_append_own _ rfl _ _ 82 rfl B 5 i0 (.int .u8 0) 1 1 Tryz.underlying82 hi hz0 hz1 hz2 rfl (by decide) v xs.length xs rfl (hown.alloc _) ⟨w.heap.size,0,none⟩ 1 1 [.int .u8 c] rfl rfl (ba _ _ _) ?_ ?_ ?_ ?_ ?_;(intro u hu;simp at hu;subst hu;rfl);(unfold maxLen;omega);omega;(simp;omega);intro v1 w1 hown1 hg1 _)
 go_ret;exact ⟨v1,rfl,by rw [List.length_append];exact hown1,((Below.refl B w).alloc hB _).grown hg1 (by simp;omega) (fun k hk=>(hown.lt k hk).1)⟩
theorem bw (v:Value) (xs:List Value) (c:Int) (B:Nat) (w:World) (hown:w.ownsRow B 5 1 v xs.length xs) (hB:B≤w.heap.size) (hr:xs.length+6≤140737488355328) (h0:0≤c) (h255:c≤255) :
  Calls Tryz.prog 105 #[v,.int .u8 c] w (bJ 5 B (xs++Lib.byteCells (toB (qbZ c))) w):=by
 by_cases hs:bh c=true
 ·have hs':c<32∨c=34∨c=92:=by simpa [bh] using hs
  by_cases c1:c=34
  ·subst c1;exact qlF v xs B w hown hB hr
  ·by_cases c2:c=92
   ·subst c2;exact ql3 v xs B w hown hB hr
   ·by_cases c3:c=8
    ·subst c3;exact qmA v xs B w hown hB hr
    ·by_cases c4:c=9
     ·subst c4;exact qmo v xs B w hown hB hr
     ·by_cases c5:c=10
      ·subst c5;exact qlX v xs B w hown hB hr
      ·by_cases c6:c=12
       ·subst c6;exact ql9 v xs B w hown hB hr
       ·by_cases c7:c=13
        ·subst c7;exact qlH v xs B w hown hB hr
        ·exact qkL v xs c B w hown hB hr h0 (by omega) c3 c4 c5 c6 c7
 ·exact qiC v xs c B w hown hB hr h0 h255 (by simpa using hs)
def qas (l:List UInt8):List UInt8×Bool:=if (bU l).2<l.length then ([],false) else (34::(qbL l++[34]),true)
theorem qdM {l:List UInt8} (h:(bU l).2<l.length):qas l=([],false):=by rw [qas,if_pos h]
theorem qcK {l:List UInt8} (h:¬(bU l).2<l.length):qas l=(34::(qbL l++[34]),true):=by rw [qas,if_neg h]
def qcQ (r:List UInt8×Bool) (w:World) (e:Ending) (w':World):Prop:=
 e = .returned (.tuple #[.string (ae r.1),.bool r.2])∧Below w.heap.size w w'
theorem qmF {a a':ByteArray} {b b':Bool} (h1:a=a') (h2:b=b'):Ending.returned (.tuple #[.string a,.bool b]) = .returned (.tuple #[.string a',.bool b']):=by rw [h1,h2]
theorem qjM (l:List UInt8) (k:Nat) (h:k<l.length):qbL (l.take (k+1))=qbL (l.take k)++toB (qbZ (byt l k)):=by
 rw [cH l k h,qaa];have:(l[k].toNat:Int)=byt l k:=by unfold byt;rw [List.getD_eq_getElem?_getD,List.getElem?_eq_getElem h];rfl
 simp [qbL,qb,this]
theorem qeQ (l:List UInt8) (k:Nat):(qbL (l.take k)).length≤(qbL l).length:=by
 have:=congrArg List.length (qaa (l.take k) (l.drop k));rw [List.take_append_drop,List.length_append] at this;omega
theorem qhR (s:ByteArray) (w:World) (hs:s.size+2≤281474976710656) (hr:(bU s.data.toList).2=s.size→(qbL s.data.toList).length+16≤140737488355328) :
  Calls Tryz.prog 93 #[.string s] w (qcQ (qas s.data.toList) w):=by
 obtain ⟨i0,hi,hz0,hz1,hz2⟩:=info_parts bX;have hs':s.size≤maxLen:=by unfold maxLen;omega
 have HS:=zh hs';clear hs';have hle:=qgJ s.data.toList;rw [af] at hle;have cB:=qgI s w HS.out;by_cases hb:(bU s.data.toList).2<s.size
 ·have hq:=qdM (l:=s.data.toList) (by rw [af];exact hb);rw [hq];clear hq hr;generalize (bU s.data.toList).2=m at *;have hd:decide (m<s.size)=true:=zT hb;go_enter Tryz.func93,Tryz.ntmps93;go_wp2_with (go_at_call 91;refine cB.mono ?_;rintro r w' ⟨rfl,rfl⟩)
  go_ret2
  exact ⟨qmF rfl rfl,Below.refl _ _⟩
 ·have hq:=qcK (l:=s.data.toList) (by rw [af];exact hb);rw [hq];clear hq;have hrr:=hr (by omega);clear hr;generalize (bU s.data.toList).2=m at *;have hd:decide (m<s.size)=false:=zF hb;have hall:qbL (s.data.toList.take s.size)=qbL s.data.toList:=by rw [List.take_of_length_le (by rw [af];omega)]
  have HALL:=zh hall;clear hall;have e34:Lib.byteCells [34]=[.int .u8 34]:=rfl;have E34:=zh e34;clear e34;go_enter Tryz.func93,Tryz.ntmps93;go_wp2_with (first
   | (go_at_call 91;refine cB.mono ?_;rintro r w' ⟨rfl,rfl⟩)
   | (at_make;refine wpList_make_own _ rfl _ _ 82 rfl w.heap.size 5 i0 (.int .u8 0) 1 Tryz.underlying82 hi hz0 hz1 .i64 .i64 _ (s.size+2) rfl rfl (by omega) (by rw [hz2];omega) (by unfold maxLen;omega) (Nat.le_refl _) ?_;intro w0 hown0 hg0)
   | (at_builtin;refine wpList_append_own _ rfl (.tmp 15) (.tmp 16) 82 rfl w.heap.size 5 i0 (.int .u8 0) 1 1 Tryz.underlying82 hi hz0 hz1 hz2 rfl (by decide) _ 0 [] rfl (hown0.alloc _) ⟨w0.heap.size,0,none⟩ 1 1 [.int .u8 34] rfl rfl (ba _ _ _) ?_ ?_ ?_ ?_ ?_;(intro u hu;simp at hu;subst hu;rfl);(unfold maxLen;omega);omega;(have:=hg0.size;simp;omega);intro v1 w1 hown1 hg1 _))
  have hb1:Below w.heap.size w w1:=(((Below.refl _ w).grown hg0 (Nat.le_refl _) (fun k hk=>by cases hk)).alloc hg0.size _).grown hg1 (by have:=hg0.size;simp;omega) (fun k hk=>Nat.le_of_eq (Option.some.inj (show some w.heap.size=some k from hk)));have hown1':w1.ownsRow w.heap.size 5 1 v1 (Lib.byteCells (34::qbL (s.data.toList.take 0))).length (Lib.byteCells (34::qbL (s.data.toList.take 0))):=by
   simpa [qbL,Lib.byteCells] using hown1
  clear hown0 hg0 hown1 hg1;go_loopw [4,5,20] (fun v _ i wr=>∃ k:Nat,k≤s.size∧i = .int .i64 k∧wr.ownsRow w.heap.size 5 1 v (Lib.byteCells (34::qbL (s.data.toList.take k))).length (Lib.byteCells (34::qbL (s.data.toList.take k)))∧Below w.heap.size w wr) (fun _ _ i _=>s.size-(intOf i).toNat)
  case atStart=>exact ⟨0,by omega,rfl,hown1',hb1⟩
  case round=>
   clear hown1' hb1;obtain ⟨k,hk,rfl,hown,hbel⟩:=hrel;have hB:=hbel.size;have hln:(Lib.byteCells (34::qbL (s.data.toList.take k))).length+8≤140737488355328:=by
    rw [Lib.byteCells_length,List.length_cons];have:=qeQ s.data.toList k;omega
   by_cases hlt:k<s.size
   ·have hg:=aY s k hlt;have g0:=qaj s.data.toList k;have g1:=qcF s.data.toList k;rw [hg] at g0 g1;have ht:=qjM s.data.toList k (by rw [af];exact hlt);rw [hg] at ht;have HT:=zh ht;clear ht hg;go_wp2_with fail;refine (bw _ _ _ w.heap.size _ hown hB (by omega) g0 g1).mono ?_;rintro r w2 ⟨v2,rfl,hown2,hb2⟩;go_wp2_with fail;go_roundw
    case rel=>exact ⟨k+1,by omega,by go_num,by rw [HT.out,←List.cons_append,Lib.byteCells_append];exact hown2,hbel.trans hb2⟩
    case measure=>simp [intOf];omega
   ·have hd2:decide (k<s.size)=false:=zF hlt;obtain rfl:k=s.size:=by omega
    go_wp2_with (at_builtin;refine wpList_append_own _ rfl (.tmp 29) (.tmp 30) 82 rfl w.heap.size 5 i0 (.int .u8 0) 1 1 Tryz.underlying82 hi hz0 hz1 hz2 rfl (by decide) _ _ _ rfl (hown.alloc _) ⟨wr.heap.size,0,none⟩ 1 1 [.int .u8 34] rfl rfl (ba _ _ _) ?_ ?_ ?_ ?_ ?_;(intro u hu;simp at hu;subst hu;rfl);(unfold maxLen;omega);omega;(simp;omega);intro v3 w3 hown3 hg3 _;have hr3:Rd w3 w3.heap.size v3 (Lib.byteCells (34::(qbL s.data.toList++[34]))):=Rd.of_own (by rw [←E34.out,←Lib.byteCells_append,HALL.out] at hown3;exact hown3);have hcv:=hr3.conv (P:=Tryz.prog) Tryz.underlying82 Tryz.underlying5 Tryz.underlying9)
    go_ret2
    exact ⟨qmF rfl rfl,(hbel.alloc hB _).grown hg3 (by simp;omega) (fun g hg=>(hown.lt g hg).1)⟩
theorem qji (s:ByteArray) (a:Int) (w:World) (hs:s.size+16≤140737488355328) :
  Calls Tryz.prog 95 #[.string s,.int .i64 a] w (qb2 (bj s.data.toList a) w):=
 qcv s a w (by unfold maxLen;omega) fun q _ _ _=>by
  have:=(qaF (s.data.toList.drop (q+1))).1;rw [List.length_drop,af] at this;omega
theorem qg8 (s:ByteArray) (w:World) (hs:6*s.size+16≤140737488355328) :
  Calls Tryz.prog 93 #[.string s] w (qcQ (qas s.data.toList) w):=
 qhR s w (by omega) fun _=>by
  have:=qf0 s.data.toList;rw [af] at this;omega
