/- Merged: IdA IdB. -/
import Derived.Test.YtnecfkhbncepnaaGreatDoorTt7
import Derived.Deep.DeepCutAuto
import Derived.Deep.RegionWith
import Derived.Laws.Concat
import Derived.Lib.ConvBytes
set_option maxRecDepth 100000
set_option maxHeartbeats 1000000
namespace Go.Proofs.YtnecfkhbncepnaaGreatDoor
namespace Id
open Go.RowKit Utf Nu
theorem qca (b:Int) (w:World):Calls Tryz.prog 139 #[.int .u8 b] w fun e w'=>e = .returned (.bool (qdR b))∧w=w':=by
 by_cases h:(65≤b∧b≤90)∨(97≤b∧b≤122)∨(48≤b∧b≤57)
 ·rw [show qdR b=true from zT (.inl h)];rcases h with ⟨h1,h2⟩ | ⟨h1,h2⟩ | ⟨h1,h2⟩
  ·have t1:decide (65≤b)=true:=zT h1;have t2:decide (b≤90)=true:=zT h2;go_enter Tryz.func139,Tryz.ntmps139;go_wp2;go_ret;exact ⟨rfl,rfl⟩
  ·have t0:decide (b≤90)=false:=zF (by omega);have t3:decide (65≤b)=true:=zT (by omega);have t1:decide (97≤b)=true:=zT h1;have t2:decide (b≤122)=true:=zT h2;go_enter Tryz.func139,Tryz.ntmps139;go_wp2;go_ret;exact ⟨rfl,rfl⟩
  ·have t0:decide (65≤b)=false:=zF (by omega);have t3:decide (97≤b)=false:=zF (by omega);have t1:decide (48≤b)=true:=zT h1;have t2:decide (b≤57)=true:=zT h2;go_enter Tryz.func139,Tryz.ntmps139;go_wp2;go_ret;exact ⟨rfl,rfl⟩
 ·have hm:qdR b=(decide (b=45) || decide (b=95)):=by
   rw [Bool.eq_iff_iff];simp only [qdR,Bool.or_eq_true,decide_eq_true_eq];exact ⟨fun h2=>h2.elim (fun h3=>absurd h3 h) id,.inr⟩
  rw [hm];go_enter Tryz.func139,Tryz.ntmps139;go_wp2
  all_goals
   go_ret
   first | exact ⟨aW rfl,rfl⟩ | exact ⟨aW (by rw [Bool.eq_iff_iff];simp only [beq_iff_eq,Bool.or_eq_true,decide_eq_true_eq] at *;omega),rfl⟩
theorem qco (w:World) (e:TypeId) (s:ByteArray):Below w.heap.size w (Lib.bytesWorld w e s):=
 ⟨rfl,rfl,rfl,by rw [Lib.bytesWorld_size];omega,fun j hj=>Lib.bytesWorld_at_old w e s j hj⟩
theorem qdX (w:World) (s:ByteArray):(convert 9 94 (.string s)).run Tryz.prog w = .ok (.slice (some ⟨w.heap.size,0,none⟩) s.size (grownCap w s.size 0 5)) (Lib.bytesWorld w 5 s):=
 Lib.run_convert_string_bytes w _ _ _ s Tryz.underlying9 Tryz.underlying94 Tryz.underlying5
theorem qsc (s:ByteArray) (w:World) (hs:s.size≤9223372036854775807) :
  Calls Tryz.prog 80 #[.string s] w (qbk (.bool (isL s.data.toList)) w):=by
 by_cases h0:s.size=0
 ·have t0:((s.size:Int)==0)=true:=beq_iff_eq.2 (by omega);have HF:=zh (qkR (l:=s.data.toList) (.inl h0));have H0:=zh h0;clear h0;go_enter Tryz.func80,Tryz.ntmps80;go_wp2;go_ret;exact ⟨by rw [HF.out];rfl,Below.refl _ _⟩
 ·have t0:((s.size:Int)==0)=false:=beq_eq_false_iff_ne.2 (by omega);by_cases h1:255<s.size
  ·have t1:decide (255<(s.size:Int))=true:=zT (by omega);have HF:=zh (qkR (l:=s.data.toList) (.inr h1));clear h0;go_enter Tryz.func80,Tryz.ntmps80;go_wp2;go_ret;exact ⟨by rw [HF.out];rfl,Below.refl _ _⟩
  ·have t1:decide (255<(s.size:Int))=false:=zF (by omega);have hcv:=qdX w s;obtain ⟨W1,hW1⟩:∃ W1,W1=Lib.bytesWorld w 5 s:=⟨_,rfl⟩
   have HBW:=zh (show Below w.heap.size w W1 by rw [hW1];exact qco _ _ _);have HC1:=zh (show ∀ j,j<s.size→W1.cell? ⟨w.heap.size,j,none⟩=some (.int .u8 (s.data.toList.getD j 0).toNat) from fun j hj=>by rw [hW1];exact Lib.bytesWorld_cell w _ s j hj);rw [←hW1] at hcv;obtain ⟨cp,hcp⟩:∃ cp,grownCap w s.size 0 5=cp:=⟨_,rfl⟩
   rw [hcp] at hcv;clear hW1 hcp;have S0:=zh h0;have hsz:s.size≤255:=by omega
   clear h0 h1;go_enter Tryz.func80,Tryz.ntmps80;go_wp2_with fail;go_loopw [16] (fun i wr=>∃ k:Nat,i = .int .i64 k∧k≤s.size∧Aside (∀ j,j<k→qdR (byt s.data.toList j)=true)∧wr=W1) (fun i _=>s.size-(intOf i).toNat)
   case atStart=>exact ⟨0,rfl,by omega,(fun j hj=>absurd hj (by omega)),rfl⟩
   case round=>
    obtain ⟨k,rfl,hk,hm,rfl⟩:=hrel;have HM:=zh hm.out;clear hm;by_cases hlt:k<s.size
    ·have t1:decide ((k:Int)<(s.size:Int))=true:=zT (by omega);have t2:decide (k<s.size)=true:=zT hlt;have k0:(0:Int)≤(k:Int):=by omega
     have k1:(k:Int)<(s.size:Int):=by omega
     have k2:((k:Int)).toNat=k:=by omega
     have hc:=HC1.out k hlt;obtain ⟨b,hb⟩:∃ b:Int,byt s.data.toList k=b:=⟨_,rfl⟩
     have hcb:wr.cell? ⟨w.heap.size,k,none⟩=some (.int .u8 b):=by rw [hc,←hb];rfl
     clear hc;by_cases hmb:qdR b=true
     ·have HN:=zh (show ∀ j,j<k+1→qdR (byt s.data.toList j)=true from fun j hj=>by
       by_cases h:j=k
       ·rw [h,hb];exact hmb
       ·exact HM.out j (by omega))
      clear hb;go_wp2_with fail;refine (qca _ _).mono ?_;rw [hmb];rintro e w' ⟨rfl,rfl⟩;go_wp2_with fail;go_roundw
      case rel=>exact ⟨k+1,by go_num,by omega,HN.out,by trivial⟩
      case measure=>simp [intOf];omega
     ·have hmf:qdR b=false:=by simpa using hmb
      have HF:=zh (qsN (l:=s.data.toList) (k:=k) (by rw [ac];exact hlt) (by rw [hb];exact hmf));clear hb hmb;go_wp2_with fail;refine (qca _ _).mono ?_;rw [hmf];rintro e w' ⟨rfl,rfl⟩;go_wp2_with fail;go_ret;exact ⟨by rw [HF.out];rfl,HBW.out⟩
    ·have t1:decide ((k:Int)<(s.size:Int))=false:=zF (by omega);have t2:decide (k<s.size)=false:=zF hlt;have HT:=zh (show isL s.data.toList=true by
      rw [qsn (fun j hj=>HM.out j (by rw [ac] at hj;omega)),ac];exact zT (by have:=S0.out;omega))
     go_wp2_with fail;go_ret;exact ⟨by rw [HT.out];rfl,HBW.out⟩
