/- Merged: CdS CdN. -/
import Derived.Test.YtofelafamfckiaaGreatDoorTt21
import Derived.Test.YtofelafamfckiaaGreatDoorTt27
import Derived.Shelf.SlSortCmp.NoneTotal
import Derived.Shelf.Slices.CompactS
import Derived.Shelf.Slices.In.SortNone
import Derived.Test.YtofelafamfckiaaGreatDoorTt41
set_option maxRecDepth 100000
namespace Go.Proofs.YtofelafamfckiaaGreatDoor
namespace Cd
open Go.Proofs Go.RowKit Go.Sort Go.Shelf Go.Lib Utf
def qiv:Ren where
 f:=fun k=>if k=125 then 43 else if k=128 then 62 else if k=129 then 63 else if k=190 then 27 else if k=194 then 28 else if k=258 then 42 else if k=302 then 53 else if k=303 then 54 else if k=304 then 55 else if k=305 then 56 else if k=306 then 57 else if k=307 then 58 else if k=308 then 59 else if k=309 then 60 else if k=310 then 61 else if k=329 then 86 else if k=330 then 87 else if k=333 then 85 else if k=334 then 88 else if k=335 then 89 else if k=336 then 90 else 103
 t:=fun k=>if k=0 then 0 else if k=3 then 3 else if k=4 then 4 else if k=5 then 5 else if k=9 then 9 else if k=31 then 29 else if k=46 then 77 else if k=51 then 102 else if k=53 then 104 else if k=131 then 99 else if k=182 then 93 else if k=183 then 94 else if k=218 then 117 else if k=222 then 121 else if k=228 then 140 else 141
 g:=fun k=>k
theorem qfl:Lays.n190 Tryz.prog qiv where
 mixed:=Sm.qcY
 f125:=Tryz.func43.trans (congrArg some (by kernel_rfl))
 f128:=Tryz.func62.trans (congrArg some (by kernel_rfl))
 f129:=Tryz.func63.trans (congrArg some (by kernel_rfl))
 f190:=Tryz.func27.trans (congrArg some (by kernel_rfl))
 f258:=Tryz.func42.trans (congrArg some (by kernel_rfl))
 f302:=Tryz.func53.trans (congrArg some (by kernel_rfl))
 f303:=Tryz.func54.trans (congrArg some (by kernel_rfl))
 f304:=Tryz.func55.trans (congrArg some (by kernel_rfl))
 f305:=Tryz.func56.trans (congrArg some (by kernel_rfl))
 f306:=Tryz.func57.trans (congrArg some (by kernel_rfl))
 f307:=Tryz.func58.trans (congrArg some (by kernel_rfl))
 f308:=Tryz.func59.trans (congrArg some (by kernel_rfl))
 f309:=Tryz.func60.trans (congrArg some (by kernel_rfl))
 f310:=Tryz.func61.trans (congrArg some (by kernel_rfl))
 f329:=Tryz.func86.trans (congrArg some (by kernel_rfl))
 f330:=Tryz.func87.trans (congrArg some (by kernel_rfl))
 f333:=Tryz.func85.trans (congrArg some (by kernel_rfl))
 f334:=Tryz.func88.trans (congrArg some (by kernel_rfl))
 f335:=Tryz.func89.trans (congrArg some (by kernel_rfl))
 f336:=Tryz.func90.trans (congrArg some (by kernel_rfl))
 f344:=Tryz.func103.trans (congrArg some (by kernel_rfl))
 t0:=by kernel_rfl
 a0:=fun _=>by kernel_rfl
 z0:=fun _=>by kernel_rfl
 v0:=fun _=>by kernel_rfl
 t3:=by kernel_rfl
 a3:=fun _=>by kernel_rfl
 z3:=fun _=>by kernel_rfl
 v3:=fun _=>by kernel_rfl
 t4:=by kernel_rfl
 a4:=fun _=>by kernel_rfl
 z4:=fun _=>by kernel_rfl
 v4:=fun _=>by kernel_rfl
 t5:=by kernel_rfl
 a5:=fun _=>by kernel_rfl
 z5:=fun _=>by kernel_rfl
 v5:=fun _=>by kernel_rfl
 t9:=by kernel_rfl
 a9:=fun _=>by kernel_rfl
 z9:=fun _=>by kernel_rfl
 v9:=fun _=>by kernel_rfl
 t31:=by kernel_rfl
 a31:=fun _=>by kernel_rfl
 z31:=fun _=>by kernel_rfl
 v31:=fun _=>by kernel_rfl
 t46:=by kernel_rfl
 a46:=fun _=>by kernel_rfl
 z46:=fun _=>by kernel_rfl
 v46:=fun _=>by kernel_rfl
 t51:=by kernel_rfl
 a51:=fun _=>by kernel_rfl
 z51:=fun _=>by kernel_rfl
 v51:=fun _=>by kernel_rfl
 t53:=by kernel_rfl
 a53:=fun _=>by kernel_rfl
 z53:=fun _=>by kernel_rfl
 v53:=fun _=>by kernel_rfl
 t131:=by kernel_rfl
 a131:=fun _=>by kernel_rfl
 z131:=fun _=>by kernel_rfl
 v131:=fun _=>by kernel_rfl
 t182:=by kernel_rfl
 a182:=fun _=>by kernel_rfl
 z182:=fun _=>by kernel_rfl
 v182:=fun _=>by kernel_rfl
 t183:=by kernel_rfl
 a183:=fun _=>by kernel_rfl
 z183:=fun _=>by kernel_rfl
 v183:=fun _=>by kernel_rfl
 t218:=by kernel_rfl
 a218:=fun _=>by kernel_rfl
 z218:=fun _=>by kernel_rfl
 v218:=fun _=>by kernel_rfl
 t222:=by kernel_rfl
 a222:=fun _=>by kernel_rfl
 z222:=fun _=>by kernel_rfl
 v222:=fun _=>by kernel_rfl
 t228:=by kernel_rfl
 a228:=fun _=>by kernel_rfl
 z228:=fun _=>by kernel_rfl
 v228:=fun _=>by kernel_rfl
 t229:=by kernel_rfl
 a229:=fun _=>by kernel_rfl
 z229:=fun _=>by kernel_rfl
 v229:=fun _=>by kernel_rfl
theorem qfj:Lays.n194 Tryz.prog qiv where
 mixed:=Sm.qcY
 f194:=Tryz.func28.trans (congrArg some (by kernel_rfl))
 t0:=by kernel_rfl
 a0:=fun _=>by kernel_rfl
 z0:=fun _=>by kernel_rfl
 v0:=fun _=>by kernel_rfl
 t3:=by kernel_rfl
 a3:=fun _=>by kernel_rfl
 z3:=fun _=>by kernel_rfl
 v3:=fun _=>by kernel_rfl
 t4:=by kernel_rfl
 a4:=fun _=>by kernel_rfl
 z4:=fun _=>by kernel_rfl
 v4:=fun _=>by kernel_rfl
 t9:=by kernel_rfl
 a9:=fun _=>by kernel_rfl
 z9:=fun _=>by kernel_rfl
 v9:=fun _=>by kernel_rfl
 t31:=by kernel_rfl
 a31:=fun _=>by kernel_rfl
 z31:=fun _=>by kernel_rfl
 v31:=fun _=>by kernel_rfl
theorem qeN (blk off cap:Nat) (zs:List (List UInt8)) (w:World) (hH:Holds encStr w blk off zs.toArray) (hblk:blk<w.heap.size) (hsz:zs.length<4611686018427387904) :
  Calls Tryz.prog 27 #[.slice (some ⟨blk,off,none⟩) zs.length cap] w fun e w'=>
   e = .returned (.tuple #[])∧∃ n os,w'=grow (putRow encStr (Sort.ahead w n) blk off (zs.mergeSort fun x y=>decide (x≤y)).toArray) os:=
 calls_of_every_depth fun D=>AnyS.slices_Sort_string_alone qfl D blk off cap zs w hH hblk hsz
theorem qae (p:Option Addr) (cap:Nat) (w:World):Calls Tryz.prog 27 #[.slice p 0 cap] w fun e w'=>e = .returned (.tuple #[])∧w'=w:=
 Any.slices_Sort_string_none qfl p cap w
theorem qe1 (blk off cap:Nat) (zs:List (List UInt8)) (w:World) (hH:Holds encStr w blk off zs.toArray) (hsz:zs.length≤9223372036854775807) (hcap:zs.length≤cap) :
  Calls Tryz.prog 28 #[.slice (some ⟨blk,off,none⟩) zs.length cap] w fun e w'=>e = .returned (.slice (some ⟨blk,off,none⟩) (Lib.compact zs).length cap)∧∃ q,w'=putRow encStr (Sort.ahead w q) blk off (Lib.compact zs++List.replicate (zs.length-(Lib.compact zs).length) []).toArray:=
 Any.slices_Compact_string qfj blk off cap zs w hH hsz hcap
theorem qah (a:Option Addr) (cap:Nat) (w:World):Calls Tryz.prog 28 #[.slice a 0 cap] w fun e w'=>e = .returned (.slice a 0 cap)∧w'=w:=
 Any.slices_Compact_string_empty qfj a cap w
end Cd
namespace Cd
open Go.Proofs Go.RowKit Go.Sort Go.Shelf Go.Lib Utf Tr
open Po (aI bi qac)
theorem qiZ:∀ a b:List UInt8,ltN a b=decide (a<b)
 | [],[]=>by simp [ltN,Lib.compareBytes]
 | [],_::_=>by simp [ltN,Lib.compareBytes]
 | _::_,[]=>by simp [ltN,Lib.compareBytes]
 | x::r,y::t=>by
  have ih:=qiZ r t;unfold ltN at ih ⊢;rw [Lib.compareBytes];have e:(x::r<y::t)↔x<y∨x=y∧r<t:=List.cons_lt_cons_iff;by_cases h1:x<y
  ·rw [if_pos h1,zT (e.2 (.inl h1))];rfl
  ·rw [if_neg h1];by_cases h2:y<x
   ·rw [if_pos h2];have h3:x≠y:=fun e=>by rw [e] at h2;exact absurd h2 (UInt8.lt_irrefl _)
    have:¬(x::r<y::t):=fun h=>by
     rcases e.1 h with h | ⟨h, -⟩
     ·exact h1 h
     ·exact h3 h
    rw [decide_eq_false this];rfl
   ·rw [if_neg h2,ih];have h3:x=y:=UInt8.le_antisymm (UInt8.not_lt.1 h2) (UInt8.not_lt.1 h1);rw [Bool.eq_iff_iff,decide_eq_true_iff,decide_eq_true_iff,e];simp [h3]
theorem qcH (d:Array (List UInt8)) (n:List UInt8):∀ m,m≤d.size→(n∈compactUpTo d m↔∃ j,j<m∧d[j]! = n)
 | 0,_=>by simp [compactUpTo]
 | m+1,hm=>by
  have ih:=qcH d n m (by omega);rw [compactUpTo_succ,List.mem_append,ih];by_cases hk:keeps d m=true
  ·rw [if_pos hk];simp only [List.mem_singleton];constructor
   ·rintro (⟨j,h1,h2⟩ | h)
    ·exact ⟨j,by omega,h2⟩
    ·exact ⟨m,by omega,h.symm⟩
   ·rintro ⟨j,h1,h2⟩;by_cases e:j=m
    ·subst e;exact .inr h2.symm
    ·exact .inl ⟨j,by omega,h2⟩
  ·rw [if_neg hk];simp only [List.not_mem_nil,or_false];constructor
   ·rintro ⟨j,h1,h2⟩;exact ⟨j,by omega,h2⟩
   ·rintro ⟨j,h1,h2⟩;by_cases e:j=m
    ·subst e;unfold keeps at hk;simp only [decide_eq_true_eq,not_or,ne_eq,Classical.not_not] at hk;exact ⟨j-1,by omega,by rw [←h2,hk.2]⟩
    ·exact ⟨j,by omega,h2⟩
theorem qdp (d:Array (List UInt8)) (hs:∀ i j,i<j→j<d.size→d[i]!≤d[j]!):∀ m,m≤d.size→(compactUpTo d m).Pairwise fun a b=>ltN a b=true
 | 0,_=>by simp [compactUpTo]
 | m+1,hm=>by
  have ih:=qdp d hs m (by omega);rw [compactUpTo_succ];by_cases hk:keeps d m=true
  ·rw [if_pos hk,List.pairwise_append];refine ⟨ih,List.pairwise_singleton _ _,fun a ha b hb=>?_⟩;rw [List.mem_singleton] at hb;subst hb;obtain ⟨j,hj,rfl⟩:=(qcH d a m (by omega)).1 ha;unfold keeps at hk;have hk:=of_decide_eq_true hk;have h0:m≠0:=by omega
   have hne:d[m]!≠d[m-1]!:=hk.resolve_left h0;rw [qiZ,decide_eq_true_iff];have h1:d[m-1]!≤d[m]!:=hs (m-1) m (by omega) (by omega);have h2:d[j]!≤d[m-1]!:=by
    by_cases e:j=m-1
    ·rw [e];exact List.le_refl _
    ·exact hs j (m-1) (by omega) (by omega)
   have h3:d[j]!≤d[m]!:=List.le_trans h2 h1;by_cases h:d[j]! < d[m]!
   ·exact h
   ·have e:d[j]! = d[m]!:=List.le_antisymm h3 (List.not_lt.1 h);rw [e] at h2;exact absurd (List.le_antisymm h2 h1) hne
  ·rw [if_neg hk,List.append_nil];exact ih
def cF (l:List (List UInt8)):List (List UInt8):=Lib.compact (l.mergeSort fun x y=>decide (x≤y))
theorem qaP (l:List (List UInt8)) (n:List UInt8):n∈cF l↔n∈l:=by
 have h:=qcH (l.mergeSort fun x y=>decide (x≤y)).toArray n _ (Nat.le_refl _);have hp:n∈(l.mergeSort fun x y=>decide (x≤y))↔n∈l:=(List.mergeSort_perm l _).mem_iff;unfold cF Lib.compact;rw [show (l.mergeSort fun x y=>decide (x≤y)).length=(l.mergeSort fun x y=>decide (x≤y)).toArray.size from rfl,h,←hp];constructor
 ·rintro ⟨j,hj,rfl⟩;rw [getElem!_pos _ j hj];simp
 ·intro hn;obtain ⟨j,hj,rfl⟩:=List.getElem_of_mem hn;exact ⟨j,hj,by rw [getElem!_pos _ j (by simpa using hj)];simp⟩
theorem qbe (l:List (List UInt8)):(cF l).Pairwise fun a b=>ltN a b=true:=by
 refine qdp _ (fun i j hij hj=>?_) _ (Nat.le_refl _);have hp:=List.pairwise_mergeSort (le:=fun x y:List UInt8=>decide (x≤y)) (fun a b c h1 h2=>by
  simp only [decide_eq_true_eq] at *;exact List.le_trans h1 h2) (fun a b=>by
  simp only [Bool.or_eq_true,decide_eq_true_eq];exact List.le_total a b) l
 rw [List.pairwise_iff_getElem] at hp;have hj':j<(l.mergeSort fun x y=>decide (x≤y)).length:=by simpa using hj
 have:=hp i j (by omega) hj' hij;rw [getElem!_pos _ i (by omega),getElem!_pos _ j hj]
 simpa using this
theorem qbM {w:World} {B E:Nat} {g cap:Nat} {L:List (List UInt8)} (h:w.ownsRow B E 1 (.slice (some ⟨g,0,none⟩) L.length cap) L.length (aI L)):Holds encStr w g 0 L.toArray:=by
 rcases h.2 with ⟨hv,_⟩ | ⟨g',cap',cur,hv,hb,hg,hc1,hc2,hc3,hx⟩
 ·cases hv
 ·injection hv with hv1 _ hv3
  injection hv1 with hv1
  injection hv1 with hv1
  subst hv1;intro j hj;have hj':j<L.length:=by simpa using hj
  have hjc:j<cur.size:=by omega
  have e:some cur[j]=(aI L)[j]?:=by
   rw [←hx,List.getElem?_take,if_pos (by omega)];simp [hjc]
  rw [qac L j hj'] at e;refine ⟨?_,?_⟩
  ·rw [cell_of_row w g (0+j) cur E (0,0) hg,Nat.zero_add,Array.getElem?_eq_getElem hjc,getElem!_pos _ j hj,e];simp [ae]
  ·simp [World.frozen?,hg]
theorem qgg {w w1:World} {B E:Nat} {g cap m:Nat} {L S:List (List UInt8)} (_hB:B≤w.heap.size) (h:w.ownsRow B E 1 (.slice (some ⟨g,0,none⟩) L.length cap) L.length (aI L)) (hl:S.length=L.length) (hm:m≤S.length)
  (h1:w1.os=w.os∧w1.tape=w.tape∧w1.output=w.output∧w.heap.size≤w1.heap.size∧∀ k,k<w.heap.size→w1.heap[k]? = (putRow encStr w g 0 S.toArray).heap[k]?) :
  w1.ownsRow B E 1 (.slice (some ⟨g,0,none⟩) m cap) m (aI (S.take m))∧Below B w w1:=by
 rcases h.2 with ⟨hv,_⟩ | ⟨g',cap',cur,hv,hb,hg,hc1,hc2,hc3,hx⟩
 ·cases hv
 ·injection hv with hv1 _ hv3
  injection hv1 with hv1
  injection hv1 with hv1
  subst hv1;subst hv3;have hlt:g<w.heap.size:=(Array.getElem?_eq_some_iff.1 hg).1;refine ⟨⟨by rw [bi,List.length_take];omega,.inr ⟨g,cap,putCells encStr 0 S.toArray cur,rfl,hb,?_,by omega,hc2,?_,?_⟩⟩,h1.1,h1.2.1,h1.2.2.1,h1.2.2.2.1,fun k hk=>?_⟩
  ·rw [h1.2.2.2.2 g hlt];show (w.heap.modify g _)[g]? = _;rw [Array.getElem?_modify,if_pos rfl,hg];rfl
  ·simpa [putCells] using hc3
  ·refine List.ext_getElem ?_ fun j j1 j2=>?_
   ·rw [List.length_take,bi,List.length_take];simp only [putCells,Array.toList_mapIdx,List.length_mapIdx,Array.length_toList];rw [hc3];omega
   ·rw [List.getElem_take];have hj:j<S.length:=by rw [bi,List.length_take] at j2;omega
    have e:=qac (S.take m) j (by rw [bi] at j2;exact j2);rw [List.getElem?_eq_getElem j2] at e;rw [Option.some.inj e];simp only [putCells,Array.toList_mapIdx,List.getElem_mapIdx];simp [hj,ae]
  ·rw [h1.2.2.2.2 k (by omega)];show (w.heap.modify g _)[k]? = _;rw [Array.getElem?_modify,if_neg (by omega)]
theorem qbG {B g cap:Nat} (zs:List (List UInt8)) (w:World) (hB:B≤w.heap.size) (h:w.ownsRow B 9 1 (.slice (some ⟨g,0,none⟩) zs.length cap) zs.length (aI zs)) (hsz:zs.length<4611686018427387904) :
  Calls Tryz.prog 27 #[.slice (some ⟨g,0,none⟩) zs.length cap] w fun e w'=>
   e = .returned (.tuple #[])∧w'.ownsRow B 9 1 (.slice (some ⟨g,0,none⟩) zs.length cap) zs.length (aI (zs.mergeSort fun x y=>decide (x≤y)))∧Below B w w':=by
 have hlt:g<w.heap.size:=(h.lt g rfl).2;refine (qeN g 0 cap zs w (qbM h) hlt hsz).mono ?_;rintro e w' ⟨rfl,n,os,rfl⟩;have hl:(zs.mergeSort fun x y=>decide (x≤y)).length=zs.length:=(List.mergeSort_perm zs _).length_eq;generalize (zs.mergeSort fun x y=>decide (x≤y))=S at *;have:=qgg (w1:=grow (putRow encStr (Sort.ahead w n) g 0 S.toArray) os) (m:=S.length) hB h hl (Nat.le_refl _) ⟨rfl,rfl,rfl,by rw [size_grow,size_putRow];show w.heap.size≤w.heap.size+_;omega,fun k hk=>by
  rw [heap_grow_old _ _ (by rw [size_putRow];exact hk)];rfl⟩
 rw [List.take_of_length_le (Nat.le_refl _),hl] at this;exact ⟨rfl,this⟩
theorem qbF {B g cap:Nat} (zs:List (List UInt8)) (w:World) (hB:B≤w.heap.size) (h:w.ownsRow B 9 1 (.slice (some ⟨g,0,none⟩) zs.length cap) zs.length (aI zs)) (hsz:zs.length<4611686018427387904) :
  Calls Tryz.prog 28 #[.slice (some ⟨g,0,none⟩) zs.length cap] w fun e w'=>
   e = .returned (.slice (some ⟨g,0,none⟩) (Lib.compact zs).length cap)∧w'.ownsRow B 9 1 (.slice (some ⟨g,0,none⟩) (Lib.compact zs).length cap) (Lib.compact zs).length (aI (Lib.compact zs))∧Below B w w':=by
 have hcap:zs.length≤cap:=by
  rcases h.2 with ⟨hv,_⟩ | ⟨g',cap',cur,hv,hb,hg,hc1, -⟩
  ·cases hv
  ·injection hv with _ _ hv3
   omega
 refine (qe1 g 0 cap zs w (qbM h) (by omega) hcap).mono ?_;rintro e w' ⟨rfl,n,rfl⟩;have hl:(Lib.compact zs).length≤zs.length:=by
  unfold Lib.compact compactUpTo;rw [List.length_map];exact Nat.le_trans (List.length_filter_le _ _) (by rw [List.length_range];exact Nat.le_refl _)
 generalize Lib.compact zs=S at *;obtain ⟨R,hR⟩:∃ R,S++List.replicate (zs.length-S.length) ([]:List UInt8)=R:=⟨_,rfl⟩
 have hRl:R.length=zs.length:=by rw [←hR,List.length_append,List.length_replicate];omega
 have hRt:R.take S.length=S:=by rw [←hR];exact List.take_left' rfl
 rw [hR];have h2:=qgg (w1:=putRow encStr (Sort.ahead w n) g 0 R.toArray) (S:=R) (m:=S.length) hB h hRl (by omega) ⟨rfl,rfl,rfl,by rw [size_putRow];exact Nat.le_refl _,fun k hk=>rfl⟩;rw [hRt] at h2;exact ⟨rfl,h2⟩
