/- Merged: SmI. -/
import Derived.Test.YtnecfkhbncepnaaGreatDoorTt33
namespace Go.Proofs.YtnecfkhbncepnaaGreatDoor
namespace Sm
open Go.Proofs Go.RowKit Go.Sort Go.Shelf Go.Lib Utf Nu Wo
def qmB (L:List Pr):Prop:=L.Pairwise fun a b=>Tr.ltN a.nm b.nm=true
instance (L:List Pr):Decidable (qmB L):=by unfold qmB;infer_instance
theorem qoV {L:List Pr} (h:qmB L) {a b:Pr} (ha:a∈L) (hb:b∈L) (he:a.nm=b.nm):a=b:=by
 induction L with
 | nil=>cases ha
 | cons x r ih=>
  obtain ⟨h1,h2⟩:=List.pairwise_cons.1 h;have ir:∀ q:List UInt8,Tr.ltN q q=false:=Tr.cD.irrefl;rcases List.mem_cons.1 ha with e1 | ha1
  ·rcases List.mem_cons.1 hb with e2 | hb1
   ·rw [e1,e2]
   ·have:=h1 b hb1;rw [←e1,he,ir] at this;cases this
  ·rcases List.mem_cons.1 hb with e2 | hb1
   ·have:=h1 a ha1;rw [←e2,he,ir] at this;cases this
   ·exact ih h2 ha1 hb1
theorem qnu {L S:List Pr} {d':Array Pr} (hp:PermIn 0 L.length L.toArray d') (hs:SortedIn (ltOf cfP) 0 L.length d') (hperm:L.Perm S) (hS:qmB S):d'=S.toArray:=by
 have hsz:d'.size=L.length:=by have:=hp.1;simpa using this
 have h3:=hp.2.2;have e1:(d'.extract 0 L.length).toList=d'.toList:=by rw [←hsz];simp
 have e2:(L.toArray.extract 0 L.length).toList=L:=by simp
 rw [e1,e2] at h3;have hq:d'.toList.Perm S:=h3.trans hperm;have e:d'.toList=S:=by
  refine List.Perm.eq_of_pairwise (le:=fun a b=>Tr.ltN b.nm a.nm=false) ?_ ?_ ?_ hq
  ·intro a b ha hb h1 h2;exact qoV hS (hq.mem_iff.1 ha) hb (Tr.qng h2 h1)
  ·rw [List.pairwise_iff_getElem];intro i j hi hj hij;have hi':i<d'.size:=by simpa using hi
   have hj':j<d'.size:=by simpa using hj
   have:=hs i j (Nat.zero_le _) hij (by omega);rw [getElem!_pos d' i hi',getElem!_pos d' j hj',qsO] at this
   simpa using this
  ·refine List.Pairwise.imp ?_ hS;intro a b h;cases hc:Tr.ltN b.nm a.nm with
   | false=>rfl
   | true=>
    have:=Tr.cD.trans _ _ _ h hc;rw [Tr.cD.irrefl] at this;cases this
 rw [←e]
theorem qil (S:List Pr):flatK prC 5 S.toArray=(aR S).toArray:=by
 refine ext_get! (by rw [size_flatK];simp [cd]) fun t ht=>?_;rw [size_flatK] at ht;have ht':t<S.length*5:=by simpa using ht
 rw [get_flatK _ _ _ _ ht];have hk:t / 5<S.length:=by omega
 have e:t=t / 5*5+t % 5:=by omega
 have h:=qaT S (t / 5) hk (t % 5) (by omega);rw [←e] at h;have hl:t<(aR S).length:=by rw [cd];exact ht'
 rw [getElem!_pos (aR S).toArray t (by simpa using hl),getElem!_pos S.toArray (t / 5) (by simpa using hk)];have hm:t % 5<(prC S[t / 5]).length:=by rw [qij];omega
 rw [List.getElem?_eq_getElem hl,List.getElem?_eq_getElem hm] at h;rw [getElem!_pos (prC _) (t % 5) (by simpa using hm)]
 simpa using (Option.some.inj h).symm
theorem qa8 {w:World} {B E:Nat} {g cap:Nat} {L:List Pr} (h:w.ownsRow B E 5 (.slice (some ⟨g,0,none⟩) L.length cap) L.length (aR L)):HoldsK prC 5 w g 0 L.toArray:=by
 unfold HoldsK;rw [qil];rcases h.2 with ⟨hv,_⟩ | ⟨g',cap',cur,hv,hb,hg,hc1,hc2,hc3,hx⟩
 ·cases hv
 ·injection hv with hv1 _ hv3
  injection hv1 with hv1
  injection hv1 with hv1
  subst hv1;intro j hj;have hj':j<(aR L).length:=by simpa using hj
  have hjc:j<cur.size:=by rw [cd] at hj';rw [hc3];omega
  have e:(aR L)[j]=cur[j]:=by
   have h1:(cur.toList.take (L.length*5))[j]? = (aR L)[j]?:=by rw [hx]
   have hj5:j<L.length*5:=by rw [←cd];exact hj'
   rw [List.getElem?_take,if_pos hj5,List.getElem?_eq_getElem hj',List.getElem?_eq_getElem (by simpa using hjc)] at h1
   simpa using (Option.some.inj h1).symm
  refine ⟨?_,?_⟩
  ·rw [cell_of_row w g (0+j) cur E (0,0) hg,Nat.zero_add,Array.getElem?_eq_getElem hjc,getElem!_pos _ j hj];simp [e]
  ·simp [World.frozen?,hg]
theorem qjM {w:World} {B E:Nat} {g cap n:Nat} {L S:List Pr} {os:Array Obj} (hB:B≤w.heap.size) (h:w.ownsRow B E 5 (.slice (some ⟨g,0,none⟩) L.length cap) L.length (aR L)) (hl:S.length=L.length) (hgB:B≤g) (w0:World) (hbel:Below B w0 w) :
  (sortWorldK prC 5 w g 0 n S.toArray os).ownsRow B E 5 (.slice (some ⟨g,0,none⟩) L.length cap) L.length (aR S)∧Below B w0 (sortWorldK prC 5 w g 0 n S.toArray os):=by
 refine ⟨?_,?_⟩
 ·rcases h.2 with ⟨hv,_⟩ | ⟨g',cap',cur,hv,hb,hg,hc1,hc2,hc3,hx⟩
  ·cases hv
  ·injection hv with hv1 _ hv3
   injection hv1 with hv1
   injection hv1 with hv1
   subst hv1;subst hv3;have hlt:g<w.heap.size:=(Array.getElem?_eq_some_iff.1 hg).1;refine ⟨by rw [cd,hl],.inr ⟨g,cap,putCells id 0 (flatK prC 5 S.toArray) cur,rfl,hb,?_,hc1,hc2,?_,?_⟩⟩
   ·unfold sortWorldK;rw [heap_grow_old _ _ (by rw [size_putRowK];exact hlt)];show ((Sort.ahead w n).heap.modify g _)[g]? = _;rw [Array.getElem?_modify,if_pos rfl,heap_ahead,hg];rfl
   ·simpa [putCells] using hc3
   ·rw [qil];refine List.ext_getElem ?_ fun j h1 h2=>?_
    ·rw [List.length_take,cd,hl];simp only [putCells,Array.toList_mapIdx,List.length_mapIdx,Array.length_toList];rw [hc3];have:=Nat.mul_le_mul_right 5 hc1;omega
    ·rw [List.getElem_take];simp only [putCells,Array.toList_mapIdx,List.getElem_mapIdx];have hj:j<(aR S).length:=h2;simp [hj]
 ·refine hbel.trans ⟨rfl,rfl,rfl,?_,fun k hk=>?_⟩
  ·unfold sortWorldK;rw [size_grow,size_putRowK];show w.heap.size≤w.heap.size+_;omega
  ·unfold sortWorldK;rw [heap_grow_old _ _ (by rw [size_putRowK];show k<w.heap.size;omega)];show ((Sort.ahead w n).heap.modify g _)[k]? = _;rw [Array.getElem?_modify,if_neg (by omega)];rfl
