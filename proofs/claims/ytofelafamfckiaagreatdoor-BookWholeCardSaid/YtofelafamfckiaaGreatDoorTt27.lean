/- Merged: SmI. -/
import Derived.Test.YtofelafamfckiaaGreatDoorTt22
namespace Go.Proofs.YtofelafamfckiaaGreatDoor
namespace Sm
open Go.Proofs Go.RowKit Go.Sort Go.Shelf Go.Lib Utf Nu Wo
def qmP (L:List Pr):Prop:=L.Pairwise fun a b=>Tr.ltN a.nm b.nm=true
instance (L:List Pr):Decidable (qmP L):=by unfold qmP;infer_instance
theorem qjD (S:List Pr):flatK prC 5 S.toArray=(qaI S).toArray:=by
 refine ext_get! (by rw [size_flatK];simp [qbA]) fun t ht=>?_;rw [size_flatK] at ht;have ht':t<S.length*5:=by simpa using ht
 rw [get_flatK _ _ _ _ ht];have hk:t / 5<S.length:=by omega
 have e:t=t / 5*5+t % 5:=by omega
 have h:=qky S (t / 5) hk (t % 5) (by omega);rw [←e] at h;have hl:t<(qaI S).length:=by rw [qbA];exact ht'
 rw [getElem!_pos (qaI S).toArray t (by simpa using hl),getElem!_pos S.toArray (t / 5) (by simpa using hk)];have hm:t % 5<(prC S[t / 5]).length:=by rw [qjw];omega
 rw [List.getElem?_eq_getElem hl,List.getElem?_eq_getElem hm] at h;rw [getElem!_pos (prC _) (t % 5) (by simpa using hm)]
 simpa using (Option.some.inj h).symm
theorem qbM {w:World} {B E:Nat} {g cap:Nat} {L:List Pr} (h:w.ownsRow B E 5 (.slice (some ⟨g,0,none⟩) L.length cap) L.length (qaI L)):HoldsK prC 5 w g 0 L.toArray:=by
 unfold HoldsK;rw [qjD];rcases h.2 with ⟨hv,_⟩ | ⟨g',cap',cur,hv,hb,hg,hc1,hc2,hc3,hx⟩
 ·cases hv
 ·injection hv with hv1 _ hv3
  injection hv1 with hv1
  injection hv1 with hv1
  subst hv1;intro j hj;have hj':j<(qaI L).length:=by simpa using hj
  have hjc:j<cur.size:=by rw [qbA] at hj';rw [hc3];omega
  have e:(qaI L)[j]=cur[j]:=by
   have h1:(cur.toList.take (L.length*5))[j]? = (qaI L)[j]?:=by rw [hx]
   have hj5:j<L.length*5:=by rw [←qbA];exact hj'
   rw [List.getElem?_take,if_pos hj5,List.getElem?_eq_getElem hj',List.getElem?_eq_getElem (by simpa using hjc)] at h1
   simpa using (Option.some.inj h1).symm
  refine ⟨?_,?_⟩
  ·rw [cell_of_row w g (0+j) cur E (0,0) hg,Nat.zero_add,Array.getElem?_eq_getElem hjc,getElem!_pos _ j hj];simp [e]
  ·simp [World.frozen?,hg]
