/- Merged: CdK CdL CdS CdN. -/
import Derived.Test.YtnecfkhbncepnaaGreatDoorTt56
import Derived.Shelf.Slices.CompactS
import Derived.Shelf.Slices.In.SortNone
set_option maxRecDepth 100000
set_option maxHeartbeats 2000000
namespace Go.Proofs.YtnecfkhbncepnaaGreatDoor
namespace Cd
open Go.Proofs Go.RowKit Go.Lib Utf Sc Re Tr
open Sm (Pr RdP af cX prV)
open Wo (Tl qdS dG eV inS)
theorem qnV {W u u':World} {a b:Nat} {c0 c1 c2 c3 c4 c5:Value} (h:Below W.heap.size W u∧u.cell? ⟨b,0,none⟩=some c0∧u.cell? ⟨b,1,none⟩=some c1∧u.cell? ⟨b,2,none⟩=some c2∧u.cell? ⟨b,3,none⟩=some c3∧u.cell? ⟨b,4,none⟩=some c4∧u.cell? ⟨a,2,none⟩=some c5) (hb:Below u.heap.size u u') (hl:b<W.heap.size) (ha:a<W.heap.size) :
  Below W.heap.size W u'∧u'.cell? ⟨b,0,none⟩=some c0∧u'.cell? ⟨b,1,none⟩=some c1∧u'.cell? ⟨b,2,none⟩=some c2∧u'.cell? ⟨b,3,none⟩=some c3∧u'.cell? ⟨b,4,none⟩=some c4∧u'.cell? ⟨a,2,none⟩=some c5:=by
 obtain ⟨h0,h1,h2,h3,h4,h5,h6⟩:=h;have hlt:b<u.heap.size:=Nat.lt_of_lt_of_le hl h0.size;exact ⟨h0.trans (hb.mono h0.size),(hb.cell (p:=⟨b,0,none⟩) hlt).trans h1,(hb.cell (p:=⟨b,1,none⟩) hlt).trans h2,(hb.cell (p:=⟨b,2,none⟩) hlt).trans h3,(hb.cell (p:=⟨b,3,none⟩) hlt).trans h4,(hb.cell (p:=⟨b,4,none⟩) hlt).trans h5,(hb.cell (p:=⟨a,2,none⟩) (Nat.lt_of_lt_of_le ha h0.size)).trans h6⟩
theorem qjI {h:Nat} (H2:R2C h) (pn:ByteArray) (ar:List UInt8) (mu:Bool) (df:ByteArray) (_ha:ar.length≤9223372036854775807) (v:V) (cs:List Value) (w:World) (hh:ht v<h) (hT:St.Tab w) (hv:RdA w 0 w.heap.size v cs) (hz:szA 4611686018427387904 v) :
  Calls Tryz.prog 43 #[.agg #[.string pn,.int .i64 12,.string (aa ar),.bool mu,.string df],.agg cs.toArray] w (Tl (aI ar v) w):=by
 obtain ⟨A,c,A2,d,rfl, -⟩:=id hv.cells;have HC:=zh (fun (u:World) (hu:Below w.heap.size w u)=>qfT H2 ar v _ u hh (hT.below hu) (hv.below hu (Nat.le_refl _) hu.size) hz);obtain ⟨r,hr⟩:∃ r,(aI ar v)=r:=⟨_,rfl⟩
 have HR:=zh hr;rw [hr] at HC ⊢;obtain ⟨X,hX⟩:∃ X,aa ar=X:=⟨_,rfl⟩
 have HX:=zh hX;rw [hX] at HC ⊢;clear hr hX hv hz;generalize v.k=k at *;generalize v.n=n at *;generalize aa v.s=S at *;generalize v.l.length=l at *;generalize v.ms.length=m at *;obtain ⟨W0,HB0, -,HP0,HV0,hla,hlb,HW0⟩:=zw w #[.string pn,.int .i64 12,.string X,.bool mu,.string df] #[.int .i64 k,.int .i64 n,.string S,.slice A l c,.slice A2 m d] 76 25;go_enter Tryz.func43,Tryz.ntmps43;have q:=HP0.out;rw [HW0.out] at q;obtain ⟨⟨p0,p1,p2,p3,p4⟩, -⟩:=Sm.aU q;clear q;have q:=HV0.out;rw [HW0.out] at q;obtain ⟨⟨v0,v1,v2,v3,v4⟩, -⟩:=ae q;clear q;go_wp2_with fail;rw [←HW0.out];refine (HC.out _ HB0.out).mono ?_;rintro e w1 ⟨rfl,hb⟩;have HB:=zB hb HB0;clear hb p0 p1 p2 p3 p4 v0 v1 v2 v3 v4;go_wp2_with fail;go_ret;exact ⟨rfl,HB.out⟩
theorem qiW {h:Nat} (_H2:R2C h) (pn:ByteArray) (ar:List UInt8) (mu:Bool) (df:ByteArray) (_ha:ar.length≤9223372036854775807) (v:V) (cs:List Value) (w:World) (_hh:ht v<h) (_hT:St.Tab w) (hv:RdA w 0 w.heap.size v cs) (hz:szA 4611686018427387904 v) :
  Calls Tryz.prog 43 #[.agg #[.string pn,.int .i64 16,.string (aa ar),.bool mu,.string df],.agg cs.toArray] w (Tl (decide (v.k=6)&&(mem v).all fun m=>bU m.1&&qiQ m.2) w):=by
 obtain ⟨A,c,A2,d,rfl, -⟩:=id hv.cells;have HC:=zh (fun (u:World) (hu:Below w.heap.size w u)=>ek (qeH w) (qkE (ht v) w) v _ u (Nat.le_refl _) hu (hv.below hu (Nat.le_refl _) hu.size) hz);obtain ⟨r,hr⟩:∃ r,(decide (v.k=6)&&(mem v).all fun m=>bU m.1&&qiQ m.2)=r:=⟨_,rfl⟩
 have HR:=zh hr;rw [hr] at HC ⊢;obtain ⟨X,hX⟩:∃ X,aa ar=X:=⟨_,rfl⟩
 have HX:=zh hX;rw [hX];clear hr hX hv hz;generalize v.k=k at *;generalize v.n=n at *;generalize aa v.s=S at *;generalize v.l.length=l at *;generalize v.ms.length=m at *;obtain ⟨W0,HB0, -,HP0,HV0,hla,hlb,HW0⟩:=zw w #[.string pn,.int .i64 16,.string X,.bool mu,.string df] #[.int .i64 k,.int .i64 n,.string S,.slice A l c,.slice A2 m d] 76 25;go_enter Tryz.func43,Tryz.ntmps43;have q:=HP0.out;rw [HW0.out] at q;obtain ⟨⟨p0,p1,p2,p3,p4⟩, -⟩:=Sm.aU q;clear q;have q:=HV0.out;rw [HW0.out] at q;obtain ⟨⟨v0,v1,v2,v3,v4⟩, -⟩:=ae q;clear q;go_wp2_with fail;rw [←HW0.out];refine (HC.out _ HB0.out).mono ?_;rintro e w1 ⟨rfl,hb⟩;have HB:=zB hb HB0;clear hb p0 p1 p2 p3 p4 v0 v1 v2 v3 v4;go_wp2_with fail;go_ret;exact ⟨rfl,HB.out⟩
theorem qiu {h:Nat} (_H2:R2C h) (pn:ByteArray) (ar:List UInt8) (mu:Bool) (df:ByteArray) (ha:ar.length≤9223372036854775807) (v:V) (cs:List Value) (w:World) (_hh:ht v<h) (_hT:St.Tab w) (hv:RdA w 0 w.heap.size v cs) (hz:szA 4611686018427387904 v) :
  Calls Tryz.prog 43 #[.agg #[.string pn,.int .i64 17,.string (aa ar),.bool mu,.string df],.agg cs.toArray] w (Tl (decide (v.k=6)&&(mem v).all fun m=>inS ar m.1&&qiQ m.2) w):=by
 obtain ⟨A,c,A2,d,rfl, -⟩:=id hv.cells;have HC:=zh (fun (u:World) (hu:Below w.heap.size w u) (hl:w.heap.size<u.heap.size) (hc:u.cell? ⟨w.heap.size,2,none⟩=some (.string (aa ar)))=>ek (qkb u w.heap.size ar hl hc ha) (qkE (ht v) u) v _ u (Nat.le_refl _) (Below.refl _ _) (hv.below hu (Nat.le_refl _) hu.size) hz);obtain ⟨r,hr⟩:∃ r,(decide (v.k=6)&&(mem v).all fun m=>inS ar m.1&&qiQ m.2)=r:=⟨_,rfl⟩
 have HR:=zh hr;rw [hr] at HC ⊢;obtain ⟨X,hX⟩:∃ X,aa ar=X:=⟨_,rfl⟩
 have HX:=zh hX;rw [hX];clear hr hX hv hz;generalize v.k=k at *;generalize v.n=n at *;generalize aa v.s=S at *;generalize v.l.length=l at *;generalize v.ms.length=m at *;obtain ⟨W0,HB0, -,HP0,HV0,hla,hlb,HW0⟩:=zw w #[.string pn,.int .i64 17,.string X,.bool mu,.string df] #[.int .i64 k,.int .i64 n,.string S,.slice A l c,.slice A2 m d] 76 25;go_enter Tryz.func43,Tryz.ntmps43;have q:=HP0.out;rw [HW0.out] at q;obtain ⟨⟨p0,p1,p2,p3,p4⟩, -⟩:=Sm.aU q;clear q;have q:=HV0.out;rw [HW0.out] at q;obtain ⟨⟨v0,v1,v2,v3,v4⟩, -⟩:=ae q;clear q;go_wp2_with fail;rw [←HW0.out];refine (HC.out _ HB0.out hla ((Sm.aU HP0.out).1.2.2.1.trans (by rw [HX.out]))).mono ?_;rintro e w1 ⟨rfl,hb⟩;have HB:=zB hb HB0;clear hb p0 p1 p2 p3 p4 v0 v1 v2 v3 v4;go_wp2_with fail;go_ret;exact ⟨rfl,HB.out⟩
theorem qja {h:Nat} (H2:R2C h) (pn:ByteArray) (ar:List UInt8) (mu:Bool) (df:ByteArray) (_ha:ar.length≤9223372036854775807) (v:V) (cs:List Value) (w:World) (hh:ht v<h) (hT:St.Tab w) (hv:RdA w 0 w.heap.size v cs) (hz:szA 4611686018427387904 v) :
  Calls Tryz.prog 43 #[.agg #[.string pn,.int .i64 18,.string (aa ar),.bool mu,.string df],.agg cs.toArray] w (Tl (aI (bK v) v&&prt v qip 0 9999&&prt v qek 1 12&&prt v qoZ 1 31) w):=by
 obtain ⟨A,c,A2,d,rfl, -⟩:=id hv.cells;have HC:=zh (fun (u:World) (hu:Below w.heap.size w u)=>qiO H2 v _ u hh (hT.below hu) (hv.below hu (Nat.le_refl _) hu.size) hz);obtain ⟨r,hr⟩:∃ r,(aI (bK v) v&&prt v qip 0 9999&&prt v qek 1 12&&prt v qoZ 1 31)=r:=⟨_,rfl⟩
 have HR:=zh hr;rw [hr] at HC ⊢;obtain ⟨X,hX⟩:∃ X,aa ar=X:=⟨_,rfl⟩
 have HX:=zh hX;rw [hX];clear hr hX hv hz;generalize v.k=k at *;generalize v.n=n at *;generalize aa v.s=S at *;generalize v.l.length=l at *;generalize v.ms.length=m at *;obtain ⟨W0,HB0, -,HP0,HV0,hla,hlb,HW0⟩:=zw w #[.string pn,.int .i64 18,.string X,.bool mu,.string df] #[.int .i64 k,.int .i64 n,.string S,.slice A l c,.slice A2 m d] 76 25;go_enter Tryz.func43,Tryz.ntmps43;have q:=HP0.out;rw [HW0.out] at q;obtain ⟨⟨p0,p1,p2,p3,p4⟩, -⟩:=Sm.aU q;clear q;have q:=HV0.out;rw [HW0.out] at q;obtain ⟨⟨v0,v1,v2,v3,v4⟩, -⟩:=ae q;clear q;go_wp2_with fail;rw [←HW0.out];refine (HC.out _ HB0.out).mono ?_;rintro e w1 ⟨rfl,hb⟩;have HB:=zB hb HB0;clear hb p0 p1 p2 p3 p4 v0 v1 v2 v3 v4;go_wp2_with fail;go_ret;exact ⟨rfl,HB.out⟩
theorem qje {h:Nat} (H2:R2C h) (pn:ByteArray) (ar:List UInt8) (mu:Bool) (df:ByteArray) (_ha:ar.length≤9223372036854775807) (v:V) (cs:List Value) (w:World) (hh:ht v<h) (hT:St.Tab w) (hv:RdA w 0 w.heap.size v cs) (hz:szA 4611686018427387904 v) :
  Calls Tryz.prog 43 #[.agg #[.string pn,.int .i64 13,.string (aa ar),.bool mu,.string df],.agg cs.toArray] w (Tl (decide (v.k=5)&&v.l.all (aI ar)) w):=by
 obtain ⟨A,c,A2,d,rfl, -⟩:=id hv.cells;have HC:=zh (fun (b1 b3 b4:Nat) (u:World) (hu:Below w.heap.size w u) (hr:Rdy u ar b1 b3 b4)=>qgy (qdG H2 (hT.below hu) hr) v _ u (Nat.le_of_lt hh) (Below.refl _ _) (hv.below hu (Nat.le_refl _) hu.size) hz);have HRO:=zh (fun (u:World)=>eu ar u);obtain ⟨r,hr⟩:∃ r,(decide (v.k=5)&&v.l.all (aI ar))=r:=⟨_,rfl⟩
 rw [hr] at HC ⊢;obtain ⟨X,hX⟩:∃ X,aa ar=X:=⟨_,rfl⟩
 rw [hX] at HRO ⊢;clear hr hX hv hz;generalize v.k=k at *;generalize v.n=n at *;generalize aa v.s=S at *;generalize v.l.length=l at *;generalize v.ms.length=m at *;obtain ⟨W0,HB0, -,HP0,HV0,hla,hlb,HW0⟩:=zw w #[.string pn,.int .i64 13,.string X,.bool mu,.string df] #[.int .i64 k,.int .i64 n,.string S,.slice A l c,.slice A2 m d] 76 25;go_enter Tryz.func43,Tryz.ntmps43;have q:=HP0.out;rw [HW0.out] at q;obtain ⟨⟨p0,p1,p2,p3,p4⟩, -⟩:=Sm.aU q;clear q;have q:=HV0.out;rw [HW0.out] at q;obtain ⟨⟨v0,v1,v2,v3,v4⟩, -⟩:=ae q;clear q;go_upto_region 28 with fail;rw [←HW0.out];clear p0 p1 p2 p3 p4 v0 v1 v2 v3 v4;have hbd:Below W0.heap.size W0 W0.drew:=(Below.refl _ _).drew;obtain ⟨⟨v0,v1,v2,v3,v4⟩, -⟩:=ae HV0.out;have p2:=(Sm.aU HP0.out).1.2.2.1;go_region_held3 (fun w'=>Below W0.heap.size W0 w'∧w'.cell? ⟨w.heap.size+1,0,none⟩=some (.int .i64 k)∧w'.cell? ⟨w.heap.size+1,1,none⟩=some (.int .i64 n)∧w'.cell? ⟨w.heap.size+1,2,none⟩=some (.string S)∧w'.cell? ⟨w.heap.size+1,3,none⟩=some (.slice A l c)∧w'.cell? ⟨w.heap.size+1,4,none⟩=some (.slice A2 m d)∧w'.cell? ⟨w.heap.size,2,none⟩=some (.string X)) (first | exact qnV (by assumption) hbn hlb hla | go_keep) (first | (go_at_call 87;refine (HRO.out _).mono ?_;rintro e u1 ⟨b1,b3,b4,rfl,hr,hbn⟩) | (go_at_call 86;refine (HC.out b1 b3 b4 _ (HB0.out.trans (Below.mono (by go_split_ands;assumption) HB0.out.size)) hr).mono ?_;rintro e u2 ⟨rfl,hbn⟩))
 have hfin:Below W0.heap.size W0 u2:=by go_split_ands;assumption
 have HFIN:=zh (HB0.out.trans (hfin.mono HB0.out.size));clear v0 v1 v2 v3 v4 p2;go_wp2_with fail;go_ret;exact ⟨rfl,HFIN.out⟩
theorem qjN {h:Nat} (H2:R2C h) (pn:ByteArray) (ar:List UInt8) (mu:Bool) (df:ByteArray) (_ha:ar.length≤9223372036854775807) (v:V) (cs:List Value) (w:World) (hh:ht v<h) (hT:St.Tab w) (hv:RdA w 0 w.heap.size v cs) (hz:szA 4611686018427387904 v) :
  Calls Tryz.prog 43 #[.agg #[.string pn,.int .i64 14,.string (aa ar),.bool mu,.string df],.agg cs.toArray] w (Tl (decide (v.k=6)&&(mem v).all fun m=>Id.isL m.1&&aI ar m.2) w):=by
 obtain ⟨A,c,A2,d,rfl, -⟩:=id hv.cells;have HC:=zh (fun (b1 b3 b4:Nat) (u:World) (hu:Below w.heap.size w u) (hr:Rdy u ar b1 b3 b4)=>ek (qrn u) (qdG H2 (hT.below hu) hr) v _ u (Nat.le_of_lt hh) (Below.refl _ _) (hv.below hu (Nat.le_refl _) hu.size) hz);have HRO:=zh (fun (u:World)=>eu ar u);obtain ⟨r,hr⟩:∃ r,(decide (v.k=6)&&(mem v).all fun m=>Id.isL m.1&&aI ar m.2)=r:=⟨_,rfl⟩
 rw [hr] at HC ⊢;obtain ⟨X,hX⟩:∃ X,aa ar=X:=⟨_,rfl⟩
 rw [hX] at HRO ⊢;clear hr hX hv hz;generalize v.k=k at *;generalize v.n=n at *;generalize aa v.s=S at *;generalize v.l.length=l at *;generalize v.ms.length=m at *;obtain ⟨W0,HB0, -,HP0,HV0,hla,hlb,HW0⟩:=zw w #[.string pn,.int .i64 14,.string X,.bool mu,.string df] #[.int .i64 k,.int .i64 n,.string S,.slice A l c,.slice A2 m d] 76 25;go_enter Tryz.func43,Tryz.ntmps43;have q:=HP0.out;rw [HW0.out] at q;obtain ⟨⟨p0,p1,p2,p3,p4⟩, -⟩:=Sm.aU q;clear q;have q:=HV0.out;rw [HW0.out] at q;obtain ⟨⟨v0,v1,v2,v3,v4⟩, -⟩:=ae q;clear q;go_upto_region 30 with fail;rw [←HW0.out];clear p0 p1 p2 p3 p4 v0 v1 v2 v3 v4;have hbd:Below W0.heap.size W0 W0.drew:=(Below.refl _ _).drew;obtain ⟨⟨v0,v1,v2,v3,v4⟩, -⟩:=ae HV0.out;have p2:=(Sm.aU HP0.out).1.2.2.1;go_region_held3 (fun w'=>Below W0.heap.size W0 w'∧w'.cell? ⟨w.heap.size+1,0,none⟩=some (.int .i64 k)∧w'.cell? ⟨w.heap.size+1,1,none⟩=some (.int .i64 n)∧w'.cell? ⟨w.heap.size+1,2,none⟩=some (.string S)∧w'.cell? ⟨w.heap.size+1,3,none⟩=some (.slice A l c)∧w'.cell? ⟨w.heap.size+1,4,none⟩=some (.slice A2 m d)∧w'.cell? ⟨w.heap.size,2,none⟩=some (.string X)) (first | exact qnV (by assumption) hbn hlb hla | go_keep) (first | (go_at_call 87;refine (HRO.out _).mono ?_;rintro e u1 ⟨b1,b3,b4,rfl,hr,hbn⟩) | (go_at_call 88;refine (HC.out b1 b3 b4 _ (HB0.out.trans (Below.mono (by go_split_ands;assumption) HB0.out.size)) hr).mono ?_;rintro e u2 ⟨rfl,hbn⟩))
 have hfin:Below W0.heap.size W0 u2:=by go_split_ands;assumption
 have HFIN:=zh (HB0.out.trans (hfin.mono HB0.out.size));clear v0 v1 v2 v3 v4 p2;go_wp2_with fail;go_ret;exact ⟨rfl,HFIN.out⟩
theorem qi5 {h:Nat} (H2:R2C h) (pn:ByteArray) (ar:List UInt8) (mu:Bool) (df:ByteArray) (_ha:ar.length≤9223372036854775807) (v:V) (cs:List Value) (w:World) (hh:ht v<h) (hT:St.Tab w) (hv:RdA w 0 w.heap.size v cs) (hz:szA 4611686018427387904 v) :
  Calls Tryz.prog 43 #[.agg #[.string pn,.int .i64 15,.string (aa ar),.bool mu,.string df],.agg cs.toArray] w (Tl (decide (v.k=6)&&(mem v).all fun m=>bU m.1&&aI ar m.2) w):=by
 obtain ⟨A,c,A2,d,rfl, -⟩:=id hv.cells;have HC:=zh (fun (b1 b3 b4:Nat) (u:World) (hu:Below w.heap.size w u) (hr:Rdy u ar b1 b3 b4)=>ek (qeH u) (qdG H2 (hT.below hu) hr) v _ u (Nat.le_of_lt hh) (Below.refl _ _) (hv.below hu (Nat.le_refl _) hu.size) hz);have HRO:=zh (fun (u:World)=>eu ar u);obtain ⟨r,hr⟩:∃ r,(decide (v.k=6)&&(mem v).all fun m=>bU m.1&&aI ar m.2)=r:=⟨_,rfl⟩
 rw [hr] at HC ⊢;obtain ⟨X,hX⟩:∃ X,aa ar=X:=⟨_,rfl⟩
 rw [hX] at HRO ⊢;clear hr hX hv hz;generalize v.k=k at *;generalize v.n=n at *;generalize aa v.s=S at *;generalize v.l.length=l at *;generalize v.ms.length=m at *;obtain ⟨W0,HB0, -,HP0,HV0,hla,hlb,HW0⟩:=zw w #[.string pn,.int .i64 15,.string X,.bool mu,.string df] #[.int .i64 k,.int .i64 n,.string S,.slice A l c,.slice A2 m d] 76 25;go_enter Tryz.func43,Tryz.ntmps43;have q:=HP0.out;rw [HW0.out] at q;obtain ⟨⟨p0,p1,p2,p3,p4⟩, -⟩:=Sm.aU q;clear q;have q:=HV0.out;rw [HW0.out] at q;obtain ⟨⟨v0,v1,v2,v3,v4⟩, -⟩:=ae q;clear q;go_upto_region 32 with fail;rw [←HW0.out];clear p0 p1 p2 p3 p4 v0 v1 v2 v3 v4;have hbd:Below W0.heap.size W0 W0.drew:=(Below.refl _ _).drew;obtain ⟨⟨v0,v1,v2,v3,v4⟩, -⟩:=ae HV0.out;have p2:=(Sm.aU HP0.out).1.2.2.1;go_region_held3 (fun w'=>Below W0.heap.size W0 w'∧w'.cell? ⟨w.heap.size+1,0,none⟩=some (.int .i64 k)∧w'.cell? ⟨w.heap.size+1,1,none⟩=some (.int .i64 n)∧w'.cell? ⟨w.heap.size+1,2,none⟩=some (.string S)∧w'.cell? ⟨w.heap.size+1,3,none⟩=some (.slice A l c)∧w'.cell? ⟨w.heap.size+1,4,none⟩=some (.slice A2 m d)∧w'.cell? ⟨w.heap.size,2,none⟩=some (.string X)) (first | exact qnV (by assumption) hbn hlb hla | go_keep) (first | (go_at_call 87;refine (HRO.out _).mono ?_;rintro e u1 ⟨b1,b3,b4,rfl,hr,hbn⟩) | (go_at_call 88;refine (HC.out b1 b3 b4 _ (HB0.out.trans (Below.mono (by go_split_ands;assumption) HB0.out.size)) hr).mono ?_;rintro e u2 ⟨rfl,hbn⟩))
 have hfin:Below W0.heap.size W0 u2:=by go_split_ands;assumption
 have HFIN:=zh (HB0.out.trans (hfin.mono HB0.out.size));clear v0 v1 v2 v3 v4 p2;go_wp2_with fail;go_ret;exact ⟨rfl,HFIN.out⟩
theorem qaP {h:Nat} (H2:R2C h) (p:Pr) (h1:1≤p.fm) (h18:p.fm≤18) (ha:p.ar.length≤9223372036854775807) (v:V) (cs:List Value) (w:World) (hh:ht v<h) (hT:St.Tab w) (hv:RdA w 0 w.heap.size v cs) (hz:szA 4611686018427387904 v) :
  Calls Tryz.prog 43 #[prV p,.agg cs.toArray] w (Tl (qee aI p.fm p.ar v) w):=by
 obtain ⟨pn,fm,ar,mu,df⟩:=p;simp only at h1 h18 ha;have hS:(aa v.s).size≤9223372036854775807:=by have:=((cI _ v).1 hz).2.2.1;rw [al];omega
 have eT:∀ P:List UInt8→Bool,(decide (v.k=4∧(aa v.s).size≤1024)&&P (aa v.s).data.toList)=(isT v 0 1024&&P v.s):=fun P=>by
  unfold isT;rw [al,aD];simp
 have hfm:fm=1∨fm=2∨fm=3∨fm=4∨fm=5∨fm=6∨fm=7∨fm=8∨fm=9∨fm=10∨fm=11∨fm=12∨fm=13∨fm=14∨fm=15∨fm=16∨fm=17∨fm=18:=by omega
 rcases hfm with rfl | rfl | rfl | rfl | rfl | rfl | rfl | rfl | rfl | rfl | rfl | rfl | rfl | rfl | rfl | rfl | rfl | rfl
 ·obtain ⟨A,c,A2,d,rfl, -⟩:=hv.cells;refine (qlp (aa pn) ar mu (aa df) v.k v.n (aa v.s) A A2 v.l.length c v.ms.length d w hS).mono ?_;rintro e w' ⟨rfl,hb⟩;exact ⟨congrArg (fun b=>Ending.returned (.bool b)) ((eT (fun _=>true)).trans (Bool.and_true _)),hb⟩
 ·obtain ⟨A,c,A2,d,rfl, -⟩:=hv.cells;refine (qmv (aa pn) ar mu (aa df) v.k v.n (aa v.s) A A2 v.l.length c v.ms.length d w hS).mono ?_;rintro e w' ⟨rfl,hb⟩;exact ⟨congrArg (fun b=>Ending.returned (.bool b)) ((eT bU)),hb⟩
 ·obtain ⟨A,c,A2,d,rfl, -⟩:=hv.cells;exact qkY (aa pn) ar mu (aa df) v.k v.n (aa v.s) A A2 v.l.length c v.ms.length d w
 ·obtain ⟨A,c,A2,d,rfl, -⟩:=hv.cells;exact qlw (aa pn) ar mu (aa df) v.k v.n (aa v.s) A A2 v.l.length c v.ms.length d w
 ·obtain ⟨A,c,A2,d,rfl, -⟩:=hv.cells;exact qkV (aa pn) ar mu (aa df) v.k v.n (aa v.s) A A2 v.l.length c v.ms.length d w
 ·obtain ⟨A,c,A2,d,rfl, -⟩:=hv.cells;refine (qlY (aa pn) ar mu (aa df) v.k v.n (aa v.s) A A2 v.l.length c v.ms.length d w hS).mono ?_;rintro e w' ⟨rfl,hb⟩;exact ⟨congrArg (fun b=>Ending.returned (.bool b)) ((eT Id.isL)),hb⟩
 ·obtain ⟨A,c,A2,d,rfl, -⟩:=hv.cells;refine (qmG (aa pn) ar mu (aa df) v.k v.n (aa v.s) A A2 v.l.length c v.ms.length d w hS hT).mono ?_;rintro e w' ⟨rfl,hb⟩;exact ⟨congrArg (fun b=>Ending.returned (.bool b)) ((eT (fun l=>decide (St.cA l)))),hb⟩
 ·obtain ⟨A,c,A2,d,rfl, -⟩:=hv.cells;refine (qlt (aa pn) ar mu (aa df) v.k v.n (aa v.s) A A2 v.l.length c v.ms.length d w hS).mono ?_;rintro e w' ⟨rfl,hb⟩;exact ⟨congrArg (fun b=>Ending.returned (.bool b)) ((eT qdS)),hb⟩
 ·obtain ⟨A,c,A2,d,rfl, -⟩:=hv.cells;refine (qlu (aa pn) ar mu (aa df) v.k v.n (aa v.s) A A2 v.l.length c v.ms.length d w hS).mono ?_;rintro e w' ⟨rfl,hb⟩;exact ⟨congrArg (fun b=>Ending.returned (.bool b)) ((eT dG)),hb⟩
 ·obtain ⟨A,c,A2,d,rfl, -⟩:=hv.cells;refine (qiS (aa pn) ar mu (aa df) v.k v.n (aa v.s) A A2 v.l.length c v.ms.length d w hS).mono ?_;rintro e w' ⟨rfl,hb⟩;exact ⟨congrArg (fun b=>Ending.returned (.bool b)) ((eT eV)),hb⟩
 ·obtain ⟨A,c,A2,d,rfl, -⟩:=hv.cells;refine (qjk (aa pn) ar mu (aa df) v.k v.n (aa v.s) A A2 v.l.length c v.ms.length d w hS ha).mono ?_;rintro e w' ⟨rfl,hb⟩;exact ⟨congrArg (fun b=>Ending.returned (.bool b)) ((eT (inS ar))),hb⟩
 ·exact qjI H2 (aa pn) ar mu (aa df) ha v cs w hh hT hv hz
 ·exact qje H2 (aa pn) ar mu (aa df) ha v cs w hh hT hv hz
 ·exact qjN H2 (aa pn) ar mu (aa df) ha v cs w hh hT hv hz
 ·exact qi5 H2 (aa pn) ar mu (aa df) ha v cs w hh hT hv hz
 ·exact qiW H2 (aa pn) ar mu (aa df) ha v cs w hh hT hv hz
 ·exact qiu H2 (aa pn) ar mu (aa df) ha v cs w hh hT hv hz
 ·exact qja H2 (aa pn) ar mu (aa df) ha v cs w hh hT hv hz
end Cd
namespace Cd
open Go.Proofs Go.RowKit Go.Lib Utf Sc Re Tr
open Sm (Pr RdP af cX prV qiH)
open Po (bo bx dt)
open Wo (Tl qjJ)
theorem qa0 (of:List UInt8):(af of).length≤30:=by
 obtain ⟨hp, -,hl, -⟩:=Sm.qcF of;rw [←hp.length_eq];exact hl
theorem qgp {of n:List UInt8} {p:Pr} (h:cX (af of) n=some p):1≤p.fm∧p.fm≤18∧p.ar.length≤9223372036854775807:=by
 unfold cX at h;have:=qn7 (List.mem_of_find?_eq_some h);omega
theorem qfS {h:Nat} (H2:R2C h) (of nm:List UInt8) (P:Value) (x:V) (cs:List Value) (w:World) (hh:ht x<h) (hT:St.Tab w) (hP:RdP w w.heap.size P (af of)) (hn:nm.length≤9223372036854775807) (hv:RdA w 0 w.heap.size x cs) (hz:szA 4611686018427387904 x) :
  Calls Tryz.prog 20 #[.string (aa of),P,.agg (.string (aa nm)::cs).toArray] w (Tl (cY aI of (nm,x)) w):=by
 obtain ⟨A,c,A2,d,rfl, -⟩:=id hv.cells;have HIT:=zh (fun (u:World)=>qbD x.k x.n (aa x.s) A A2 x.l.length c x.ms.length d (aa of) u);rw [qgU] at HIT;have HFI:=zh (fun (u:World) (hu:Below w.heap.size w u)=>qhd (af of) P (aa nm) u ((hP.below hu (Nat.le_refl _)).more hu.size) (Nat.le_trans (qa0 of) (by decide)));have HHF:=zh (fun (p:Pr) (hp:cX (af of) nm=some p) (u:World) (hu:Below w.heap.size w u)=>qaP H2 p (qgp hp).1 (qgp hp).2.1 (qgp hp).2.2 x _ u hh (hT.below hu) (hv.below hu (Nat.le_refl _) hu.size) hz);have HOT:=zh (fun (u:World)=>Wo.qmt (aa nm) u (by rw [al];exact hn));rw [aD] at HFI HOT;obtain ⟨PA,pc,rfl, -⟩:=hP;have HN:=zh (show (aa nm).toList=nm from ak nm);obtain ⟨X,hX⟩:∃ X,aa nm=X:=⟨_,rfl⟩
 obtain ⟨Y,hY⟩:∃ Y,aa of=Y:=⟨_,rfl⟩
 rw [hX] at HFI HOT HN ⊢;rw [hY] at HIT ⊢;generalize (af of).length=q at *;generalize x.k=k at *;generalize x.n=n at *;generalize aa x.s=S at *;generalize x.l.length=l at *;generalize x.ms.length=m at *;clear hX hY hv hz hT hn;obtain ⟨W0,hW0⟩:∃ W0,W0=w.alloc (.cells #[.string X,.int .i64 k,.int .i64 n,.string S,.slice A l c,.slice A2 m d] 44):=⟨_,rfl⟩
 have HB0:=zh (show Below w.heap.size w W0 by rw [hW0];exact aO _ _);have HR0:=zh (show W0.heap[w.heap.size]? = some (.cells #[.string X,.int .i64 k,.int .i64 n,.string S,.slice A l c,.slice A2 m d] 44 (0,0)) by rw [hW0];exact ag _ _);have HS0:=zh (show w.heap.size<W0.heap.size by rw [hW0,aF];exact Nat.lt_succ_self _);have HW0:=zh hW0;clear hW0;by_cases hnt:nm=cJ
 ·have t1:(X.toList==[64,116,121,112,101])=true:=by rw [HN.out,hnt];rfl
  have t2:X.toList=[64,116,121,112,101]:=by rw [HN.out,hnt];rfl
  have HME:=zh (show cY aI of (nm,x)=qak x of by unfold cY qak;rw [if_pos hnt]);rw [HME.out];clear hnt;generalize qak x of=r at *;go_enter Tryz.func20,Tryz.ntmps20;have q:=HR0.out;rw [HW0.out] at q;obtain ⟨p0,p1,p2,p3,p4,p5⟩:=cH q;clear q;go_wp2_with fail;rw [←HW0.out];refine (HIT.out _).mono ?_;rintro e w1 ⟨rfl,hb⟩;have HB:=zB hb HB0;clear hb p0 p1 p2 p3 p4 p5;go_wp2_with fail;go_ret;exact ⟨rfl,HB.out⟩
 ·have t1:(X.toList==[64,116,121,112,101])=false:=by rw [HN.out];exact beq_eq_false_iff_ne.2 hnt
  have t2:¬X.toList=[64,116,121,112,101]:=by rw [HN.out];exact hnt
  cases hf:cX (af of) nm with
  | some p=>
   have HME:=zh (show cY aI of (nm,x)=qee aI p.fm p.ar x by unfold cY;rw [if_neg hnt];simp only [hf]);have HF:=zh (HHF.out p hf);rw [HME.out];rw [hf] at HFI;have HFV:=zh (show qiH (some p) = .tuple #[.agg #[.string (aa p.nm),.int .i64 p.fm,.string (aa p.ar),.bool p.mu,.string (aa p.df)],.bool true] from rfl);rw [HFV.out] at HFI;have HPV:=zh (show prV p = .agg #[.string (aa p.nm),.int .i64 p.fm,.string (aa p.ar),.bool p.mu,.string (aa p.df)] from rfl);rw [HPV.out] at HF;obtain ⟨r,hr⟩:∃ r,qee aI p.fm p.ar x=r:=⟨_,rfl⟩
   rw [hr] at HF ⊢;generalize aa p.nm=q0 at *;generalize p.fm=q1 at *;generalize aa p.ar=q2 at *;generalize p.mu=q3 at *;generalize aa p.df=q4 at *;clear hf hnt hr;go_enter Tryz.func20,Tryz.ntmps20;have q:=HR0.out;rw [HW0.out] at q;obtain ⟨p0,p1,p2,p3,p4,p5⟩:=cH q;clear q;go_wp2_with fail;rw [←HW0.out];refine (HFI.out _ HB0.out).mono ?_;rintro e w1 ⟨rfl,hb⟩;have HB1:=zB hb HB0;have hm1:=(hb.block w.heap.size HS0.out).trans HR0.out;have hl1:w.heap.size<w1.heap.size:=Nat.lt_of_lt_of_le HS0.out hb.size;clear hb p0 p1 p2 p3 p4 p5;obtain ⟨W1,hW1⟩:∃ W1,W1=w1.alloc (.cells #[.string q0,.int .i64 q1,.string q2,.bool q3,.string q4] 76):=⟨_,rfl⟩
   have HB2:=zh (show Below w.heap.size w W1 by rw [hW1];exact HB1.out.alloc HB1.out.size _);obtain ⟨⟨y0,y1,y2,y3,y4⟩, -⟩:=Sm.aU (ag w1 (.cells #[.string q0,.int .i64 q1,.string q2,.bool q3,.string q4] 76));have hm2:=(Below.heap_alloc w1 (.cells #[.string q0,.int .i64 q1,.string q2,.bool q3,.string q4] 76) _ hl1).trans hm1;obtain ⟨p0,p1,p2,p3,p4,p5⟩:=cH hm2;have HW1:=zh hW1;clear hW1 hm1 hm2 hl1;go_wp2_with fail;rw [←HW1.out];refine (HF.out _ HB2.out).mono ?_;rintro e w2 ⟨rfl,hb⟩;have HB3:=zB hb HB2;clear hb p0 p1 p2 p3 p4 p5 y0 y1 y2 y3 y4;go_wp2_with fail;go_ret;exact ⟨rfl,HB3.out⟩
  | none=>
   have HME:=zh (show cY aI of (nm,x)=qjJ nm by unfold cY;rw [if_neg hnt];simp only [hf]);rw [HME.out];rw [hf] at HFI;have HFV:=zh (show qiH none = .tuple #[.agg #[.string ⟨#[]⟩,.int .i64 0,.string ⟨#[]⟩,.bool false,.string ⟨#[]⟩],.bool false] from rfl);rw [HFV.out] at HFI;generalize qjJ nm=r at *;clear hf hnt;go_enter Tryz.func20,Tryz.ntmps20;have q:=HR0.out;rw [HW0.out] at q;obtain ⟨p0,p1,p2,p3,p4,p5⟩:=cH q;clear q;go_wp2_with fail;rw [←HW0.out];refine (HFI.out _ HB0.out).mono ?_;rintro e w1 ⟨rfl,hb⟩;have HB1:=zB hb HB0;have hm1:=(hb.block w.heap.size HS0.out).trans HR0.out;have hl1:w.heap.size<w1.heap.size:=Nat.lt_of_lt_of_le HS0.out hb.size;clear hb p0 p1 p2 p3 p4 p5;obtain ⟨W1,hW1⟩:∃ W1,W1=w1.alloc (.cells #[.string ⟨#[]⟩,.int .i64 0,.string ⟨#[]⟩,.bool false,.string ⟨#[]⟩] 76):=⟨_,rfl⟩
   have HB2:=zh (show Below w.heap.size w W1 by rw [hW1];exact HB1.out.alloc HB1.out.size _);have hm2:=(Below.heap_alloc w1 (.cells #[.string ⟨#[]⟩,.int .i64 0,.string ⟨#[]⟩,.bool false,.string ⟨#[]⟩] 76) _ hl1).trans hm1;obtain ⟨p0,p1,p2,p3,p4,p5⟩:=cH hm2;have HW1:=zh hW1;clear hW1 hm1 hm2 hl1;go_wp2_with fail;rw [←HW1.out];refine (HOT.out _).mono ?_;rintro e w2 ⟨rfl,hb⟩;have HB3:=zB hb HB2;clear hb p0 p1 p2 p3 p4 p5;go_wp2_with fail;go_ret;exact ⟨rfl,HB3.out⟩
theorem qi4 {h:Nat} (H2:R2C h) (of nm:List UInt8) (b1 b3 b4:Nat) (x:V) (cs:List Value) (w:World) (hh:ht x<h) (hT:St.Tab w) (hR:Rdy w of b1 b3 b4) (hn:nm.length≤9223372036854775807) (hv:RdA w 0 w.heap.size x cs) (hz:szA 4611686018427387904 x) :
  Calls Tryz.prog 149 #[.agg (.string (aa nm)::cs).toArray,.pointer (some ⟨b1,0,none⟩),.pointer (some ⟨b3,0,none⟩)] w (Tl (!cY aI of (nm,x)) w):=by
 obtain ⟨A,c,A2,d,rfl, -⟩:=id hv.cells;obtain ⟨P,hc3,hP⟩:=hR.c3;have HMB:=zh (fun (u:World) (hu:Below w.heap.size w u)=>qfS H2 of nm P x _ u hh (hT.below hu) ((hP.below hu (Nat.le_refl _)).more hu.size) hn (hv.below hu (Nat.le_refl _) hu.size) hz);have hc1:=hR.c1;have l1:=hR.l1;have l3:=hR.l3;obtain ⟨PA,pc,rfl, -⟩:=hP;generalize (af of).length=q at *;generalize cY aI of (nm,x)=r at *;generalize aa nm=X at *;generalize aa of=Y at *;generalize x.k=k at *;generalize x.n=n at *;generalize aa x.s=S at *;generalize x.l.length=l at *;generalize x.ms.length=m at *;clear hv hz hT hn hR hh;obtain ⟨W0,hW0⟩:∃ W0,W0=w.alloc (.cells #[.string X,.int .i64 k,.int .i64 n,.string S,.slice A l c,.slice A2 m d] 44):=⟨_,rfl⟩
 have HB0:=zh (show Below w.heap.size w W0 by rw [hW0];exact aO _ _);have h1:W0.cell? ⟨b1,0,none⟩=some (.string Y):=(HB0.out.cell (p:=⟨b1,0,none⟩) l1).trans hc1;have h3:W0.cell? ⟨b3,0,none⟩=some (.slice PA q pc):=(HB0.out.cell (p:=⟨b3,0,none⟩) l3).trans hc3;rw [hW0] at h1 h3;obtain ⟨p0,p1,p2,p3,p4,p5⟩:=cH (ag w (.cells #[.string X,.int .i64 k,.int .i64 n,.string S,.slice A l c,.slice A2 m d] 44));have HW0:=zh hW0;clear hW0 hc1 hc3 l1 l3;go_enter Tryz.func149,Tryz.ntmps149;go_wp2_with fail;rw [←HW0.out];refine (HMB.out _ HB0.out).mono ?_;rintro e w1 ⟨rfl,hb⟩;have HB:=zB hb HB0;clear hb p0 p1 p2 p3 p4 p5 h1 h3;go_wp2_with fail;go_ret;exact ⟨rfl,HB.out⟩
theorem qur:∀ args w,(callFunc 149 args).run Tryz.prog w = .ok (.enter 149 args) w:=enters_of Tryz.func149 (by kernel_rfl) rfl
theorem qmo (of:List UInt8) (ns:List (List UInt8)):decide ((bB (af of) ns).length=0)=qfm of ns:=by
 unfold bB qfm;rw [List.length_map];rw [Bool.eq_iff_iff,decide_eq_true_iff,List.length_eq_zero_iff,List.filter_eq_nil_iff,List.all_eq_true];refine forall_congr' fun p=>forall_congr' fun _=>?_;cases p.mu <;> simp
theorem qi1 {h:Nat} (H2:R2C h) (of:List UInt8) (b1 b3 b4:Nat) (v:V) (A2:Option Addr) (w W0:World) (hh:ht v<h+1) (hT:St.Tab w) (hR:Rdy w of b1 b3 b4) (hn:v.ns.length=v.ms.length)
  (hl:0<v.ms.length→∃ g o,A2=some ⟨g,o,none⟩∧0≤g∧g<w.heap.size∧bA w 0 w.heap.size g o v.ns v.ms) (z6:∀ nm∈v.ns,nm.length≤4611686018427387904) (z8:cU 4611686018427387904 v.ms) (hb0:Below w.heap.size w W0) :
  qmY W0 A2 v.ms.length 149 #[.pointer (some ⟨b1,0,none⟩),.pointer (some ⟨b3,0,none⟩)] (fun i=> !cY aI of (v.ns.getD i [],v.ms.getD i V0)):=by
 intro i hi U hU;have hin:i<v.ns.length:=by omega
 obtain ⟨g0,o,rfl, -,hg0,hr⟩:=hl (by omega);obtain ⟨hcn,cs,hcell,hx⟩:=hr.at_ v.ms v.ns o i hi hin;have hWU:Below w.heap.size w U:=hb0.trans (hU.mono hb0.size);have hx':=hx.below hWU (Nat.le_refl _) hWU.size;obtain ⟨B,e1,B2,e2,rfl, -⟩:=hx.cells;have hc:∀ j u,([Value.int .i64 v.ms[i].k,.int .i64 v.ms[i].n,.string (aa v.ms[i].s),.slice B v.ms[i].l.length e1,.slice B2 v.ms[i].ms.length e2]:List Value)[j]? = some u→U.cell? ⟨g0,o+i*6+1+j,none⟩=some u:=fun j u hu=>(hWU.cell (p:=⟨g0,o+i*6+1+j,none⟩) hg0).trans (hcell j u hu);refine ⟨g0,o,aa v.ns[i],v.ms[i].k,v.ms[i].n,aa v.ms[i].s,B,v.ms[i].l.length,e1,B2,v.ms[i].ms.length,e2,rfl,⟨(hWU.cell (p:=⟨g0,o+i*6,none⟩) hg0).trans hcn,hc 0 _ rfl,hc 1 _ rfl,hc 2 _ rfl,hc 3 _ rfl,hc 4 _ rfl⟩,?_⟩;have:=qi4 H2 of v.ns[i] b1 b3 b4 v.ms[i] _ U (by have:=qdm (List.getElem_mem hi);omega) (hT.below hWU) (hR.below hWU) (by have:=z6 _ (List.getElem_mem hin);omega) hx' (aV z8 (List.getElem_mem hi));show Calls Tryz.prog _ _ U (Tl (!cY aI of (v.ns.getD i [],v.ms.getD i V0)) U);rw [show v.ms.getD i V0=v.ms[i] by rw [List.getD_eq_getElem?_getD,List.getElem?_eq_getElem hi];rfl,show v.ns.getD i []=v.ns[i] by rw [List.getD_eq_getElem?_getD,List.getElem?_eq_getElem hin];rfl];exact this
theorem qq9 {v:V} (hn:v.ns.length=v.ms.length) (p:List UInt8×V→Bool):(List.range v.ms.length).any (fun i=> !p (v.ns.getD i [],v.ms.getD i V0)) = !(mem v).all p:=by
 have e:=qkn hn (fun m=> !p m) (fun i=> !p (v.ns.getD i [],v.ms.getD i V0)) (fun i h1 h2=>by simp only [List.getD_eq_getElem?_getD,List.getElem?_eq_getElem h1,List.getElem?_eq_getElem h2,Option.getD_some]);rw [e,show mem v=v.ns.zip v.ms from rfl,←qgP,Bool.not_not]
theorem qjF {h:Nat} (H2:R2C h):R2C (h+1):=by
 intro of v cs b1 b3 b4 w hh hT hR hv hz;obtain ⟨A,c,A2,d,rfl,hn, -,hl⟩:=id hv.cells;obtain ⟨-, -, -, -,z5,z6, -,z8⟩:=(cI _ v).1 hz;obtain ⟨P,hc3,hP⟩:=hR.c3;have hc4:=hR.c4;have l3:=hR.l3;have l4:=hR.l4;have HCF:=zh (fun (u:World) (hu:Below w.heap.size w u)=>qbs A2 v.ms.length d (by omega) 149 #[.pointer (some ⟨b1,0,none⟩),.pointer (some ⟨b3,0,none⟩)] _ u qur (qi1 H2 of b1 b3 b4 v A2 w u hh hT hR hn hl z6 z8 hu));rw [qq9 hn] at HCF;have HLK:=zh (fun (u:World) (hu:Below w.heap.size w u)=>qdk (af of) P v _ u ((hP.below hu (Nat.le_refl _)).more hu.size) (Nat.le_trans (qa0 of) (by decide)) (hv.below hu (Nat.le_refl _) hu.size) hz);have HIN:=zh (show v.k=6→inN v=v.ns from fun hk=>by unfold inN;rw [if_pos hk]);obtain ⟨PA,pc,rfl, -⟩:=hP;have HRE:=zh (qhj of v);have HLM:=zh (qmo of v.ns);have HP0:=zh (show decide (af of≠[])=decide (0<(af of).length) by rw [Bool.eq_iff_iff,decide_eq_true_iff,decide_eq_true_iff,List.length_pos_iff]);rw [HP0.out] at HRE;rw [HRE.out];generalize (af of).length=q at *;obtain ⟨a,ha⟩:∃ a,(mem v).all (cY aI of)=a:=⟨_,rfl⟩
 rw [ha] at HCF ⊢;obtain ⟨L,hL⟩:∃ L,bB (af of) v.ns=L:=⟨_,rfl⟩
 rw [hL] at HLM;rw [←HLM.out];have HLQ:=zh (show v.k=6→bB (af of) (inN v)=L from fun hk=>by rw [HIN.out hk,hL]);generalize bB (af of) (inN v)=L' at *;generalize v.k=k at *;generalize v.n=n at *;generalize aa v.s=S at *;generalize v.l.length=l at *;generalize v.ms.length=m at *;clear hv hz hT hR hh hn hl z5 z6 z8 ha hL HRE HLM HP0 HIN;obtain ⟨W0,hW0⟩:∃ W0,W0=w.alloc (.cells #[.int .i64 k,.int .i64 n,.string S,.slice A l c,.slice A2 m d] 25):=⟨_,rfl⟩
 have HB0:=zh (show Below w.heap.size w W0 by rw [hW0];exact aO _ _);have HR0:=zh (show W0.heap[w.heap.size]? = some (.cells #[.int .i64 k,.int .i64 n,.string S,.slice A l c,.slice A2 m d] 25 (0,0)) by rw [hW0];exact ag _ _);have HS0:=zh (show w.heap.size<W0.heap.size by rw [hW0,aF];exact Nat.lt_succ_self _);have HC3:=zh (show W0.cell? ⟨b3,0,none⟩=some (.slice PA q pc) from (HB0.out.cell (p:=⟨b3,0,none⟩) l3).trans hc3);have HC4:=zh (show W0.cell? ⟨b4,0,none⟩=some (.func (.func 149) #[] #[.pointer (some ⟨b1,0,none⟩),.pointer (some ⟨b3,0,none⟩)]) from (HB0.out.cell (p:=⟨b4,0,none⟩) l4).trans hc4);have HL3:=zh (show b3<W0.heap.size from Nat.lt_of_lt_of_le l3 HB0.out.size);have HW0:=zh hW0;clear hW0 hc3 hc4 l3 l4;have k3:=HC3.out;have k4:=HC4.out;rw [HW0.out] at k3 k4;have qq:=HR0.out;rw [HW0.out] at qq;obtain ⟨⟨p0,p1,p2,p3,p4⟩, -⟩:=ae qq;clear qq;by_cases hq:0<q
 ·have u1:decide (0<q)=true:=zT hq;have u2:decide ((0:Int)<(q:Int))=true:=zT (by omega);rw [u1];by_cases hk:k=6
  ·have HLE:=zh (HLQ.out hk);subst hk;rw [decide_eq_true rfl,Bool.true_and,Bool.true_and];clear HLQ;cases a with
   | true=>
    rw [Bool.true_and];rw [HLE.out] at HLK;obtain ⟨y,hy⟩:∃ y,L.length=y:=⟨_,rfl⟩
    have HY:=zh hy;rw [hy];clear hy;go_enter Tryz.func150,Tryz.ntmps150;go_wp2_with fail;rw [←HW0.out];refine (HCF.out _ HB0.out).mono ?_;rintro e w1 ⟨rfl,hb⟩;have HB1:=zB hb HB0;have k3':=(hb.cell (p:=⟨b3,0,none⟩) HL3.out).trans HC3.out;obtain ⟨⟨v0,v1,v2,v3,v4⟩, -⟩:=ae ((hb.block _ HS0.out).trans HR0.out);clear hb p0 p1 p2 p3 p4 k3 k4;go_wp2_with fail;refine (HLK.out _ HB1.out).mono ?_;rintro e w2 ⟨z,rfl,hown,hb⟩;obtain ⟨Z,zc,rfl, -⟩:=Rd.of_own hown;rw [bx,HY.out];have HB2:=zB hb HB1;clear hb hown v0 v1 v2 v3 v4 k3';by_cases hz:y=0
    ·subst hz;go_wp2_with fail;go_ret;exact ⟨rfl,HB2.out⟩
    ·have w1:decide (y=0)=false:=zF hz;have w2:((y:Int)==0)=false:=beq_eq_false_iff_ne.2 (by omega);have w3:¬((y:Int)=0):=by omega
     have HZ:=zh w1;go_wp2_with fail;go_ret;exact ⟨by rw [HZ.out];rfl,HB2.out⟩
   | false=>
    rw [Bool.false_and];go_enter Tryz.func150,Tryz.ntmps150;go_wp2_with fail;rw [←HW0.out];refine (HCF.out _ HB0.out).mono ?_;rintro e w1 ⟨rfl,hb⟩;have HB1:=zB hb HB0;clear hb p0 p1 p2 p3 p4 k3 k4;go_wp2_with fail;go_ret;exact ⟨rfl,HB1.out⟩
  ·rw [zF hk];have t1:(k==6)=false:=beq_eq_false_iff_ne.2 hk;clear u1;go_enter Tryz.func150,Tryz.ntmps150;go_wp2_with fail;go_ret;exact ⟨rfl,by rw [←HW0.out];exact HB0.out⟩
 ·have u1:decide (0<q)=false:=zF hq;have u2:decide ((0:Int)<(q:Int))=false:=zF (by omega);have HU:=zh u1;clear u1;go_enter Tryz.func150,Tryz.ntmps150;go_wp2_with fail;go_ret;exact ⟨by rw [HU.out,Bool.and_false,Bool.false_and,Bool.false_and];rfl,by rw [←HW0.out];exact HB0.out⟩
theorem qnK:∀ h,R2C h
 | 0=>fun _ _ _ _ _ _ _ h=>absurd h (Nat.not_lt_zero _)
 | h+1=>qjF (qnK h)
end Cd
namespace Cd
open Go.Proofs Go.RowKit Go.Sort Go.Shelf Go.Lib Utf
def qov:Ren where
 f:=fun k=>if k=125 then 46 else if k=128 then 101 else if k=129 then 102 else if k=190 then 21 else if k=194 then 22 else if k=258 then 45 else if k=302 then 92 else if k=303 then 93 else if k=304 then 94 else if k=305 then 95 else if k=306 then 96 else if k=307 then 97 else if k=308 then 98 else if k=309 then 99 else if k=310 then 100 else if k=329 then 156 else if k=330 then 157 else if k=333 then 155 else if k=334 then 158 else if k=335 then 159 else if k=336 then 160 else 184
 t:=fun k=>if k=0 then 0 else if k=3 then 3 else if k=4 then 4 else if k=5 then 5 else if k=9 then 9 else if k=31 then 28 else if k=46 then 87 else if k=51 then 129 else if k=53 then 131 else if k=131 then 126 else if k=182 then 121 else if k=183 then 122 else if k=218 then 161 else if k=222 then 165 else if k=228 then 194 else 195
 g:=fun k=>k
theorem qhx:Lays.n190 Tryz.prog qov where
 mixed:=Sm.cT
 f125:=Tryz.func46.trans (congrArg some (by kernel_rfl))
 f128:=Tryz.func101.trans (congrArg some (by kernel_rfl))
 f129:=Tryz.func102.trans (congrArg some (by kernel_rfl))
 f190:=Tryz.func21.trans (congrArg some (by kernel_rfl))
 f258:=Tryz.func45.trans (congrArg some (by kernel_rfl))
 f302:=Tryz.func92.trans (congrArg some (by kernel_rfl))
 f303:=Tryz.func93.trans (congrArg some (by kernel_rfl))
 f304:=Tryz.func94.trans (congrArg some (by kernel_rfl))
 f305:=Tryz.func95.trans (congrArg some (by kernel_rfl))
 f306:=Tryz.func96.trans (congrArg some (by kernel_rfl))
 f307:=Tryz.func97.trans (congrArg some (by kernel_rfl))
 f308:=Tryz.func98.trans (congrArg some (by kernel_rfl))
 f309:=Tryz.func99.trans (congrArg some (by kernel_rfl))
 f310:=Tryz.func100.trans (congrArg some (by kernel_rfl))
 f329:=Tryz.func156.trans (congrArg some (by kernel_rfl))
 f330:=Tryz.func157.trans (congrArg some (by kernel_rfl))
 f333:=Tryz.func155.trans (congrArg some (by kernel_rfl))
 f334:=Tryz.func158.trans (congrArg some (by kernel_rfl))
 f335:=Tryz.func159.trans (congrArg some (by kernel_rfl))
 f336:=Tryz.func160.trans (congrArg some (by kernel_rfl))
 f344:=Tryz.func184.trans (congrArg some (by kernel_rfl))
 t0:=by kernel_rfl
 a0:=fun _=>by kernel_rfl
 z0:=fun _=>by kernel_rfl
 v0:=fun _=>by kernel_rfl
 t3:=by kernel_rfl
 a3:=fun _=>by kernel_rfl
 z3:=fun _=>by kernel_rfl
 v3:=fun _=>by kernel_rfl
 t4:=by kernel_rfl
 a4:=fun _=>by kernel_rfl
 z4:=fun _=>by kernel_rfl
 v4:=fun _=>by kernel_rfl
 t5:=by kernel_rfl
 a5:=fun _=>by kernel_rfl
 z5:=fun _=>by kernel_rfl
 v5:=fun _=>by kernel_rfl
 t9:=by kernel_rfl
 a9:=fun _=>by kernel_rfl
 z9:=fun _=>by kernel_rfl
 v9:=fun _=>by kernel_rfl
 t31:=by kernel_rfl
 a31:=fun _=>by kernel_rfl
 z31:=fun _=>by kernel_rfl
 v31:=fun _=>by kernel_rfl
 t46:=by kernel_rfl
 a46:=fun _=>by kernel_rfl
 z46:=fun _=>by kernel_rfl
 v46:=fun _=>by kernel_rfl
 t51:=by kernel_rfl
 a51:=fun _=>by kernel_rfl
 z51:=fun _=>by kernel_rfl
 v51:=fun _=>by kernel_rfl
 t53:=by kernel_rfl
 a53:=fun _=>by kernel_rfl
 z53:=fun _=>by kernel_rfl
 v53:=fun _=>by kernel_rfl
 t131:=by kernel_rfl
 a131:=fun _=>by kernel_rfl
 z131:=fun _=>by kernel_rfl
 v131:=fun _=>by kernel_rfl
 t182:=by kernel_rfl
 a182:=fun _=>by kernel_rfl
 z182:=fun _=>by kernel_rfl
 v182:=fun _=>by kernel_rfl
 t183:=by kernel_rfl
 a183:=fun _=>by kernel_rfl
 z183:=fun _=>by kernel_rfl
 v183:=fun _=>by kernel_rfl
 t218:=by kernel_rfl
 a218:=fun _=>by kernel_rfl
 z218:=fun _=>by kernel_rfl
 v218:=fun _=>by kernel_rfl
 t222:=by kernel_rfl
 a222:=fun _=>by kernel_rfl
 z222:=fun _=>by kernel_rfl
 v222:=fun _=>by kernel_rfl
 t228:=by kernel_rfl
 a228:=fun _=>by kernel_rfl
 z228:=fun _=>by kernel_rfl
 v228:=fun _=>by kernel_rfl
 t229:=by kernel_rfl
 a229:=fun _=>by kernel_rfl
 z229:=fun _=>by kernel_rfl
 v229:=fun _=>by kernel_rfl
theorem qh8:Lays.n194 Tryz.prog qov where
 mixed:=Sm.cT
 f194:=Tryz.func22.trans (congrArg some (by kernel_rfl))
 t0:=by kernel_rfl
 a0:=fun _=>by kernel_rfl
 z0:=fun _=>by kernel_rfl
 v0:=fun _=>by kernel_rfl
 t3:=by kernel_rfl
 a3:=fun _=>by kernel_rfl
 z3:=fun _=>by kernel_rfl
 v3:=fun _=>by kernel_rfl
 t4:=by kernel_rfl
 a4:=fun _=>by kernel_rfl
 z4:=fun _=>by kernel_rfl
 v4:=fun _=>by kernel_rfl
 t9:=by kernel_rfl
 a9:=fun _=>by kernel_rfl
 z9:=fun _=>by kernel_rfl
 v9:=fun _=>by kernel_rfl
 t31:=by kernel_rfl
 a31:=fun _=>by kernel_rfl
 z31:=fun _=>by kernel_rfl
 v31:=fun _=>by kernel_rfl
theorem qh3 (blk off cap:Nat) (zs:List (List UInt8)) (w:World) (hH:Holds encStr w blk off zs.toArray) (hblk:blk<w.heap.size) (hsz:zs.length<4611686018427387904) :
  Calls Tryz.prog 21 #[.slice (some ⟨blk,off,none⟩) zs.length cap] w fun e w'=>
   e = .returned (.tuple #[])∧∃ n os,w'=grow (putRow encStr (Sort.ahead w n) blk off (zs.mergeSort fun x y=>decide (x≤y)).toArray) os:=
 calls_of_every_depth fun D=>AnyS.slices_Sort_string_alone qhx D blk off cap zs w hH hblk hsz
theorem qgW (p:Option Addr) (cap:Nat) (w:World):Calls Tryz.prog 21 #[.slice p 0 cap] w fun e w'=>e = .returned (.tuple #[])∧w'=w:=
 Any.slices_Sort_string_none qhx p cap w
theorem qie (blk off cap:Nat) (zs:List (List UInt8)) (w:World) (hH:Holds encStr w blk off zs.toArray) (hsz:zs.length≤9223372036854775807) (hcap:zs.length≤cap) :
  Calls Tryz.prog 22 #[.slice (some ⟨blk,off,none⟩) zs.length cap] w fun e w'=>e = .returned (.slice (some ⟨blk,off,none⟩) (Lib.compact zs).length cap)∧∃ q,w'=putRow encStr (Sort.ahead w q) blk off (Lib.compact zs++List.replicate (zs.length-(Lib.compact zs).length) []).toArray:=
 Any.slices_Compact_string qh8 blk off cap zs w hH hsz hcap
theorem qf9 (a:Option Addr) (cap:Nat) (w:World):Calls Tryz.prog 22 #[.slice a 0 cap] w fun e w'=>e = .returned (.slice a 0 cap)∧w'=w:=
 Any.slices_Compact_string_empty qh8 a cap w
end Cd
namespace Cd
open Go.Proofs Go.RowKit Go.Sort Go.Shelf Go.Lib Utf Tr
open Po (bo bx dt)
open Wo (Tl)
theorem qpn:∀ a b:List UInt8,ltN a b=decide (a<b)
 | [],[]=>by simp [ltN,Lib.compareBytes]
 | [],_::_=>by simp [ltN,Lib.compareBytes]
 | _::_,[]=>by simp [ltN,Lib.compareBytes]
 | x::r,y::t=>by
  have ih:=qpn r t;unfold ltN at ih ⊢;rw [Lib.compareBytes];have e:(x::r<y::t)↔x<y∨x=y∧r<t:=List.cons_lt_cons_iff;by_cases h1:x<y
  ·rw [if_pos h1,zT (e.2 (.inl h1))];rfl
  ·rw [if_neg h1];by_cases h2:y<x
   ·rw [if_pos h2];have h3:x≠y:=fun e=>by rw [e] at h2;exact absurd h2 (UInt8.lt_irrefl _)
    have:¬(x::r<y::t):=fun h=>by
     rcases e.1 h with h | ⟨h, -⟩
     ·exact h1 h
     ·exact h3 h
    rw [decide_eq_false this];rfl
   ·rw [if_neg h2,ih];have h3:x=y:=UInt8.le_antisymm (UInt8.not_lt.1 h2) (UInt8.not_lt.1 h1);rw [Bool.eq_iff_iff,decide_eq_true_iff,decide_eq_true_iff,e];simp [h3]
theorem qdJ (d:Array (List UInt8)) (n:List UInt8):∀ m,m≤d.size→(n∈compactUpTo d m↔∃ j,j<m∧d[j]! = n)
 | 0,_=>by simp [compactUpTo]
 | m+1,hm=>by
  have ih:=qdJ d n m (by omega);rw [compactUpTo_succ,List.mem_append,ih];by_cases hk:keeps d m=true
  ·rw [if_pos hk];simp only [List.mem_singleton];constructor
   ·rintro (⟨j,h1,h2⟩ | h)
    ·exact ⟨j,by omega,h2⟩
    ·exact ⟨m,by omega,h.symm⟩
   ·rintro ⟨j,h1,h2⟩;by_cases e:j=m
    ·subst e;exact .inr h2.symm
    ·exact .inl ⟨j,by omega,h2⟩
  ·rw [if_neg hk];simp only [List.not_mem_nil,or_false];constructor
   ·rintro ⟨j,h1,h2⟩;exact ⟨j,by omega,h2⟩
   ·rintro ⟨j,h1,h2⟩;by_cases e:j=m
    ·subst e;unfold keeps at hk;simp only [decide_eq_true_eq,not_or,ne_eq,Classical.not_not] at hk;exact ⟨j-1,by omega,by rw [←h2,hk.2]⟩
    ·exact ⟨j,by omega,h2⟩
theorem qfw (d:Array (List UInt8)) (hs:∀ i j,i<j→j<d.size→d[i]!≤d[j]!):∀ m,m≤d.size→(compactUpTo d m).Pairwise fun a b=>ltN a b=true
 | 0,_=>by simp [compactUpTo]
 | m+1,hm=>by
  have ih:=qfw d hs m (by omega);rw [compactUpTo_succ];by_cases hk:keeps d m=true
  ·rw [if_pos hk,List.pairwise_append];refine ⟨ih,List.pairwise_singleton _ _,fun a ha b hb=>?_⟩;rw [List.mem_singleton] at hb;subst hb;obtain ⟨j,hj,rfl⟩:=(qdJ d a m (by omega)).1 ha;unfold keeps at hk;have hk:=of_decide_eq_true hk;have h0:m≠0:=by omega
   have hne:d[m]!≠d[m-1]!:=hk.resolve_left h0;rw [qpn,decide_eq_true_iff];have h1:d[m-1]!≤d[m]!:=hs (m-1) m (by omega) (by omega);have h2:d[j]!≤d[m-1]!:=by
    by_cases e:j=m-1
    ·rw [e];exact List.le_refl _
    ·exact hs j (m-1) (by omega) (by omega)
   have h3:d[j]!≤d[m]!:=List.le_trans h2 h1;by_cases h:d[j]! < d[m]!
   ·exact h
   ·have e:d[j]! = d[m]!:=List.le_antisymm h3 (List.not_lt.1 h);rw [e] at h2;exact absurd (List.le_antisymm h2 h1) hne
  ·rw [if_neg hk,List.append_nil];exact ih
def qbj (l:List (List UInt8)):List (List UInt8):=Lib.compact (l.mergeSort fun x y=>decide (x≤y))
theorem qfp (l:List (List UInt8)) (n:List UInt8):n∈qbj l↔n∈l:=by
 have h:=qdJ (l.mergeSort fun x y=>decide (x≤y)).toArray n _ (Nat.le_refl _);have hp:n∈(l.mergeSort fun x y=>decide (x≤y))↔n∈l:=(List.mergeSort_perm l _).mem_iff;unfold qbj Lib.compact;rw [show (l.mergeSort fun x y=>decide (x≤y)).length=(l.mergeSort fun x y=>decide (x≤y)).toArray.size from rfl,h,←hp];constructor
 ·rintro ⟨j,hj,rfl⟩;rw [getElem!_pos _ j hj];simp
 ·intro hn;obtain ⟨j,hj,rfl⟩:=List.getElem_of_mem hn;exact ⟨j,hj,by rw [getElem!_pos _ j (by simpa using hj)];simp⟩
theorem qiE (l:List (List UInt8)):(qbj l).Pairwise fun a b=>ltN a b=true:=by
 refine qfw _ (fun i j hij hj=>?_) _ (Nat.le_refl _);have hp:=List.pairwise_mergeSort (le:=fun x y:List UInt8=>decide (x≤y)) (fun a b c h1 h2=>by
  simp only [decide_eq_true_eq] at *;exact List.le_trans h1 h2) (fun a b=>by
  simp only [Bool.or_eq_true,decide_eq_true_eq];exact List.le_total a b) l
 rw [List.pairwise_iff_getElem] at hp;have hj':j<(l.mergeSort fun x y=>decide (x≤y)).length:=by simpa using hj
 have:=hp i j (by omega) hj' hij;rw [getElem!_pos _ i (by omega),getElem!_pos _ j hj]
 simpa using this
theorem qa8 {w:World} {B E:Nat} {g cap:Nat} {L:List (List UInt8)} (h:w.ownsRow B E 1 (.slice (some ⟨g,0,none⟩) L.length cap) L.length (bo L)):Holds encStr w g 0 L.toArray:=by
 rcases h.2 with ⟨hv,_⟩ | ⟨g',cap',cur,hv,hb,hg,hc1,hc2,hc3,hx⟩
 ·cases hv
 ·injection hv with hv1 _ hv3
  injection hv1 with hv1
  injection hv1 with hv1
  subst hv1;intro j hj;have hj':j<L.length:=by simpa using hj
  have hjc:j<cur.size:=by omega
  have e:some cur[j]=(bo L)[j]?:=by
   rw [←hx,List.getElem?_take,if_pos (by omega)];simp [hjc]
  rw [dt L j hj'] at e;refine ⟨?_,?_⟩
  ·rw [cell_of_row w g (0+j) cur E (0,0) hg,Nat.zero_add,Array.getElem?_eq_getElem hjc,getElem!_pos _ j hj,e];simp [aa]
  ·simp [World.frozen?,hg]
theorem qkS {w w1:World} {B E:Nat} {g cap m:Nat} {L S:List (List UInt8)} (_hB:B≤w.heap.size) (h:w.ownsRow B E 1 (.slice (some ⟨g,0,none⟩) L.length cap) L.length (bo L)) (hl:S.length=L.length) (hm:m≤S.length)
  (h1:w1.os=w.os∧w1.tape=w.tape∧w1.output=w.output∧w.heap.size≤w1.heap.size∧∀ k,k<w.heap.size→w1.heap[k]? = (putRow encStr w g 0 S.toArray).heap[k]?) :
  w1.ownsRow B E 1 (.slice (some ⟨g,0,none⟩) m cap) m (bo (S.take m))∧Below B w w1:=by
 rcases h.2 with ⟨hv,_⟩ | ⟨g',cap',cur,hv,hb,hg,hc1,hc2,hc3,hx⟩
 ·cases hv
 ·injection hv with hv1 _ hv3
  injection hv1 with hv1
  injection hv1 with hv1
  subst hv1;subst hv3;have hlt:g<w.heap.size:=(Array.getElem?_eq_some_iff.1 hg).1;refine ⟨⟨by rw [bx,List.length_take];omega,.inr ⟨g,cap,putCells encStr 0 S.toArray cur,rfl,hb,?_,by omega,hc2,?_,?_⟩⟩,h1.1,h1.2.1,h1.2.2.1,h1.2.2.2.1,fun k hk=>?_⟩
  ·rw [h1.2.2.2.2 g hlt];show (w.heap.modify g _)[g]? = _;rw [Array.getElem?_modify,if_pos rfl,hg];rfl
  ·simpa [putCells] using hc3
  ·refine List.ext_getElem ?_ fun j j1 j2=>?_
   ·rw [List.length_take,bx,List.length_take];simp only [putCells,Array.toList_mapIdx,List.length_mapIdx,Array.length_toList];rw [hc3];omega
   ·rw [List.getElem_take];have hj:j<S.length:=by rw [bx,List.length_take] at j2;omega
    have e:=dt (S.take m) j (by rw [bx] at j2;exact j2);rw [List.getElem?_eq_getElem j2] at e;rw [Option.some.inj e];simp only [putCells,Array.toList_mapIdx,List.getElem_mapIdx];simp [hj,aa]
  ·rw [h1.2.2.2.2 k (by omega)];show (w.heap.modify g _)[k]? = _;rw [Array.getElem?_modify,if_neg (by omega)]
theorem qlf {B g cap:Nat} (zs:List (List UInt8)) (w:World) (hB:B≤w.heap.size) (h:w.ownsRow B 9 1 (.slice (some ⟨g,0,none⟩) zs.length cap) zs.length (bo zs)) (hsz:zs.length<4611686018427387904) :
  Calls Tryz.prog 21 #[.slice (some ⟨g,0,none⟩) zs.length cap] w fun e w'=>
   e = .returned (.tuple #[])∧w'.ownsRow B 9 1 (.slice (some ⟨g,0,none⟩) zs.length cap) zs.length (bo (zs.mergeSort fun x y=>decide (x≤y)))∧Below B w w':=by
 have hlt:g<w.heap.size:=(h.lt g rfl).2;refine (qh3 g 0 cap zs w (qa8 h) hlt hsz).mono ?_;rintro e w' ⟨rfl,n,os,rfl⟩;have hl:(zs.mergeSort fun x y=>decide (x≤y)).length=zs.length:=(List.mergeSort_perm zs _).length_eq;generalize (zs.mergeSort fun x y=>decide (x≤y))=S at *;have:=qkS (w1:=grow (putRow encStr (Sort.ahead w n) g 0 S.toArray) os) (m:=S.length) hB h hl (Nat.le_refl _) ⟨rfl,rfl,rfl,by rw [size_grow,size_putRow];show w.heap.size≤w.heap.size+_;omega,fun k hk=>by
  rw [heap_grow_old _ _ (by rw [size_putRow];exact hk)];rfl⟩
 rw [List.take_of_length_le (Nat.le_refl _),hl] at this;exact ⟨rfl,this⟩
theorem qmf {B g cap:Nat} (zs:List (List UInt8)) (w:World) (hB:B≤w.heap.size) (h:w.ownsRow B 9 1 (.slice (some ⟨g,0,none⟩) zs.length cap) zs.length (bo zs)) (hsz:zs.length<4611686018427387904) :
  Calls Tryz.prog 22 #[.slice (some ⟨g,0,none⟩) zs.length cap] w fun e w'=>
   e = .returned (.slice (some ⟨g,0,none⟩) (Lib.compact zs).length cap)∧w'.ownsRow B 9 1 (.slice (some ⟨g,0,none⟩) (Lib.compact zs).length cap) (Lib.compact zs).length (bo (Lib.compact zs))∧Below B w w':=by
 have hcap:zs.length≤cap:=by
  rcases h.2 with ⟨hv,_⟩ | ⟨g',cap',cur,hv,hb,hg,hc1, -⟩
  ·cases hv
  ·injection hv with _ _ hv3
   omega
 refine (qie g 0 cap zs w (qa8 h) (by omega) hcap).mono ?_;rintro e w' ⟨rfl,n,rfl⟩;have hl:(Lib.compact zs).length≤zs.length:=by
  unfold Lib.compact compactUpTo;rw [List.length_map];exact Nat.le_trans (List.length_filter_le _ _) (by rw [List.length_range];exact Nat.le_refl _)
 generalize Lib.compact zs=S at *;obtain ⟨R,hR⟩:∃ R,S++List.replicate (zs.length-S.length) ([]:List UInt8)=R:=⟨_,rfl⟩
 have hRl:R.length=zs.length:=by rw [←hR,List.length_append,List.length_replicate];omega
 have hRt:R.take S.length=S:=by rw [←hR];exact List.take_left' rfl
 rw [hR];have h2:=qkS (w1:=putRow encStr (Sort.ahead w n) g 0 R.toArray) (S:=R) (m:=S.length) hB h hRl (by omega) ⟨rfl,rfl,rfl,by rw [size_putRow];exact Nat.le_refl _,fun k hk=>rfl⟩;rw [hRt] at h2;exact ⟨rfl,h2⟩
