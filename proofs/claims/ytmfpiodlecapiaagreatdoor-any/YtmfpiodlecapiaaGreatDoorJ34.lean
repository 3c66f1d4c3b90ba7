import Derived.Test.YtmfpiodlecapiaaGreatDoorJ33
set_option maxHeartbeats 4000000
set_option maxRecDepth 100000
namespace Go.Proofs.YtmfpiodlecapiaaGreatDoor
open Go.Conc Go.RowKit Go.bB Go.Ren Go.iw Go.Deep
attribute [local go_sem↓] Go.wp_at_zero Go.wp_at_succ
theorem E_{pa:Nat->Option Addr}{b:Bool}{n q:Nat}(hq:q<(picks pa b n).length):(picks pa b n)[q]?.getD 0<n/\(pa ((picks pa b n)[q]?.getD 0)).isSome=b:=by
 have h1:=List.getElem_mem hq;have h2:(picks pa b n)[q]?.getD 0=(picks pa b n)[q]:=by simp[hq]
 rw[<-h2]at h1;unfold picks at h1;rw[List.mem_filter,List.mem_range]at h1;exact⟨h1.1,by have h:=h1.2;simp only[beq_iff_eq]at h;exact h⟩
theorem AL{pa:Nat->Option Addr}{b:Bool}{n i j:Nat}(hi:i<(picks pa b n).length)(hj:j<(picks pa b n).length)(e:(picks pa b n)[i]?.getD 0=(picks pa b n)[j]?.getD 0):i=j:=by
 have hn:(picks pa b n).Nodup:=List.nodup_range.filter _;simp only[List.getElem?_eq_getElem hi,List.getElem?_eq_getElem hj,Option.getD_some]at e;exact(List.getElem_inj hn).1 e
def dV(pa:Nat->Option Addr)(K V:Nat):Bool:=decide ((picks pa false K).length<=(picks (fun j=>pa (K+j)) true V).length)
structure zi(w:World)(pb po K V s:Nat)(pa:Nat->Option Addr)(pl pc:Nat->Nat)(blk:List Nat):Prop where
 cell:∀n,n<K+V->w.cell? ⟨pb,po+n,none⟩=some (.slice (pa n) (pl n) (pc n))
 nil:∀n,n<K+V->pa n=none->pl n=0/\pc n=0
 has:∀n,n<K+V->(pa n).isSome=true->Bytes w (.slice (pa n) (pl n) (pc n)) (Pk.pieceN blk s K n)
theorem GD{w w':World}{v:Value}{bs:List Nat}(h:Bytes w v bs)(hk:∀b,b<w.heap.size->w'.heap[b]? =w.heap[b]?):Bytes w' v bs:=by
 obtain⟨b,o,c,h1,h2,h3,h4⟩:=h;refine⟨b,o,c,h1,h2,h3,fun j hj=>?_⟩;have h5:=h4 j hj;have e:=hk b (bG h5);unfold World.cell? at h5⊢;rw[e];exact h5
theorem zi.of{w w':World}{pb po K V s:Nat}{pa:Nat->Option Addr}{pl pc:Nat->Nat}{blk:List Nat}(h:zi w pb po K V s pa pl pc blk)(hk:∀b,b<w.heap.size->w'.heap[b]? =w.heap[b]?):zi w' pb po K V s pa pl pc blk:=by
 refine⟨fun n hn=>?_,h.nil,fun n hn hs=>GD (h.has n hn hs) hk⟩;have h5:=h.cell n hn;have e:=hk pb (bG h5);unfold World.cell? at h5⊢;rw[e];exact h5
theorem Bh{blk:List Nat}{s:Nat}:∀k,k*s<=blk.length->((List.range k).map (Pk.piece blk s)).flatten=blk.take (k*s)
 |0,_=>by simp
 |k+1,h=>by
  rw[Nat.succ_mul]at h;rw[List.range_succ,List.map_append,List.flatten_append,Bh k (by omega),Nat.succ_mul,List.take_add];simp[Pk.piece]
theorem F8{blk:List Nat}{s K:Nat}(h:blk.length=K*s):((List.range K).map (Pk.piece blk s)).flatten=blk:=by
 rw[Bh K (by omega),<-h,List.take_length]
section
variable {Dn:Nat} {Stop:lJ Nat->Prop} {fs:List Fr}
theorem yY(hR:jd (bQ Dn (aZ (aN 2 (Tryz.f187.body.getD .skip)))) Stop){cfn:FuncId}{cT:Array Value}{bg:Array Oper}{ci:Nat}{aT:List Nat}{ck:List Item}{o:Oper}(ho:bg[ci]? =some o){K V n s pb po cpp m c gO dA mI:Nat}{aL:Option Addr}{pa:Nat->Option Addr}{pl pc:Nat->Nat}{blk:List Nat}{cur:List Value}{rv:Value}{rg:Nat->Nat}{M:Nat->Nat->Nat}{w w3:World}{j3 j4 j5 j6 j7 f6 c6 g3 b6 c3 b7 g0 e6 d4 a8 i2 d2 a3 a4 b8 i5 b9 c9 f3 i4 e8 g9 i1 a1 e9 b0 d5 d8 f0 f9 c1 b1 e7 f1 g2 f4 f5 f7 f2 g4 g8 g5 f8 a2 a6 c2 c4 d1 c0 c7 g1 g6 c5 g7 a5 c8 i0 b3 b2 a0 b4 d9 b5 a9 h9 d3 i3 d7 a7 d6 d0:Value}(hK1:1<=K)(hK:K<=20)(hs1:1<=s)(hs:s<=16)(hblk:Hid (blk.length=K*s))(hbl:∀x∈blk,x<256)
  (hm:Hid (m=(picks pa false K).length))(hc:Hid (m+s=c))(hP:zi w pb po K V s pa pl pc blk)(kt3:Kt (fun _=>False) w w3)(hO3:aB w3 gO 28 cur)(VO:w.heap.size<=gO)(yB:∀i,i<K->cur[i]? =some (.slice (pa i) (pl i) (pc i)))(hKO:K<=dA)(hcl:Hid (cur.length=dA))
  (hLo:0<m->∃gL ji,aL=some ⟨gL,0,none⟩/\aB w3 gL 3 ji/\ji.take m=bW (picks pa false K))(Ba:zh w3 rv m c rg)(hrows:dO w3 m c rg M)(hrg:∀i,i<m->w.heap.size<=rg i)(ZU:∀g,rv.ownBlock=some g->g≠gO)(RF:∀k,k<m->Gs.it m M k k k≠0)
  (ZP:∀t q,t<m->q<s->Gs.it m M m t (m+q)=blk[((picks pa false K)[t]?.getD 0)*s+q]?.getD 0)(DC:dV pa K V=true)
  (hend:∀(m':Nat) (da:Option Addr) (dl dc:Nat) (wh:Bool) (w':World),Kt (fun _=>False) w w'->(m'=0->wh=dV pa K V/\(wh=true->dl=blk.length/\∃g,da=some ⟨g,0,none⟩/\w.heap.size<=g/\(∀j,j<dl->w'.frozen? ⟨g,j,none⟩=false)/\∀j,j<dl->w'.cell? ⟨g,j,none⟩=some (.int .u8 ((blk[j]?.getD 0:Nat):Int))))->
   aQ Tryz.prog aW bn jf (bQ Dn (aZ (aN 2 (Tryz.f187.body.getD .skip)))) Stop m' ⟨cfn,((⟨cT,[]⟩:Act).put o.dst (.tuple #[.slice da dl dc,.bool wh])).tmps,.inRegion bg aT::ck,false⟩ fs w'):
  aQ Tryz.prog aW bn jf (bQ Dn (aZ (aN 2 (Tryz.f187.body.getD .skip)))) Stop 0 ⟨91,#[.slice (some ⟨pb,po,none⟩) n cpp,.int .i64 V,.chan (some Dn),j3,j4,j5,j6,j7,.int .i64 K,.slice (some ⟨gO,0,none⟩) K dA,f6,.slice aL m mI,c6,rv,g3,b6,c3,b7,g0,e6,d4,a8,i2,d2,a3,a4,b8,i5,b9,c9,f3,i4,e8,g9,i1,a1,e9,b0,d5,d8,f0,f9,c1,b1,e7,f1,g2,f4,f5,f7,f2,g4,g8,g5,f8,a2,a6,c2,c4,d1,c0,c7,g1,g6,c5,g7,a5,c8,i0,b3,b2,a0,b4,d9,b5,a9,h9,d3,i3,d7,a7,d6,d0],[.code (dP [1,1,1,1,1,1,1] (Tryz.f91.body.getD .skip))],false⟩ (⟨cfn,cT,.inRegion bg (ci::aT)::ck,false⟩::fs) w3:=by
 have hC:=closed2;have vU:=hide hend;have HP:=hide hP;have HSol:=hide ZP;have HLo:=hide hLo;have HU:=hide yB;have Hrg:=hide hrg;have HrO:=hide ZU
 clear hend hP ZP hLo yB hrg ZU;have hmK:m<=20:=by have:=gV pa false K;have:=hm.out;omega
 have hc2:c<=65536:=by have:=hc.out;omega
 have hnc:m<=c:=by have:=hc.out;omega
 have Z9:∀i,i<m->rg i≠gO:=fun i hi=>(hrows.row i hi).lX hO3 (by decide);conv=>arg 8;simp only[Tryz.f91,Option.getD_some,dP]
 refine aQ.seq hC hR (aQ.seq hC hR (aQ.reg hC hR (l:= [0,1,2,3]) rfl ?_));refine aQ.op hC rfl rfl (fun τ d Kx hKx=>?_);go_simp;refine hKx _ _ (aQ.re hR ?_ _ _);clear hKx;try walk_nrm
 refine aQ.op hC rfl rfl (fun τ d Kx hKx=>?_);go_simp;refine hKx _ _ (aQ.re hR ?_ _ _);clear hKx;try walk_nrm
 refine aQ.dM hC hR rfl rfl rfl Tryz.func150 rfl rfl (T':=#[rv,.chan (some Dn),undef,undef,undef,undef,undef,undef,undef,undef,undef,undef,undef,undef,undef,undef,undef,undef,undef,undef,undef,undef,undef,undef,undef,undef,undef,undef,undef,undef,undef,undef,undef,undef,undef,undef,undef,undef,undef,undef,undef,undef,undef,undef,undef,undef]) (by first|rfl|simp[Act.eval,Tryz.f150]) ?_;refine IK hR (o:=?o) ?ho hnc hc2 Ba hrows RF ?h1 ?h2
 case ho=>rfl
 case h2=>
  intro w4 Om;try walk_nrm
  refine aQ.op hC rfl rfl (fun τ d Kx hKx=>?_);go_simp;refine hKx _ _ (aQ.re hR ?_ _ _);clear hKx;try walk_nrm
  refine aQ.aR hC hR (aQ.yes hC hR (by first|rfl|simp[Act.eval]) ?_);refine aQ.run hC hR bA closed (by kernel_rfl) fun τ d=>?_;go_wp2;intro todo;refine aQ.re hR ?_ _ _;refine aQ.back hC hR ho Tryz.func91 (v:=.tuple #[.slice none 0 0,.bool false]) (by simp[results,Tryz.f91,go_sem]) (by simp[results,Tryz.f91]) (vU.out 1 none 0 0 false w4 (kt3.join Om fun k hk=>?_) fun h=>by cases h);obtain⟨i,hi,rfl⟩:=hk;exact .inr (Hrg.out i hi)
 case h1=>
  intro w4 Om RA;try walk_nrm
  refine aQ.op hC rfl rfl (fun τ d Kx hKx=>?_);go_simp;refine hKx _ _ (aQ.re hR ?_ _ _);clear hKx;try walk_nrm
  refine aQ.aR hC hR (aQ.no hC hR (by first|rfl|simp[Act.eval]) (aQ.skip hC hR ?_));have kt4:Kt (fun _=>False) w w4:=kt3.join Om fun k hk=>by
   obtain⟨i,hi,rfl⟩:=hk;exact .inr (Hrg.out i hi)
  have hO4:aB w4 gO 28 cur:=hO3.of_block (Om.block gO hO3.lt (by rintro⟨i,hi,e⟩;exact Z9 i hi e.symm));have hrv4:zh w4 rv m c rg:=Ba.kt Om (by rintro g _ h _ ⟨i,hi,e⟩;exact h i hi e.symm);have hneL:∀g t (l:List Value),aB w3 g t l->t≠5->aB w4 g t l:=fun g t l hr ht=>hr.of_block (Om.block g hr.lt (by rintro⟨i,hi,e⟩;exact(hrows.row i hi).lX hr (Ne.symm ht) e.symm));have YG:(picks pa false K).length=m:=hm.out.symm;refine aQ.seq hC hR (aQ.Qu hC hR bA closed (by kernel_rfl) fun τ d=>?_);refine OX (w:=w4.re τ d) (L:=picks pa false K) (cur:=cur) hs1 hc YG hmK (fun x hx=>?_) (by rw[hcl.out];exact hKO) hO4 (fun hp=>?_) hrv4 HrO.out ?_
  ·unfold picks at hx;rw[List.mem_filter,List.mem_range]at hx;exact hx.1
  ·obtain⟨gL,ji,h1,h2,h3⟩:=HLo.out hp;exact⟨gL,ji,h1,h2.lX hO3 (by decide),hneL gL _ _ h2 (by decide),h3⟩
  intro h16 ny h63 h64 W_ W9 WZ h68 h69 h70 h71 h72 h73 h74 h75 h76 h77 h78 h79 h80 w5 hkp hO5;have kt5:Kt (fun _=>False) w w5:=kt4.join (Y:=fun b=>b=gO) ⟨hkp.size,hkp.block⟩ fun k hk=>.inr (by rw[hk];exact VO);have u_:∀i,i<m->aB w5 (rg i) 5 (bN (lst c (Gs.it m M m i))):=fun i hi=>(RA.row i hi).of_block (hkp.block _ (RA.row i hi).lt (Z9 i hi));clear hkp;dsimp only;refine aQ.run hC hR bA closed (by kernel_rfl) fun τ d=>?_;have hup:=Fa (cur:=cur) (L:=picks pa false K) (rg:=rg) (m:=m) (s:=s) (fun t u ht hu e=>AL ht hu e) m (by rw[YG];exact Nat.le_refl _);have hJ:Hid (Calls Tryz.prog 94 #[.slice (some ⟨gO,0,none⟩) K dA,.slice none 0 0] (w5.re τ d) fun e w'=>∃g cap,e= .returned (.slice (some ⟨g,0,none⟩) blk.length cap)/\w5.heap.size<=g/\blk.length<=cap/\cap<=maxLen/\(∀j,j<cap->w'.frozen? ⟨g,j,none⟩=false)/\
    (∀j,j<blk.length->w'.cell? ⟨g,j,none⟩=some (.int .u8 ((blk[j]?.getD 0:Nat):Int)))/\Below w5.heap.size (w5.re τ d) w'):=by
   have hul:=gW cur (picks pa false K) rg m s m;have hKu:K<=(jo cur (picks pa false K) rg m s m).length:=by rw[hul,hcl.out];exact hKO
   have:=Oo gO 0 K dA ((jo cur (picks pa false K) rg m s m).take K) ((List.range K).map (Pk.piece blk s)) (w5.re τ d) (by rw[List.length_take];omega) (by simp) hK1 (by omega) hKO (fun i v hv=>?_) (fun i v l hv hl=>?_) (fun l hl=>?_) (fun l hl x hx=>?_) ?_
   ·rw[F8 hblk.out]at this;exact this
   ·rw[Nat.zero_add];have hiK:i<K:=by have:=(List.getElem?_eq_some_iff.1 hv).1;rw[List.length_take]at this;omega
    rw[List.getElem?_take,if_pos hiK]at hv;exact hO5.cell i v hv
   ·have hiK:i<K:=by have:=(List.getElem?_eq_some_iff.1 hv).1;rw[List.length_take]at this;omega
    rw[List.getElem?_take,if_pos hiK]at hv;have el:l=Pk.piece blk s i:=by
     rw[List.getElem?_map,List.getElem?_range hiK]at hl;exact(Option.some.inj hl).symm
    subst el;have hpl:=Pk.piece_length hblk.out hiK;obtain⟨u1,u2⟩:=hup i (by rw[hcl.out];omega);by_cases hx:∃t,t<m/\(picks pa false K)[t]?.getD 0=i
    ·obtain⟨t,ht,et⟩:=hx;rw[u2 t ht et]at hv;obtain rfl:=Option.some.inj hv;refine⟨rg t,m,s,by rw[hpl],by rw[hpl];exact Nat.le_refl _,Pk.lD hbl s i,fun q hq=>?_⟩;rw[hpl]at hq;have hcm:m+q<c:=by have:=hc.out;omega
     have h7:=(u_ t ht).cell (m+q) _ (fV (by rw[bL];exact hcm));rw[mg hcm,HSol.out t q ht hq,et]at h7;rw[Pk.piece_at hq];exact h7
    ·have hno:∀t,t<m->(picks pa false K)[t]?.getD 0≠i:=fun t ht e=>hx ⟨t,ht,e⟩;rw[u1 hno,HU.out i hiK]at hv;obtain rfl:=Option.some.inj hv;have hsome:(pa i).isSome=true:=by
      cases hpi:(pa i).isSome with
      |true=>rfl
      |false=>
       have hmem:i∈picks pa false K:=by
        unfold picks;rw[List.mem_filter,List.mem_range];exact⟨hiK,by rw[hpi];rfl⟩
       obtain⟨t,ht,e⟩:=List.mem_iff_getElem.1 hmem;exact absurd (by simp[ht,e]) (hno t (by omega))
     have h8:=GD (w':=w5.re τ d) (HP.out.has i (by omega) hsome) (fun b hb=>kt5.block b hb id);unfold Pk.pieceN at h8;rw[if_pos hiK]at h8;exact h8
   ·obtain⟨i,hi,rfl⟩:=List.mem_map.1 hl;intro e;have:=Pk.piece_length hblk.out (List.mem_range.1 hi);rw[e]at this;simp at this;omega
   ·obtain⟨i,hi,rfl⟩:=List.mem_map.1 hl;exact Pk.lD hbl s i x hx
   ·rw[F8 hblk.out,hblk.out];have:=Nat.mul_le_mul hK hs;omega
  clear hup u_ hO5;go_wp2_with (go_at_call 94;refine hJ.out.mono ?_;rintro _ w6 ⟨g,cap,rfl,k1,k2,k3,k4,k5,k6⟩;replace k1:=hide k1;replace k2:=hide k2;replace k4:=hide k4;replace k5:=hide k5;replace k6:=hide k6)
  intro todo;have kt6:Kt (fun _=>False) w w6:=kt5.trans ⟨k6.out.size,fun k hk _=>k6.out.block k hk⟩;refine aQ.back hC hR ho Tryz.func91 (v:=.tuple #[.slice (some ⟨g,0,none⟩) blk.length cap,.bool true]) (by simp[results,Tryz.f91,go_sem]) (by simp[results,Tryz.f91]) (vU.out 0 (some ⟨g,0,none⟩) blk.length cap true w6 kt6 fun _=>⟨DC.symm,fun _=>⟨rfl,g,rfl,Nat.le_trans kt5.size k1.out,fun j hj=>k4.out j (Nat.lt_of_lt_of_le hj k2.out),k5.out⟩⟩)
end
section
variable {Dn:Nat} {Stop:lJ Nat->Prop} {fs:List Fr}
theorem JW(hR:jd (bQ Dn (aZ (aN 2 (Tryz.f187.body.getD .skip)))) Stop){cfn:FuncId}{cT:Array Value}{bg:Array Oper}{ci:Nat}{aT:List Nat}{ck:List Item}{o:Oper}(ho:bg[ci]? =some o){K V n s pb po cpp:Nat}{pa:Nat->Option Addr}{pl pc:Nat->Nat}{blk:List Nat}{w:World}(hn:Hid (n=K+V))(hK1:1<=K)(hK:K<=20)(hV:V<=20)(hs1:1<=s)(hs:s<=16)(VP:n<=cpp)(hcm:cpp<=9223372036854775807)(hblk:Hid (blk.length=K*s))(hbl:∀x∈blk,x<256)
  (hP:zi w pb po K V s pa pl pc blk)
  (hend:∀(m':Nat) (da:Option Addr) (dl dc:Nat) (wh:Bool) (w':World),Kt (fun _=>False) w w'->(m'=0->wh=dV pa K V/\(wh=true->dl=blk.length/\∃g,da=some ⟨g,0,none⟩/\w.heap.size<=g/\(∀j,j<dl->w'.frozen? ⟨g,j,none⟩=false)/\∀j,j<dl->w'.cell? ⟨g,j,none⟩=some (.int .u8 ((blk[j]?.getD 0:Nat):Int))))->
   aQ Tryz.prog aW bn jf (bQ Dn (aZ (aN 2 (Tryz.f187.body.getD .skip)))) Stop m' ⟨cfn,((⟨cT,[]⟩:Act).put o.dst (.tuple #[.slice da dl dc,.bool wh])).tmps,.inRegion bg aT::ck,false⟩ fs w'):
  aQ Tryz.prog aW bn jf (bQ Dn (aZ (aN 2 (Tryz.f187.body.getD .skip)))) Stop 0 ⟨91,#[.slice (some ⟨pb,po,none⟩) n cpp,.int .i64 V,.chan (some Dn),undef,undef,undef,undef,undef,undef,undef,undef,undef,undef,undef,undef,undef,undef,undef,undef,undef,undef,undef,undef,undef,undef,undef,undef,undef,undef,undef,undef,undef,undef,undef,undef,undef,undef,undef,undef,undef,undef,undef,undef,undef,undef,undef,undef,undef,undef,undef,undef,undef,undef,undef,undef,undef,undef,undef,undef,undef,undef,undef,undef,undef,undef,undef,undef,undef,undef,undef,undef,undef,undef,undef,undef,undef,undef,undef,undef,undef,undef,undef,undef],[.code (Tryz.f91.body.getD .skip)],false⟩ (⟨cfn,cT,.inRegion bg (ci::aT)::ck,false⟩::fs) w:=by
 have hC:=closed2;have HP:=hide hP;have vU:=hide hend;clear hP hend;have hpb:pb<w.heap.size:=bG (HP.out.cell 0 (by omega));have hsub:(n:Int)-(V:Int)=(K:Int):=by have:=hn.out;omega
 have hwK:IntKind.i64.wrap (K:Int)=(K:Int):=aF _ (by omega) (by omega);conv=>arg 8;simp only[Tryz.f91,Option.getD_some]
 refine aQ.seq hC hR (aQ.run hC hR bA closed (by kernel_rfl) fun τ d=>?_);go_wp2;refine aQ.re hR ?_ _ _;refine aQ.seq hC hR (aQ.run hC hR bA closed (by kernel_rfl) fun τ d=>?_);go_wp2;refine aQ.re hR ?_ _ _;have Yh:∀i,i<K->((List.range K).map fun i=>Value.slice (pa i) (pl i) (pc i))[i]? =some (.slice (pa i) (pl i) (pc i)):=fun i hi=>by simp[hi]
 refine aQ.seq hC hR (aQ.Qu hC hR bA closed (by kernel_rfl) fun τ d=>?_);refine TQ (w:=w.re τ d) (xs:=(List.range K).map fun i=>Value.slice (pa i) (pl i) (pc i)) hn hK1 hK hV VP hcm (by show _=_;simp) (fun u hu=>?_) (fun j u hj=>?_) ?_
 ·obtain⟨i,_,rfl⟩:=List.mem_map.1 hu;rfl
 ·have hjl:j<K:=by have:=(List.getElem?_eq_some_iff.1 hj).1;simpa using this
  rw[Yh j hjl]at hj;obtain rfl:=Option.some.inj hj;exact HP.out.cell j (by omega)
 intro gO dA cur aM cM h22 h23 Lx Lu Ls h27 SG w1 hb1 VO hO hcur Y8 hcO2 hcl haM;have kt1:Kt (fun _=>False) w w1:=⟨hb1.size,fun k hk _=>hb1.block k hk⟩;have hP1:=HP.out.of (fun b hb=>kt1.block b hb id);have hgO':w.heap.size<=gO:=VO;have yB:∀i,i<K->cur[i]? =some (.slice (pa i) (pl i) (pc i)):=fun i hi=>by
  have:(cur.take K)[i]? =some (.slice (pa i) (pl i) (pc i)):=by rw[hcur];exact Yh i hi
  rw[List.getElem?_take,if_pos hi]at this;exact this
 have Zb:=hO.lt;clear hb1 VO hcur Yh;dsimp only;refine aQ.seq hC hR (aQ.Qu hC hR bA closed (by kernel_rfl) fun τ d=>?_);refine TP (w:=w1.re τ d) hK hV hO yB haM (fun j hj=>by rw[Nat.add_assoc];exact hP1.cell (K+j) (by omega)) ?_;intro vL vE SF SE h31 h32 w2 hb2 hL1 hL2 hE1 hE2;have ZJ:Kt (fun _=>False) w1 w2:=⟨hb2.size,fun k hk _=>hb2.block k hk⟩;have ZI:=kt1.trans ZJ;have hP2:=HP.out.of (fun b hb=>ZI.block b hb id);have hO2:aB w2 gO 28 cur:=hO.of_block (ZJ.block gO Zb id);clear hb2 hO hP1;dsimp only;obtain⟨m,hm⟩:∃m,m=(picks pa false K).length:=⟨_,rfl⟩;obtain⟨nE,Y5⟩:∃nE,nE=(picks (fun j=>pa (K+j)) true V).length:=⟨_,rfl⟩;have hmK:m<=20:=by have:=gV pa false K;omega
 have hnEV:nE<=20:=by have:=gV (fun j=>pa (K+j)) true V;omega
 have hLo:∃aL mI,vL= .slice aL m mI/\(0<m->∃gL ji,aL=some ⟨gL,0,none⟩/\aB w2 gL 3 ji/\ji.take m=bW (picks pa false K)/\w1.heap.size<=gL):=by
  obtain⟨aL,mI,rfl⟩:=hL1.shape;rw[dG,<-hm]at hL1 hL2⊢;refine⟨aL,mI,rfl,fun hp=>?_⟩;obtain⟨gL,cap,ji,e1,e2,_,_,_,e3⟩:=hL1.open' (by rw[dG,<-hm];exact hp);simp only[Value.slice.injEq]at e1;obtain⟨rfl,_,rfl⟩:=e1;rw[dG,<-hm]at e3;exact⟨gL,ji,rfl,e2,e3,hL2 gL rfl⟩
 have hEo:∃aE oL,vE= .slice aE nE oL/\nE<=oL/\oL<=maxLen/\(aE=none->nE=0/\oL=0)/\(0<nE->∃gE Dl,aE=some ⟨gE,0,none⟩/\aB w2 gE 3 Dl/\Dl.take nE=bW (picks (fun j=>pa (K+j)) true V)/\w1.heap.size<=gE):=by
  rcases hE1 with⟨rfl,h0⟩|⟨gE,cap,Dl,rfl,e1,e2,e3,e4,e5⟩
  ·have:nE=0:=by rw[Y5,<-dG,h0];rfl
   exact⟨none,0,by rw[this],by omega,by simp[maxLen],fun _=>⟨this,rfl⟩,fun h=>by omega⟩
  ·rw[dG,<-Y5]at e2 e5 hE2⊢;exact⟨_,cap,rfl,e2,e3,(fun h=>by cases h),fun _=>⟨gE,Dl,rfl,e1,e5,hE2 gE rfl⟩⟩
 obtain⟨aL,mI,rfl,hLo⟩:=hLo;obtain⟨aE,oL,rfl,hcE,YB,haE,hEo⟩:=hEo;clear hL1 hL2 hE1 hE2;have HLo:=hide hLo;have HEo:=hide hEo;have HM:=hide hm;have HNE:=hide Y5
 clear hLo hEo hm Y5;by_cases hlt:nE<m
 ·
  have hlt':(nE:Int)<(m:Int):=by omega
  refine aQ.seq hC hR (aQ.run hC hR bA closed (by kernel_rfl) fun τ d=>?_);go_wp2;intro todo;refine aQ.re hR ?_ _ _;refine aQ.back hC hR ho Tryz.func91 (v:=.tuple #[.slice none 0 0,.bool false]) (by simp[results,Tryz.f91,go_sem]) (by simp[results,Tryz.f91]) (vU.out 0 none 0 0 false w2 ZI fun _=>⟨?_,fun h=>by cases h⟩);symm
  rw[dV,decide_eq_false_iff_not,<-HM.out,<-HNE.out];omega
 have hlt':¬(nE:Int)<(m:Int):=by omega
 refine aQ.seq hC hR (aQ.run hC hR bA closed (by kernel_rfl) fun τ d=>?_);go_wp2;refine aQ.re hR ?_ _ _;refine aQ.seq hC hR (aQ.run hC hR bA closed (by kernel_rfl) fun τ d=>?_);go_wp2;refine aQ.re hR ?_ _ _;have DC:dV pa K V=true:=by
  rw[dV,decide_eq_true_eq,<-HM.out,<-HNE.out];omega
 rcases Nat.eq_zero_or_pos m with h0|hp
 ·subst h0;refine aQ.seq hC hR (aQ.Qu hC hR bA closed (by kernel_rfl) fun τ d=>?_);refine OW (w:=w2.re τ d) hcE YB haE ?_;intro Uy Lr Lp Lm Ll Lj h43 Lh h45 h46 h47 h48 SC h50 SB SA Sz Sv Sr Sn h57 Sm;dsimp only;refine aQ.re hR ?_ _ _;exact yY hR ho (rg:=fun _=>0) (M:=fun _ _=>0) (c:=0+s) hK1 hK hs1 hs hblk hbl HM (show Hid (0+s=0+s)from rfl) HP.out ZI hO2 hgO' yB Y8 hcl (fun h=>absurd h (Nat.lt_irrefl _)) ⟨none,0,rfl,fun h=>absurd h (Nat.lt_irrefl _)⟩ ⟨fun i hi=>absurd hi (Nat.not_lt_zero _),fun i j hi=>absurd hi (Nat.not_lt_zero _),fun i j hi=>absurd hi (Nat.not_lt_zero _)⟩ (fun i hi=>absurd hi (Nat.not_lt_zero _)) (fun g hg=>by simp[Value.ownBlock]at hg) (fun k hk=>absurd hk (Nat.not_lt_zero _)) (fun t q ht=>absurd ht (Nat.not_lt_zero _)) DC vU.out
 ·obtain⟨gL,ji,rfl,hL2,YF,hgL⟩:=HLo.out hp;obtain⟨gE,Dl,rfl,hE2,hEt,hgE⟩:=HEo.out (by omega);have hnV:=gV (fun j=>pa (K+j)) true V;rw[<-HNE.out]at hnV;obtain rfl:=haM (by omega);have YG:(picks pa false K).length=m:=HM.out.symm;have hEl:(picks (fun j=>pa (K+j)) true V).length=nE:=HNE.out.symm;have hpl:∀i,i<K->Pk.pieceN blk s K i=Pk.piece blk s i:=fun i hi=>by unfold Pk.pieceN;rw[if_pos hi]
  let hd:Nat->Bool:=fun i=>decide (i<K)&&(pa i).isSome
  have hfe:picks pa false K=(List.range K).filter fun i=> !hd i:=by
   unfold picks;refine List.filter_congr fun i hi=>?_;rw[List.mem_range]at hi;simp only[hd,hi,decide_true,Bool.true_and];cases (pa i).isSome<;>rfl
  refine aQ.seq hC hR (aQ.Qu hC hR bA closed (by kernel_rfl) fun τ d=>?_);refine TN (w:=w2.re τ d) (L:=picks pa false K) (E:=picks (fun j=>pa (K+j)) true V) (kn:=FM blk s hd) (V5:=fun q=>Pk.pieceN blk s K (K+(picks (fun j=>pa (K+j)) true V)[q]?.getD 0)) (c:=m+s) (pa:=pa) (pl:=pl) (pc:=pc) hK hV hs1 (by omega) hp hmK (by omega) hnEV hcE (show Hid (m+s=m+s)from rfl) (by omega) YG hEl (fun x hx=>?_) (fun x hx=>?_) hO2 (fun i hi=>?_) (fun i b hb=>?_) hL2 YF hE2 hEt (fun j hj=>by rw[Nat.add_assoc];exact hP2.cell (K+j) (by omega)) (fun q hq=>?_) ?_
  ·unfold picks at hx;rw[List.mem_filter,List.mem_range]at hx;omega
  ·unfold picks at hx;rw[List.mem_filter,List.mem_range]at hx;exact hx.1
  ·refine⟨_,yB i hi,?_⟩;simp only[FM,hd,hi,decide_true,Bool.true_and];cases hpi:(pa i).isSome with
   |true=>
    rw[if_pos rfl];have:=hP2.has i (by omega) hpi;rw[hpl i hi]at this;exact this
   |false=>
    rw[if_neg (by simp)];have hnone:pa i=none:=by
     cases h:pa i with
     |none=>rfl
     |some q=>rw[h]at hpi;cases hpi
    obtain⟨e1,e2⟩:=hP2.nil i (by omega) hnone;show Value.slice (pa i) (pl i) (pc i)=_;rw[hnone,e1,e2]
  ·simp only[FM]at hb;split at hb
   ·rename_i hdi;obtain rfl:=Option.some.inj hb;simp only[hd,Bool.and_eq_true,decide_eq_true_eq]at hdi;exact⟨Pk.piece_length hblk.out hdi.1,Pk.lD hbl s i⟩
   ·cases hb
  ·obtain⟨q1,q2⟩:=E_ (pa:=fun j=>pa (K+j)) (b:=true) (n:=V) (q:=q) (by omega);exact⟨hP2.has _ (by omega) q2,Pk.d_ hblk.out⟩
  intro rv rg Uy Lr Lp Lm Ll Lj h43 Lh h45 h46 h47 h48 SC h50 SB SA Sz Sv Sr Sn h57 Sm w3 hb3 hrv3 RB hrg3 hrvb;have Yf:Kt (fun _=>False) w2 w3:=⟨hb3.size,fun k hk _=>hb3.block k hk⟩;have kt3:=ZI.trans Yf;have hO3:aB w3 gO 28 cur:=hO2.of_block (Yf.block gO hO2.lt id);have hL3:aB w3 gL 3 ji:=hL2.of_block (Yf.block gL hL2.lt id);have hO2l:=hO2.lt;have hs2:w2.heap.size≥w.heap.size:=ZI.size;have hrs:=ES (blk:=blk) (s:=s) (K:=K) (hd:=hd) (E:=fun i=>(picks (fun j=>pa (K+j)) true V)[i]?.getD 0) hblk.out hbl hK (fun i hi=>?_) (fun i j hi hj e=>?_) m (by rw[<-hfe];exact HM.out) (fun i j=>(dU m s ((picks (fun j=>pa (K+j)) true V)[i]?.getD 0) (FM blk s hd) ((picks pa false K).map (Pk.weight ((picks (fun j=>pa (K+j)) true V)[i]?.getD 0) ·)++Pk.pieceN blk s K (K+(picks (fun j=>pa (K+j)) true V)[i]?.getD 0)) K)[j]?.getD 0) (fun i j=>?_) (fun i j hi hj=>RB.lt i j hi hj);rotate_left
  ·rw[<-hfe,YG]at hi;have:=(E_ (pa:=fun j=>pa (K+j)) (b:=true) (n:=V) (q:=i) (by omega)).1;show _<20;omega
  ·rw[<-hfe,YG]at hi hj;exact AL (by omega) (by omega) e
  ·unfold rowsOf;rw[<-hfe,YG]
  clear hb3;dsimp only;rw[<-hfe]at hrs;exact yY hR ho (c:=m+s) (rg:=rg) hK1 hK hs1 hs hblk hbl HM (show Hid (m+s=m+s)from rfl) HP.out kt3 hO3 hgO' yB Y8 hcl (fun _=>⟨gL,ji,rfl,hL3,YF⟩) hrv3 RB (fun i hi=>Nat.le_trans hs2 (hrg3 i hi)) (fun g hg e=>by have:=hrvb g hg;rw[e]at this;exact absurd this (by show¬w2.heap.size<=gO;omega)) hrs.1 hrs.2.2 DC vU.out
end
end Go.Proofs.YtmfpiodlecapiaaGreatDoor
namespace Go.Proofs.YtmfpiodlecapiaaGreatDoor
open Go.Conc Go.RowKit Go.bB Go.Ren Go.iw Go.Deep
attribute [local go_sem↓] Go.wp_at_zero Go.wp_at_succ
theorem XG{R Dn B0 z:Nat}{ops:Array Oper}{tl:Code}{wz:Nat->Bool}{Dz:Nat->List Nat}{Zy:Array Oper}:jd (bQ Dn Zy) (kM R Dn ops tl (uF B0 wz Dz) z):=⟨fun _ _ _ h=>h,fun s Next τ d h=>U2 Dn Zy s Next τ d h⟩
theorem Hg{R Dn B0 z cp cD cR cz Wg:Nat}{cS:Addr}{wz:Nat->Bool}{Dz:Nat->List Nat}{K V n s pb po cpp:Nat}{pa:Nat->Option Addr}{pl pc:Nat->Nat}{blk:List Nat}{w:World}(hn:Hid (n=K+V))(hK1:1<=K)(hK:K<=20)(hV:V<=20)(hs1:1<=s)(hs:s<=16)(VP:n<=cpp)(hcm:cpp<=9223372036854775807)(hblk:Hid (blk.length=K*s))(hbl:∀x∈blk,x<256)
  (hP:zi w pb po K V s pa pl pc blk)(hB0:B0<=w.heap.size)(hcp:w.cell? ⟨cp,0,none⟩=some (.slice (some ⟨pb,po,none⟩) n cpp))(hcS:w.cell? cS=some (.int .i64 V))(YC:w.cell? ⟨cD,0,none⟩=some (.chan (some Dn)))(hcR:w.cell? ⟨cR,0,none⟩=some (.chan (some R)))(hcz:w.cell? ⟨cz,0,none⟩=some (.int .i64 z))
  (hwz:wz z=dV pa K V)(hDz:Dz z=blk):
  aQ Tryz.prog aW bn jf (bQ Dn (aZ (aN 2 (Tryz.f187.body.getD .skip)))) (kM R Dn (aZ (kE Tryz.f89)) (je Tryz.f89) (uF B0 wz Dz) z) 0 ⟨J8,nI ⟨Wg,0,none⟩ ⟨cp,0,none⟩ cS ⟨cD,0,none⟩ ⟨cR,0,none⟩ ⟨cz,0,none⟩,[.code (kR Tryz.f89)],false⟩ [] w:=by
 have hC:=closed2;have hR:jd (bQ Dn (aZ (aN 2 (Tryz.f187.body.getD .skip)))) (kM R Dn (aZ (kE Tryz.f89)) (je Tryz.f89) (uF B0 wz Dz) z):=XG;have e0:nI ⟨Wg,0,none⟩ ⟨cp,0,none⟩ cS ⟨cD,0,none⟩ ⟨cR,0,none⟩ ⟨cz,0,none⟩=#[.pointer (some ⟨Wg,0,none⟩),.pointer (some ⟨cp,0,none⟩),.pointer (some cS),.pointer (some ⟨cD,0,none⟩),.pointer (some ⟨cR,0,none⟩),.pointer (some ⟨cz,0,none⟩),undef,undef,undef,undef,undef,undef,undef,undef,undef,undef,undef,undef,undef,undef,undef,undef,undef,undef,undef]:=rfl;rw[e0];clear e0;have HP:=hide hP;clear hP;conv=>arg 8;simp only[Tryz.f89,kR,tO,Option.getD_some,J8]
 refine aQ.seq hC hR (aQ.reg hC hR (l:= [0,1,2,3,4,5,6,7,8]) rfl ?_);refine aQ.op hC rfl rfl (fun τ d Kx hKx=>?_);have q1:(w.re τ d).cell? ⟨cp,0,none⟩=some (.slice (some ⟨pb,po,none⟩) n cpp):=hcp;go_simp;refine hKx _ _ (aQ.re hR ?_ _ _);clear hKx q1;try walk_nrm
 refine aQ.op hC rfl rfl (fun τ d Kx hKx=>?_);have q1:(w.re τ d).cell? cS=some (.int .i64 V):=hcS;go_simp;refine hKx _ _ (aQ.re hR ?_ _ _);clear hKx q1;try walk_nrm
 refine aQ.op hC rfl rfl (fun τ d Kx hKx=>?_);have q1:(w.re τ d).cell? ⟨cD,0,none⟩=some (.chan (some Dn)):=YC;go_simp;refine hKx _ _ (aQ.re hR ?_ _ _);clear hKx q1;try walk_nrm
 refine aQ.dM hC hR rfl rfl rfl Tryz.func91 rfl rfl (T':=#[.slice (some ⟨pb,po,none⟩) n cpp,.int .i64 V,.chan (some Dn),undef,undef,undef,undef,undef,undef,undef,undef,undef,undef,undef,undef,undef,undef,undef,undef,undef,undef,undef,undef,undef,undef,undef,undef,undef,undef,undef,undef,undef,undef,undef,undef,undef,undef,undef,undef,undef,undef,undef,undef,undef,undef,undef,undef,undef,undef,undef,undef,undef,undef,undef,undef,undef,undef,undef,undef,undef,undef,undef,undef,undef,undef,undef,undef,undef,undef,undef,undef,undef,undef,undef,undef,undef,undef,undef,undef,undef,undef,undef,undef]) (by simp[Act.eval,Tryz.f91]) ?_;refine JW hR (o:=?o) ?ho hn hK1 hK hV hs1 hs VP hcm hblk hbl HP.out ?hend
 case ho=>rfl
 case hend=>
  intro m' da dl dc wh w' kt hres;have keep:∀(a:Addr) (v:Value),w.cell? a=some v->w'.cell? a=some v:=fun a v h=>by
   have e:=kt.block a.block (bG h) id;unfold World.cell? at h⊢;rw[e];exact h
  have hcR':=keep _ _ hcR;have hcz':=keep _ _ hcz;have hcD':=keep _ _ YC;try walk_nrm
  iterate 5 (refine aQ.op hC rfl rfl (fun τ d Kx hKx=>?_);go_simp;refine hKx _ _ (aQ.re hR ?_ _ _);clear hKx;try walk_nrm)
  refine aQ.aR hC hR (aQ.seq hC hR ?_);refine aQ.run hC hR bA closed (by kernel_rfl) fun τ d=>?_;have q1:(w'.re τ d).cell? ⟨cR,0,none⟩=some (.chan (some R)):=hcR';have q2:(w'.re τ d).cell? ⟨cz,0,none⟩=some (.int .i64 z):=hcz';have q3:(w'.re τ d).cell? ⟨cD,0,none⟩=some (.chan (some Dn)):=hcD';go_wp2;refine aQ.re hR ?_ _ _;refine aQ.seq hC hR (aQ.reg hC hR (l:= [0,1,2,3]) rfl ?_);refine aQ.stop ⟨rfl,_,rfl,rfl,rfl,rfl,da,dl,dc,wh,rfl,fun hm=>?_⟩;obtain⟨h1,h2⟩:=hres hm;refine⟨by rw[hwz];exact h1,fun hw=>?_⟩;obtain⟨k1,g,k2,k3,k4,k5⟩:=h2 hw;rw[hDz];refine⟨k1,fun hd=>⟨g,0,k2,Nat.le_trans hB0 k3,⟨0,?_,k4 0 (by omega)⟩,fun j hj=>?_⟩⟩
  ·show(w'.cell? ⟨g,0,none⟩).isSome=true;rw[k5 0 (by omega)];rfl
  ·rw[Nat.zero_add];exact k5 j hj
end Go.Proofs.YtmfpiodlecapiaaGreatDoor
namespace Go.Proofs.YtmfpiodlecapiaaGreatDoor
open Go.Conc Go.RowKit Go.bB Go.Ren Go.iw Go.Deep
structure BD(p:World)(K V s n pb:Nat)(pa:Nat->Option Addr)(pl pc:Nat->Nat)(blk:List Nat):Prop where
 num:n=K+V
 row:aB p pb 28 ((List.range n).map fun i=>Value.slice (pa i) (pl i) (pc i))
 nil:∀i,i<n->pa i=none->pl i=0/\pc i=0
 has:∀i,i<n->(pa i).isSome=true->∃g l,pa i=some ⟨g,0,none⟩/\aB p g 5 (bN l)/\pl i=s/\l.length=pc i/\s<=pc i/\l.take s=Pk.pieceN blk s K i/\∀x∈l,x<256
theorem QE{Keep:Nat->Bool}{w:World}{b i:Nat}{v:Value}(hk:Keep b=true)(h:w.cell? ⟨b,i,none⟩=some v):(priv Keep w).cell? ⟨b,i,none⟩=some v:=by
 simp only[World.cell?,nR]at h⊢;cases ho:w.heap[b]? with
 |none=>rw[ho]at h;cases h
 |some o=>
  rw[ho]at h;cases o with
  |cells c e fz=>simpa[hk,Xf]using h
  |_=>simp at h
theorem Nz{Keep:Nat->Bool}{w:World}(hk:∀b i v,Keep b=true->w.cell? ⟨b,i,none⟩=some v->SV (Array.range w.heap.size) v v)(hrow:∀b,Keep b=true->b<w.heap.size->∃c e fz,w.heap[b]? =some (.cells c e fz)):WR (Array.range w.heap.size) (priv Keep w) (priv Keep w):=by
 have h:=KI hk hrow;have hs:(priv Keep w).heap.size=w.heap.size:=by simp[priv]
 refine⟨h.size,h.rows,h.inj,fun b c hb=>by rw[hs];exact h.low b c hb,fun b i v hv=>?_,fun b i c h1 h2 h3=>?_,rfl,rfl⟩
 ·obtain⟨k1,k2,_,k4⟩:=lC hv;exact⟨b,v,eZ k4,hv,hk b i v k1 k2⟩
 ·rw[(iF h3).1];exact h2
theorem OY{p:World}{K V s n pb:Nat}{pa:Nat->Option Addr}{pl pc:Nat->Nat}{blk:List Nat}(h:BD p K V s n pb pa pl pc blk){i:Nat}(hi:i<n)(hs:(pa i).isSome=true):
  ∃g,pa i=some ⟨g,0,none⟩/\pl i=s/\s<=pc i/\(∀x∈Pk.pieceN blk s K i,x<256)/\∀j,j<s->p.cell? ⟨g,j,none⟩=some (.int .u8 (((Pk.pieceN blk s K i)[j]?.getD 0:Nat):Int)):=by
 obtain⟨g,l,h1,h2,h3,h4,h5,h6,h7⟩:=h.has i hi hs;refine⟨g,h1,h3,h5,fun x hx=>by rw[<-h6]at hx;exact h7 x (List.mem_of_mem_take hx),fun j hj=>?_⟩;have:=h2.cell j _ (fV (by omega));rw[this,<-h6,List.getElem?_take,if_pos hj]
theorem OU{p w:World}{R Dn B0 z cp cD cR cz:Nat}{YR:Nat}{wz:Nat->Bool}{Dz:Nat->List Nat}{K V s n pb:Nat}{pa:Nat->Option Addr}{pl pc:Nat->Nat}{blk:List Nat}{Wg:Nat}(hB:BD p K V s n pb pa pl pc blk)(hK1:1<=K)(hK:K<=20)(hV:V<=20)(hs1:1<=s)(hs:s<=16)(hblk:blk.length=K*s)(hbl:∀x∈blk,x<256)
  (hRn:R<p.heap.size)(hDn:Dn<p.heap.size)(hWg:Wg<w.heap.size)(hcR:p.heap[cR]? =some (.cells #[.chan (some R)] 146))(YC:p.heap[cD]? =some (.cells #[.chan (some Dn)] 147))(hcS:p.heap[YR]? =some (.cells #[.int .i64 V] 3))
  (hwz:wz z=dV pa K V)(hDz:Dz z=blk)(hB0:B0<=w.heap.size)(hpw:p.heap.size<=w.heap.size)
  (hrows:∀b i v,p.cell? ⟨b,i,none⟩=some v->w.heap[b]? =p.heap[b]?)(hcz:w.heap[cz]? =some (.cells #[.int .i64 z] 3))(hcp:w.heap[cp]? =some (.cells #[.slice (some ⟨pb,0,none⟩) n n] 25)):
  ∃Keep:Nat->Bool,Keep cz=true/\(∀b i v,Keep b=true->w.cell? ⟨b,i,none⟩=some v->SV (Array.range w.heap.size) v v)/\(∀b,Keep b=true->b<w.heap.size->∃c e fz,w.heap[b]? =some (.cells c e fz))/\(∀b,Keep b=true->(∃i v,p.cell? ⟨b,i,none⟩=some v)\/b=cz\/b=cp)/\
   WT Tryz.prog (bQ Dn (aZ (aN 2 (Tryz.f187.body.getD .skip)))) (kM R Dn (aZ (kE Tryz.f89)) (je Tryz.f89) (uF B0 wz Dz) z) ⟨0,⟨J8,nI ⟨Wg,0,none⟩ ⟨cp,0,none⟩ ⟨YR,0,none⟩ ⟨cD,0,none⟩ ⟨cR,0,none⟩ ⟨cz,0,none⟩,[.code (kR Tryz.f89)],false⟩,[],priv Keep w⟩:=by
 classical
 have Qw:∀(b:Nat) (c:Array Value) (e:TypeId) (fz:Nat×Nat),p.heap[b]? =some (.cells c e fz)->0<c.size->w.heap[b]? =some (.cells c e fz):=fun b c e fz h h0=>by
  have hc:p.cell? ⟨b,0,none⟩=some c[0]:=by simp[World.cell?,h,h0]
  rw[hrows b 0 _ hc];exact h
 have cellP:∀(b:Nat) (c:Array Value) (e:TypeId) (fz:Nat×Nat),p.heap[b]? =some (.cells c e fz)->0<c.size->∃i v,p.cell? ⟨b,i,none⟩=some v:=fun b c e fz h h0=>⟨0,c[0],by simp[World.cell?,h,h0]⟩;have hn1:0<n:=by have:=hB.num;omega
 have hsz:((List.range n).map fun i=>Value.slice (pa i) (pl i) (pc i)).toArray.size=n:=by simp
 have wR:=Qw cR _ _ _ hcR (by simp);have wD:=Qw cD _ _ _ YC (by simp);have wS:=Qw YR _ _ _ hcS (by simp);have wP:=Qw pb _ _ _ hB.row (by rw[hsz];exact hn1);have ltOf:∀(b:Nat) (o:Obj),w.heap[b]? =some o->b<w.heap.size:=fun b o h=>(Array.getElem?_eq_some_iff.1 h).1;have hear:∀i,i<n->∀a,pa i=some a->∃g l,a=⟨g,0,none⟩/\w.heap[g]? =some (.cells (bN l).toArray 5 (0,0))/\p.heap[g]? =some (.cells (bN l).toArray 5 (0,0))/\0<(bN l).toArray.size:=fun i hi a ha=>by
  obtain⟨g,l,h1,h2,h3,h4,h5,_⟩:=hB.has i hi (by rw[ha];rfl);rw[ha]at h1;have h0:0<(bN l).toArray.size:=by simp[bN];omega
  exact⟨g,l,Option.some.inj h1,Qw g _ _ _ h2 h0,h2,h0⟩
 let Kp:Nat->Prop:=fun b=>b=cz\/b=cp\/b=YR\/b=cD\/b=cR\/b=pb\/∃i,i<n/\pa i=some ⟨b,0,none⟩
 have what:∀b,Kp b->∃c e fz,w.heap[b]? =some (.cells c e fz)/\(∀(i:Nat) v,c[i]? =some v->SV (Array.range w.heap.size) v v)/\((∃i v,p.cell? ⟨b,i,none⟩=some v)\/b=cz\/b=cp):=by
  intro b hb;have one:∀(x:Value),SV (Array.range w.heap.size) x x->∀(i:Nat) v,(#[x]:Array Value)[i]? =some v->SV (Array.range w.heap.size) v v:=fun x hx i v hv=>by
   match i,hv with
   |0,hv=>obtain rfl:=Option.some.inj hv;exact hx
   |i+1,hv=>simp at hv
  rcases hb with rfl|rfl|rfl|rfl|rfl|rfl|⟨i,hi,ha⟩
  ·exact⟨_,_,_,hcz,one _ (.int _ _),.inr (.inl rfl)⟩
  ·exact⟨_,_,_,hcp,one _ (.sl _ _ ⟨eZ (ltOf pb _ wP),rfl,rfl⟩),.inr (.inr rfl)⟩
  ·exact⟨_,_,_,wS,one _ (.int _ _),.inl (cellP _ _ _ _ hcS (by simp))⟩
  ·exact⟨_,_,_,wD,one _ (.chan (eZ (by omega))),.inl (cellP _ _ _ _ YC (by simp))⟩
  ·exact⟨_,_,_,wR,one _ (.chan (eZ (by omega))),.inl (cellP _ _ _ _ hcR (by simp))⟩
  ·refine⟨_,_,_,wP,fun i v hv=>?_,.inl (cellP _ _ _ _ hB.row (by rw[hsz];exact hn1))⟩;have hi:i<n:=by have:=(Array.getElem?_eq_some_iff.1 hv).1;rw[hsz]at this;exact this
   have e:v= .slice (pa i) (pl i) (pc i):=by simpa[hi]using hv.symm
   subst e;cases hp:pa i with
   |none=>exact .Dy _ _
   |some a=>
    obtain⟨g,l,rfl,h2,_⟩:=hear i hi a hp;exact .sl _ _ ⟨eZ (ltOf g _ h2),rfl,rfl⟩
  ·obtain⟨g,l,e,h2,h3,h4⟩:=hear i hi _ ha;simp only[Addr.mk.injEq,and_true]at e;subst e;refine⟨_,_,_,h2,fun j v hv=>?_,.inl (cellP _ _ _ _ h3 h4)⟩;simp only[bN,List.getElem?_toArray,List.getElem?_map]at hv;cases hl:l[j]? with
   |none=>rw[hl]at hv;cases hv
   |some x=>rw[hl]at hv;obtain rfl:=Option.some.inj hv;exact .int _ _
 have kz:decide (Kp cz)=true:=decide_eq_true (.inl rfl);have hk:∀b i v,decide (Kp b)=true->w.cell? ⟨b,i,none⟩=some v->SV (Array.range w.heap.size) v v:=fun b i v hb hv=>by
  obtain⟨c,e,fz,h1,h2,_⟩:=what b (of_decide_eq_true hb);refine h2 i v ?_;simpa[World.cell?,h1]using hv
 have hrow:∀b,decide (Kp b)=true->b<w.heap.size->∃c e fz,w.heap[b]? =some (.cells c e fz):=fun b hb _=>by
  obtain⟨c,e,fz,h1,_⟩:=what b (of_decide_eq_true hb);exact⟨c,e,fz,h1⟩
 refine⟨fun b=>decide (Kp b),kz,hk,hrow,fun b hb=>?_,?_⟩
 ·obtain⟨_,_,_,_,_,h⟩:=what b (of_decide_eq_true hb);exact h
 have keep:∀b,Kp b->∀i v,w.cell? ⟨b,i,none⟩=some v->(priv (fun b=>decide (Kp b)) w).cell? ⟨b,i,none⟩=some v:=fun b hb i v hv=>QE (decide_eq_true hb) hv;have hps:(priv (fun b=>decide (Kp b)) w).heap.size=w.heap.size:=by simp[priv]
 have hpcs:zi (priv (fun b=>decide (Kp b)) w) pb 0 K V s pa pl pc blk:=by
  refine⟨fun i hi=>?_,fun i hi=>hB.nil i (by have:=hB.num;omega),fun i hi hso=>?_⟩
  ·refine keep pb (.inr (.inr (.inr (.inr (.inr (.inl rfl)))))) _ _ ?_;have hi':i<n:=by have:=hB.num;omega
   simp[World.cell?,wP,hi']
  ·have hi':i<n:=by have:=hB.num;omega
   obtain⟨g,h1,h2,h3,h4,h5⟩:=OY hB hi' hso;have hl:=Pk.d_ (n:=i) hblk;rw[h1,h2];refine⟨g,0,pc i,by rw[hl],by rw[hl];exact h3,h4,fun j hj=>?_⟩;rw[hl]at hj;refine keep g (.inr (.inr (.inr (.inr (.inr (.inr ⟨i,hi',h1⟩)))))) _ _ ?_;rw[Nat.zero_add];have h6:=h5 j hj;have e:=hrows g j _ h6;unfold World.cell? at h6⊢;rw[e];exact h6
 have hti:=Hg (R:=R) (Dn:=Dn) (B0:=B0) (z:=z) (cp:=cp) (cD:=cD) (cR:=cR) (cz:=cz) (Wg:=Wg) (cS:=⟨YR,0,none⟩) (wz:=wz) (Dz:=Dz) (n:=n) (cpp:=n) (w:=priv (fun b=>decide (Kp b)) w) hB.num hK1 hK hV hs1 hs (Nat.le_refl _) (by have:=hB.num;omega) hblk hbl hpcs (by rw[hps];exact hB0)
  (keep cp (.inr (.inl rfl)) _ _ (by simp[World.cell?,hcp])) (keep YR (.inr (.inr (.inl rfl))) _ _ (by simp[World.cell?,wS])) (keep cD (.inr (.inr (.inr (.inl rfl)))) _ _ (by simp[World.cell?,wD])) (keep cR (.inr (.inr (.inr (.inr (.inl rfl))))) _ _ (by simp[World.cell?,wR])) (keep cz (.inl rfl) _ _ (by simp[World.cell?,hcz])) hwz hDz
 refine hti ⟨Array.range w.heap.size,.one ⟨rfl,rfl,rfl,?_,?_⟩,Nz hk hrow⟩
 ·exact Kq hWg (ltOf cp _ hcp) (ltOf YR _ wS) (ltOf cD _ wD) (ltOf cR _ wR) (ltOf cz _ hcz)
 ·intro x hx;simp only[List.mem_singleton]at hx;subst hx;kernel_rfl
end Go.Proofs.YtmfpiodlecapiaaGreatDoor
