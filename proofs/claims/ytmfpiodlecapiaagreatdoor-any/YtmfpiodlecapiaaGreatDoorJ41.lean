import Derived.Test.YtmfpiodlecapiaaGreatDoorJ40
set_option linter.unusedSimpArgs false
set_option maxHeartbeats 4000000
set_option maxRecDepth 100000
namespace Go.Proofs.YtmfpiodlecapiaaGreatDoor
open Go.RowKit Go.Deep
theorem mF(s:ByteArray)(i:Nat)(h:i<s.size):(s.get! i).toNat=(bytesOf s)[i]?.getD 0:=by
 unfold bytesOf;have hi:i<s.data.size:=h;have e:s.data[i]! =s.data[i]:=getElem!_pos s.data i hi;have e2:s.data[i]? =some s.data[i]:=Array.getElem?_eq_getElem hi;simp[ByteArray.get!,e,e2]
theorem yU(s:ByteArray)(i:Nat):(bytesOf s)[i]?.getD 0<256:=by
 by_cases h:i<s.size
 ·rw[<-mF s i h];exact UInt8.toNat_lt _
 ·rw[List.getElem?_eq_none (by rw[bytesOf_length];omega)];simp
theorem xI{n:Nat}(h:n<64):(65<=Tx.rn n/\Tx.rn n<=90)\/(97<=Tx.rn n/\Tx.rn n<=122)\/(945<=Tx.rn n/\Tx.rn n<=956):=by
 unfold Tx.rn;split
 ·omega
 ·split<;>omega
theorem JN(s:ByteArray)(i:Nat)(h:i<s.size)(hc:128<=(bytesOf s)[i]?.getD 0):
  (Tx.greek (bytesOf s) i/\Utf8.decode s i=(768+(bytesOf s)[i+1]?.getD 0,2))\/
  (¬Tx.greek (bytesOf s) i/\128<=(Utf8.decode s i).1/\¬(945<=(Utf8.decode s i).1/\(Utf8.decode s i).1<=956)):=by
 have h0:=mF s i h;have hb0:=yU s i;have hb1:=yU s (i+1);have h1:i+1<s.size->(s.get! (i+1)).toNat=(bytesOf s)[i+1]?.getD 0:=mF s (i+1);have hl:=bytesOf_length s;unfold Utf8.decode;simp only[Nat.add_zero,h0];rw[if_neg (by omega)];unfold Tx.greek;rw[hl];generalize (bytesOf s)[i]?.getD 0=c at*;generalize (bytesOf s)[i+1]?.getD 0=c' at*;by_cases hn:i+1<s.size
 ·rw[h1 hn];clear h1 h0;generalize (s.get! (i+2)).toNat=c2;generalize (s.get! (i+3)).toNat=c3;split
  ·rename_i hx;simp only[Bool.and_eq_true,beq_iff_eq,decide_eq_true_eq]at hx;split
   ·by_cases hg:c=206/\177<=c'/\c'<=188
    ·left;refine⟨⟨hg.1,hn,hg.2⟩,?_⟩;simp only[Prod.mk.injEq,and_true];omega
    ·right;refine⟨fun hh=>hg ⟨hh.1,hh.2.2⟩,by omega,?_⟩;show¬(945<=c%32*64+c'%64/\c%32*64+c'%64<=956);omega
   ·right;refine⟨fun hh=>?_,by decide,by decide⟩;omega
  ·rename_i hx;simp only[Bool.and_eq_true,beq_iff_eq,decide_eq_true_eq]at hx;right;refine⟨fun hh=>hx ⟨by omega,hn,by omega⟩,?_⟩;split
   ·split
    ·rename_i hy;simp only[Bool.and_eq_true,decide_eq_true_eq]at hy;constructor<;>omega
    ·exact⟨by decide,by decide⟩
   ·split
    ·split
     ·rename_i hy;simp only[Bool.and_eq_true,decide_eq_true_eq]at hy;constructor<;>omega
     ·exact⟨by decide,by decide⟩
    ·exact⟨by decide,by decide⟩
 ·right;refine⟨fun hh=>hn hh.2.1,?_⟩;simp only[hn,decide_false,Bool.false_and,Bool.and_false,Bool.false_eq_true,if_false];exact⟨by decide,by decide⟩
theorem JM(s:ByteArray)(i:Nat)(h:i<s.size):
  (Tx.numAt (bytesOf s) i= -1/\((Utf8.decode s i).1=32\/(Utf8.decode s i).1=10)/\(Utf8.decode s i).2=1)\/
  (∃n:Nat,n<64/\Tx.numAt (bytesOf s) i=(n:Int)/\(Utf8.decode s i).1=Tx.rn n/\(Utf8.decode s i).2=Tx.gq (bytesOf s) i)\/
  (Tx.numAt (bytesOf s) i= -2/\(Utf8.decode s i).1≠32/\(Utf8.decode s i).1≠10/\∀n:Nat,n<64->Tx.rn n≠(Utf8.decode s i).1):=by
 have h0:=mF s i h;have hb0:=yU s i;by_cases hc:(bytesOf s)[i]?.getD 0<128
 ·have hd:Utf8.decode s i=((bytesOf s)[i]?.getD 0,1):=by
   unfold Utf8.decode;simp only[Nat.add_zero,h0];rw[if_pos hc]
  have VF:¬Tx.greek (bytesOf s) i:=fun hg=>by have:=hg.1;omega
  have hsz:Tx.gq (bytesOf s) i=1:=by unfold Tx.gq;rw[if_neg VF]
  rw[hd,hsz];unfold Tx.numAt;simp only[VF,if_false];generalize (bytesOf s)[i]?.getD 0=c at*;by_cases h1:c=32\/c=10
  ·left;rw[if_pos h1];exact⟨rfl,h1,trivial⟩
  ·rw[if_neg h1];by_cases h2:65<=c/\c<=90
   ·right;left;rw[if_pos h2];refine⟨c-65,by omega,by omega,?_,trivial⟩;show c=_;unfold Tx.rn;rw[if_pos (by omega)];omega
   ·rw[if_neg h2];by_cases h3:97<=c/\c<=122
    ·right;left;rw[if_pos h3];refine⟨c-71,by omega,by omega,?_,trivial⟩;show c=_;unfold Tx.rn;rw[if_neg (by omega),if_pos (by omega)];omega
    ·right;right;rw[if_neg h3];refine⟨rfl,fun e=>h1 (Or.inl e),fun e=>h1 (Or.inr e),fun n hn e=>?_⟩;have:=xI hn;have e':Tx.rn n=c:=e;omega
 ·rcases JN s i h (by omega)with⟨hg,hd⟩|⟨hg,h1,h2⟩
  ·right;left;have hg2:=hg.2.2;refine⟨(bytesOf s)[i+1]?.getD 0-125,by omega,?_,?_,?_⟩
   ·unfold Tx.numAt;rw[if_neg (by omega),if_neg (by omega),if_neg (by omega),if_pos hg];omega
   ·rw[hd];unfold Tx.rn;rw[if_neg (by omega),if_neg (by omega)];show 768+_=_;omega
   ·rw[hd];unfold Tx.gq;rw[if_pos hg]
  ·right;right;refine⟨?_,by omega,by omega,fun n hn e=>?_⟩
   ·unfold Tx.numAt;rw[if_neg (by omega),if_neg (by omega),if_neg (by omega),if_neg hg]
   ·have:=xI hn;omega
theorem bM.iterAt{w:World}{k pos:Nat}{s:ByteArray}{e:TypeId}{v:Value}{xs:List Value}(h:bM w e v xs)(hk:∀g,v.ownBlock=some g->k<g):bM (w.iterAt k s pos) e v xs:=
 h.of_block (fun g hg=>Lib.iterAt_other w k g s pos (by have:=hk g hg;omega))
theorem Nw(s:ByteArray)(N:Nat)(hN:Hid (s.size=N))(yD:N<=100000000)(w:World)(ha:Alpha w):
  Calls Tryz.prog 44 #[.string s] w fun e w'=>
   ((∃l v,Tx.eY (bytesOf s)=some l/\e= .returned v/\bM w' 5 v (bN l)/\(∀k,v.ownBlock=some k->w.heap.size<k))\/(Tx.eY (bytesOf s)=none/\e= .panicked [{v:=JD 3,recovered:=false}]))/\Below w.heap.size w w':=by
 obtain⟨i0,hi,hz0,hz1,hz2⟩:=info_parts Tryz.infoByte;have HA:=hide ha;have HS:=hide ha.size;clear ha;have Bz:Hid ((bytesOf s).length=N):=by show _=_;rw[bytesOf_length];exact hN.out
 go_enter Tryz.func44,Tryz.ntmps44;go_wp2_with fail
 go_loopw [3,4,5] (fun v x y wr=>∃(pos c m X:Nat) (t:List Nat),wr.heap[w.heap.size]? =some (.stringIter s pos)/\Tx.mM (bytesOf s) t pos/\pos<=N/\t.length<=pos/\c=6*t.length%8/\m=6*t.length/8/\Hid (X=Tx.val (Tx.mK t) (8*m) c)/\x= .int .i64 X/\y= .int .i64 c/\
   bM wr 5 v (bN (Tx.fM t))/\(∀k,v.ownBlock=some k->w.heap.size<k)/\Below w.heap.size w wr)
  (fun _ _ _ wr=>N-wr.iterPos w.heap.size)
 case atStart=>
  refine⟨0,0,0,0,[],?_,Tx.Ag _,by omega,by simp,rfl,rfl,rfl,rfl,rfl,iW _ _,fun k hk=>by simp[Value.ownBlock]at hk,(Below.refl _ w).alloc (Nat.le_refl _) _⟩;have:=World.iter_heap w s 0;simpa using this
 case round=>
  obtain⟨pos,c,m,X,t,hit,hup,hpN,htp,hcc,hmm,hX,rfl,rfl,hown,hvb,hbw⟩:=hrel;by_cases hp:pos<s.size
  ·have hpN':pos<N:=by rw[<-hN.out];exact hp
   have hpl:pos<(bytesOf s).length:=by rw[Bz.out];exact hpN'
   have hit2:=Lib.iterAt_heap wr w.heap.size s pos (pos+(Utf8.decode s pos).2) hit;have U6:=hown.iterAt (s:=s) (pos:=pos+(Utf8.decode s pos).2) hvb;have bw1:=Lib.below_iterAt hbw (Nat.le_refl _) s (pos+(Utf8.decode s pos).2);have hsz1:(wr.iterAt w.heap.size s (pos+(Utf8.decode s pos).2)).heap.size=wr.heap.size:=Lib.iterAt_size _ _ _ _;have al1:=HA.out.below bw1 HS.out;have hnx:∀ty,(Instr.next (.pointer (some ⟨w.heap.size,0,none⟩)) true ty).run Tryz.prog wr=_:=fun ty=>Lib.run_next_any_at wr w.heap.size s pos ty hit hp;have hdn:=JM s pos hp;have Lc:Hid (∀w2:World,(∃q,pos<q/\w2.heap[w.heap.size]? =some (.stringIter s q))->N-w2.iterPos w.heap.size<N-wr.iterPos w.heap.size):=by
    rintro w2 ⟨q,hq,h2⟩;simp only[World.iterPos,hit,h2];omega
   generalize (Utf8.decode s pos).1=R at hnx hdn;generalize (Utf8.decode s pos).2=D at hnx hdn hit2 U6 bw1 al1 hsz1;generalize wr.iterAt w.heap.size s (pos+D)=w1 at hnx hit2 U6 bw1 al1 hsz1;have HI:=hide hit2;have HO:=hide U6;have HB:=hide bw1;have HL:=hide al1;have HU:=hide hup;have HV:=hide hvb
   have HWS:Hid (w.heap.size<w1.heap.size):=by
    show _<_;exact(Array.getElem?_eq_some_iff.1 hit2).1
   clear hit2 U6 bw1 al1 hsz1 hit hown hbw hup hvb;rcases hdn with⟨hn,hR,hD⟩|⟨n,VG,hn,hR,hD⟩|⟨hn,Uw,hR2,hR⟩
   ·have HI2:Hid (w1.heap[w.heap.size]? =some (.stringIter s (pos+1))):=by rw[<-hD];exact HI.out
    clear HI hD;have Zi:=hide (HU.out.blank hpl hn);clear HU hn;rcases hR with rfl|rfl
    ·go_wp2_with fail
     go_roundw
     case rel=>exact⟨pos+1,c,m,X,t,HI2.out,Zi.out,by omega,by omega,hcc,hmm,hX.out,rfl,rfl,HO.out,HV.out,HB.out⟩
     case measure=>exact Lc.out _ ⟨pos+1,by omega,HI2.out⟩
    ·go_wp2_with fail
     go_roundw
     case rel=>exact⟨pos+1,c,m,X,t,HI2.out,Zi.out,by omega,by omega,hcc,hmm,hX.out,rfl,rfl,HO.out,HV.out,HB.out⟩
     case measure=>exact Lc.out _ ⟨pos+1,by omega,HI2.out⟩
   ·have hsz:=Tx.Nj (bytesOf s) pos hpl;have hsp:=Tx.xB (bytesOf s) pos;rw[Bz.out]at hsz;rw[<-hD]at hsz hsp;have Zi:=hide (HU.out.letter hpl hn);rw[<-hD]at Zi;clear HU hn hD;subst hR;have hrr:=xI VG;have NO:=hide (N8 n VG w1 HL.out);have hst:=Tx.PE (t:=t) VG;rw[<-hmm,<-hcc,<-hX.out]at hst;have hXl:X<256:=by rw[hX.out];exact Nat.lt_of_lt_of_le (Tx.jL (Tx.wK t) _ c) (Nat.pow_le_pow_right (by decide) (by omega:c<=8))
    have hor:bits .or .i64 ((X:Int)*64) (n:Int)=((X*64+n:Nat):Int):=by
     have h1:=Jq (X*64) n (by omega) (by omega);rw[I9 X (k:=6) VG]at h1;rw[show((X*64:Nat):Int)=(X:Int)*64 by omega]at h1;exact h1
    obtain⟨Y,hY⟩:∃Y,Y=X*64+n:=⟨_,rfl⟩;have hYl:Y<16448:=by omega
    rw[<-hY]at hst hor;clear hY;have HST:=hide hst;have hlen:Hid ((t++ [n]).length=t.length+1):=by show _=_;simp
    clear hst;generalize (Tx.rn n:Nat)=r at NO hrr hnx;have e32:((r:Int)==32)=false:=by simp;omega
    have e10:((r:Int)==10)=false:=by simp;omega
    by_cases h8:8<=c+6
    ·obtain⟨q,hq⟩:∃q,c+6=8+q:=⟨c+6-8,by omega⟩;have hq5:q<=5:=by omega
     have k8:(8:Int)<=(c:Int)+6:=by omega
     have hsub:(c:Int)+6-8=(q:Int):=by omega
     have hq0:(0:Int)<=(q:Int):=by omega
     have HV8:Hid (Y/2^q=Tx.val (Tx.mK (t++ [n])) (8*m) 8):=by show _=_;rw[<-HST.out,hq,Tx.BG (Tx.wK _)]
     have HM8:Hid (Y%2^q=Tx.val (Tx.mK (t++ [n])) (8*m+8) q):=by show _=_;rw[<-HST.out,hq,Tx.val_mod (Tx.wK _)]
     obtain⟨V,hV⟩:∃V,V=Y/2^q:=⟨_,rfl⟩;have hVl:V<256:=by rw[hV,HV8.out];exact Tx.jL (Tx.wK _) _ 8
     have hdiv:(Y:Int)/2^q=(V:Int):=by rw[hV];simp
     rw[<-hV]at HV8;clear hV;have u8:=bZ (V:Int) (by omega) (by omega);have LW:=hide (uY Y q (by omega) (by omega));obtain⟨X',hX'⟩:∃X',X'=Y%2^q:=⟨_,rfl⟩;rw[<-hX']at LW HM8;clear hX';obtain⟨av,cv,hsh⟩:=HO.out.shape;rw[aU,Tx.kV,<-hmm]at hsh;subst hsh;have hml:Hid ((bN (Tx.fM t)).length=m):=by show _=_;rw[aU,Tx.kV,hmm]
     have hm2:m<=100000000:=by omega
     have HCC:Hid (c=6*t.length%8):=hcc;have HMM:Hid (m=6*t.length/8):=hmm;have HQ:Hid (c+6=8+q):=hq;clear hcc hmm hq;go_wp2_with (first|(go_at_call 85;refine NO.out.mono ?_;rintro _ wq ⟨rfl,hq⟩;have hq2:=hq.symm;clear hq;subst hq2)|(at_builtin;(refine dn _ rfl (.tmp 30) (.tmp 35) 28 rfl 5 i0 (.int .u8 0) 1 Tryz.underlying28 hi hz0 hz1 hz2 rfl _ (bN (Tx.fM t)) rfl (HO.out.alloc _) ⟨w1.heap.size,0,none⟩ 1 1 [.int .u8 (V:Nat)] rfl rfl (lW _ _ _ _ rfl) (by intro u hu;simp at hu;subst hu;rfl) (by rw[hml.out];unfold maxLen;omega) (by rw[hml.out];omega) ?_)))
     intro v' w2 happ;replace happ:=hide happ;go_wp2_with (go_at_call 71;refine(LW.out _).mono ?_;rintro _ wq ⟨rfl,hq⟩;have hq2:=hq.symm;clear hq;subst hq2)
     have HI3:Hid (w2.heap[w.heap.size]? =some (.stringIter s (pos+D))):=by
      show _=_;have hg:=happ.out.grown.block w.heap.size (by have:=HWS.out;simp;omega) (fun e=>by have:=HV.out _ e.symm;omega);rw[hg,blk_alloc_lt _ _ _ HWS.out];exact HI.out
     go_roundw
     case rel=>
      have hcc:=HCC.out;have hmm:=HMM.out;have hq:=HQ.out
      refine⟨pos+D,q,m+1,X',t++ [n],HI3.out,Zi.out,by omega,by rw[hlen.out];omega,by rw[hlen.out];omega,by rw[hlen.out];omega,?_,rfl,rfl,?_,?_,?_⟩
      ·show _=_;rw[HM8.out];rfl
      ·rw[Tx.uw (by omega),wV,<-hmm,<-HV8.out];exact happ.out.own
      ·intro k hk;exact happ.out.from (B:=w.heap.size+1) (by have:=HWS.out;simp;omega) (fun k hk=>HV.out k hk) k hk
      ·exact happ.out.below (HB.out.alloc (Nat.le_of_lt HWS.out) _) (by have:=HWS.out;simp;omega) (fun k hk=>Nat.le_of_lt (HV.out k hk))
     case measure=>exact Lc.out _ ⟨pos+D,by omega,HI3.out⟩
    ·have k8:¬(8:Int)<=(c:Int)+6:=by omega
     have HCC:Hid (c=6*t.length%8):=hcc;have HMM:Hid (m=6*t.length/8):=hmm;clear hcc hmm;go_wp2_with (go_at_call 85;refine NO.out.mono ?_;rintro _ wq ⟨rfl,hq⟩;have hq2:=hq.symm;clear hq;subst hq2)
     go_roundw
     case rel=>
      have hcc:=HCC.out;have hmm:=HMM.out
      refine⟨pos+D,c+6,m,Y,t++ [n],HI.out,Zi.out,by omega,by rw[hlen.out];omega,by rw[hlen.out];omega,by rw[hlen.out];omega,HST.out.symm,rfl,by go_num,?_,HV.out,HB.out⟩;rw[Tx.uq (by omega)];exact HO.out
     case measure=>exact Lc.out _ ⟨pos+D,by omega,HI.out⟩
   ·have e32:((R:Int)==32)=false:=by simp;omega
    have e10:((R:Int)==10)=false:=by simp;omega
    have NO:=hide (N9 R hR w1 HL.out);have HN:=hide (HU.out.none hpl hn);clear Uw hR2 hR hn;go_wp2_with (go_at_call 85;refine NO.out.mono ?_;rintro _ wq ⟨rfl,hq⟩;have hq2:=hq.symm;clear hq;subst hq2)
    refine⟨rfl,Or.inr ⟨?_,rfl⟩,HB.out⟩;unfold Tx.eY;rw[HN.out];rfl
  ·have hpe:¬pos<(bytesOf s).length:=by rw[Bz.out,<-hN.out];exact hp
   have HN:=hide (hup.ends hpe);have hnx:∀ty,(Instr.next (.pointer (some ⟨w.heap.size,0,none⟩)) true ty).run Tryz.prog wr=_:=fun ty=>Lib.run_next_end_at wr w.heap.size s pos ty hit hp;have HO:=hide hown;have HB:=hide hbw;have HV:=hide hvb
   clear hown hbw hvb hup hit hpe;by_cases hok:Tx.tV t
   ·have hok1:=hok.1;have hok2:=hok.2;rw[<-hmm,<-hcc,<-hX.out]at hok2;rw[<-hcc]at hok1;subst hok2;have k6:(c:Int)<6:=by omega
    have HOK:=hide hok;clear hok hok1 hcc hmm;go_wp2_with (go_at_call 81;refine(jD _ _).mono ?_;rintro _ wq ⟨rfl,hq⟩;have hq2:=hq.symm;clear hq;subst hq2)
    go_ret;refine⟨Or.inl ⟨Tx.fM t,_,?_,rfl,HO.out,HV.out⟩,HB.out⟩;unfold Tx.eY;rw[HN.out];show(if Tx.tV t then _ else _)=_;rw[if_pos HOK.out]
   ·have hrt:Hid (Tx.eY (bytesOf s)=none):=by
     show _=_;unfold Tx.eY;rw[HN.out];show(if Tx.tV t then _ else _)=_;rw[if_neg hok]
    by_cases h6:c<6
    ·have hX0:X≠0:=fun e=>hok ⟨by rw[<-hcc];exact h6,by rw[<-hmm,<-hcc,<-hX.out];exact e⟩;have k6:(c:Int)<6:=by omega
     have k0:((X:Int)==0)=false:=by simp;omega
     clear hok hcc hmm hX0;go_wp2_with (go_at_call 81;refine(Ai _ _).mono ?_;rintro _ wq ⟨rfl,hq⟩;have hq2:=hq.symm;clear hq;subst hq2)
     exact⟨rfl,Or.inr ⟨hrt.out,rfl⟩,HB.out⟩
    ·have k6:¬(c:Int)<6:=by omega
     clear hok hcc hmm;go_wp2_with (go_at_call 81;refine(Ai _ _).mono ?_;rintro _ wq ⟨rfl,hq⟩;have hq2:=hq.symm;clear hq;subst hq2)
     exact⟨rfl,Or.inr ⟨hrt.out,rfl⟩,HB.out⟩
namespace Tx
def spread(ps:List (List Nat×Nat))(tail:List Nat):List Nat:=ps.flatMap (fun p=>p.1++jB p.2)++tail
def Blank(l:List Nat):Prop:=∀x∈l,x=32\/x=10
theorem Dt(pre:List Nat)(c:Nat)(rest:List Nat):(pre++c::rest)[pre.length]?.getD 0=c:=by simp
theorem V9(pre:List Nat)(c c':Nat)(rest:List Nat):(pre++c::c'::rest)[pre.length+1]?.getD 0=c':=by
 rw[List.getElem?_append_right (by omega),show pre.length+1-pre.length=1 by omega];rfl
theorem Hr{bs pre rest t:List Nat}{c:Nat}(hb:bs=pre++c::rest)(hc:c=32\/c=10)(h:mM bs t pre.length):mM bs t (pre++ [c]).length:=by
 have hi:pre.length<bs.length:=by rw[hb];simp
 have e:=Dt pre c rest;rw[<-hb]at e;have hn:numAt bs pre.length= -1:=by unfold numAt;rw[if_pos (by rw[e];exact hc)]
 have h1:=h.blank hi hn;simpa using h1
theorem nJ:∀(l:List Nat) {bs pre rest t:List Nat},bs=pre++(l++rest)->Blank l->mM bs t pre.length->mM bs t (pre++l).length
 | [],bs,pre,rest,t,_,_,h=>by simpa using h
 |c::l,bs,pre,rest,t,hb,hl,h=>by
  have h1:=Hr (rest:=l++rest) hb (hl c (List.mem_cons_self ..)) h;have h2:=nJ l (pre:=pre++ [c]) (rest:=rest) (by rw[hb];simp) (fun x hx=>hl x (List.mem_cons_of_mem _ hx)) h1;simpa using h2
theorem MF{bs pre rest t:List Nat}{n:Nat}(hn:n<64)(hb:bs=pre++(jB n++rest))(h:mM bs t pre.length):mM bs (t++ [n]) (pre++jB n).length:=by
 unfold jB at hb⊢;by_cases h1:n<26
 ·rw[if_pos h1]at hb⊢;have hi:pre.length<bs.length:=by rw[hb];simp
  have e:=Dt pre (65+n) rest;rw[show pre++(65+n)::rest=bs by rw[hb];rfl]at e;have hg:¬greek bs pre.length:=fun hg=>by have:=hg.1;omega
  have hnu:numAt bs pre.length=(n:Int):=by unfold numAt;rw[if_neg (by omega),if_pos (by omega)];omega
  have h2:=h.letter hi hnu;unfold gq at h2;rw[if_neg hg]at h2;simpa using h2
 ·rw[if_neg h1]at hb⊢;by_cases h2:n<52
  ·rw[if_pos h2]at hb⊢;have hi:pre.length<bs.length:=by rw[hb];simp
   have e:=Dt pre (71+n) rest;rw[show pre++(71+n)::rest=bs by rw[hb];rfl]at e;have hg:¬greek bs pre.length:=fun hg=>by have:=hg.1;omega
   have hnu:numAt bs pre.length=(n:Int):=by unfold numAt;rw[if_neg (by omega),if_neg (by omega),if_pos (by omega)];omega
   have h3:=h.letter hi hnu;unfold gq at h3;rw[if_neg hg]at h3;simpa using h3
  ·rw[if_neg h2]at hb⊢;have hi:pre.length<bs.length:=by rw[hb];simp
   have hi1:pre.length+1<bs.length:=by rw[hb];simp
   have e:=Dt pre 206 ((125+n)::rest);have e1:=V9 pre 206 (125+n) rest;rw[show pre++206::(125+n)::rest=bs by rw[hb];rfl]at e e1;have hg:greek bs pre.length:=⟨e,hi1,by omega,by omega⟩;have hnu:numAt bs pre.length=(n:Int):=by unfold numAt;rw[if_neg (by omega),if_neg (by omega),if_neg (by omega),if_pos hg];omega
   have h3:=h.letter hi hnu;unfold gq at h3;rw[if_pos hg]at h3;simpa using h3
theorem uI:∀(ps:List (List Nat×Nat)) {bs pre tail t:List Nat},bs=pre++spread ps tail->(∀p∈ps,Blank p.1/\p.2<64)->Blank tail->mM bs t pre.length->iV bs=some (t++ps.map Prod.snd)
 |[],bs,pre,tail,t,hb,_,ht,h=>by
  have hb2:bs=pre++(tail++ []):=by rw[hb];simp[spread]
  have h1:=nJ tail hb2 ht h;have h2:=h1.ends (by rw[hb2];simp);simpa using h2
 |(l,n)::ps,bs,pre,tail,t,hb,hp,ht,h=>by
  have hpn:=hp (l,n) (List.mem_cons_self ..);have hb1:bs=pre++(l++(jB n++spread ps tail)):=by rw[hb];simp[spread]
  have h1:=nJ l hb1 hpn.1 h;have h2:=MF (pre:=pre++l) (rest:=spread ps tail) hpn.2 (by rw[hb1];simp) h1;have h3:=uI ps (pre:=pre++l++jB n) (tail:=tail) (by rw[hb1];simp) (fun p hp'=>hp p (List.mem_cons_of_mem _ hp')) ht h2;simpa using h3
theorem CO{ps:List (List Nat×Nat)}{tail:List Nat}(hp:∀p∈ps,Blank p.1/\p.2<64)(ht:Blank tail):iV (spread ps tail)=some (ps.map Prod.snd):=by
 have h:=uI ps (bs:=spread ps tail) (pre:= []) (t:= []) (by simp) hp ht (Ag _);simpa using h
def gU(d:List Nat):List Nat:=(List.range ((8*d.length+5)/6)).map (fun j=>val (kg d) (6*j) 6)
theorem lU(d:List Nat):(gU d).length=(8*d.length+5)/6:=by simp[gU]
theorem Qr(d:List Nat):∀n∈gU d,n<64:=fun n hn=>by
 simp only[gU,List.mem_map]at hn;obtain⟨j,_,rfl⟩:=hn;exact jL (iP d) _ 6
theorem Ep(d:List Nat):dQ d=(gU d).flatMap jB:=by
 unfold dQ pre gU;rw[List.flatMap_map]
theorem UF{f:Nat->Nat}(hf:∀k,f k<2)(a m n:Nat):val f a (m+1+n)/2^n%2=f (a+m):=by
 rw[BG hf,val];have:=hf (a+m);omega
theorem yZ{d:List Nat}{k:Nat}(h:k<6*((8*d.length+5)/6)):mK (gU d) k=kg d k:=by
 unfold mK gU;have hk:k/6<(8*d.length+5)/6:=by omega
 simp only[List.getElem?_map,List.getElem?_range hk,Option.map_some,Option.getD_some];have e:=UF (iP d) (6*(k/6)) (k%6) (5-k%6);rw[show k%6+1+(5-k%6)=6 by omega,show 6*(k/6)+k%6=k by omega]at e;exact e
theorem Cj(d:List Nat):tV (gU d):=by
 refine⟨by rw[lU];omega,val_zero (fun i hi=>?_)⟩;rw[lU]at hi⊢;rw[yZ (by omega)];exact vv (by omega)
theorem Dp{d:List Nat}(hd:∀x∈d,x<256):fM (gU d)=d:=by
 have hl:6*(gU d).length/8=d.length:=by rw[lU];omega
 apply List.ext_getElem?;intro j;by_cases hj:j<d.length
 ·have e:d[j]?.getD 0<256:=by rw[List.getElem?_eq_getElem hj];exact hd _ (List.getElem_mem hj)
  have h1:val (mK (gU d)) (8*j) 8=d[j]?.getD 0:=by
   rw[<-DV d j e];exact val_congr (fun i hi=>yZ (by omega))
  unfold fM;rw[hl];simp only[List.getElem?_map,List.getElem?_range hj,Option.map_some];rw[h1];simp[hj]
 ·rw[List.getElem?_eq_none (by rw[kV,hl];omega),List.getElem?_eq_none (by omega)]
theorem EX{d:List Nat}(hd:∀x∈d,x<256){ps:List (List Nat×Nat)}{tail:List Nat}(hp:∀p∈ps,Blank p.1)(hs:ps.map Prod.snd=gU d)(ht:Blank tail):eY (spread ps tail)=some d:=by
 have h:iV (spread ps tail)=some (gU d):=by
  rw[<-hs];exact CO (fun p hp'=>⟨hp p hp',Qr d _ (by rw[<-hs];exact List.mem_map_of_mem hp')⟩) ht
 unfold eY;rw[h];show(if tV (gU d)then some (fM (gU d))else none)=some d;rw[if_pos (Cj d),Dp hd]
theorem Ny{d:List Nat}(hd:∀x∈d,x<256):eY (dQ d)=some d:=by
 have h:=EX hd (ps:=(gU d).map (fun n=>([],n))) (tail:= []) (fun p hp=>by
  obtain⟨n,_,rfl⟩:=List.mem_map.1 hp;intro x hx;cases hx) (by rw[List.map_map];exact List.map_id' _) (by intro x hx;cases hx)
 rw[Ep];have e:spread ((gU d).map (fun n=>(([]:List Nat),n))) []=(gU d).flatMap jB:=by
  unfold spread;rw[List.append_nil,List.flatMap_map];simp
 rwa [e]at h
end Tx
end Go.Proofs.YtmfpiodlecapiaaGreatDoor
namespace Go.Proofs.YtmfpiodlecapiaaGreatDoor
open Go.Conc Go.ConcN Go.RowKit Go.bB Go.Ren Go.eO Go.Deep
attribute [local go_sem↓] Go.wp_at_zero Go.wp_at_succ
theorem xJ{w:World}{T:Array Value}{g g' b n c:Nat}{e:Int}(h2:T.getD 2 undef= .pointer (some ⟨g,0,none⟩))(h3:T.getD 3 undef= .pointer (some ⟨g',0,none⟩))(hc:w.cell? ⟨g,0,none⟩=some (.slice (some ⟨b,0,none⟩) n c))(hc':w.cell? ⟨g',0,none⟩=some (.int .i64 e)):(results Tryz.f22 T).run Tryz.prog w= .ok (.tuple #[.slice (some ⟨b,0,none⟩) n c,.int .i64 e]) w:=by
 have hr:Tryz.f22.results=#[.cell 2 28,.cell 3 39]:=rfl;have h2':T[2]?.getD undef= .pointer (some ⟨g,0,none⟩):=by simpa using h2
 have h3':T[3]?.getD undef= .pointer (some ⟨g',0,none⟩):=by simpa using h3
 simp only[results,hr];simp[Sem.run_bind,Result.andThen,h2',h3',asAddr];go_simp
theorem I8{Sh:Nat->Prop}{Post:(Nat->Prop)->Goroutine->World->Prop}{p:World}{cfn:FuncId}{ca:Act}{bg:Array Oper}{ci:Nat}{aT:List Nat}{ck:List Item}{cs:List Frame}{o:Oper}(ho:bg[ci]? =some o){s:ByteArray}{N n:Nat}{dl:List Nat}{hdv:Value}(hN:Hid (s.size=N))(yD:N<=100000000)(hs:Tx.eY (bytesOf s)=some dl)(hd:dl.length=n)(hn:0<n)(ha:Alpha p)
  (hun:∀w1 g cap,n<=cap->(∀j,j<n->w1.cell? ⟨g,0+j,none⟩=some (.int .u8 ((dl[j]?.getD 0:Nat):Int)))->Calls Tryz.prog 35 #[.slice (some ⟨g,0,none⟩) n cap] w1 fun r w'=>r= .returned (.tuple #[hdv,.slice (some ⟨g,0+10,none⟩) (n-10) (cap-10)])/\Below w1.heap.size w1 w')
  (hend:∀p' g cap,dZ p p'->p.heap.size<=g->n<=cap->(∀j,j<n->p'.cell? ⟨g,0+j,none⟩=some (.int .u8 ((dl[j]?.getD 0:Nat):Int)))->aj Tryz.prog Sh (G ((base cfn).at (ca.put o.dst (.tuple #[.slice (some ⟨g,0,none⟩) n cap,.int .i64 0])) (.inRegion bg aT::ck)) cs) p' Post):
  aj Tryz.prog Sh (G ((base 22).at ⟨#[.string s,undef,undef,undef,undef,undef,undef,undef,undef,undef],[]⟩ [.code (Tryz.f22.body.getD .skip)]) ((base cfn).at ca (.inRegion bg (ci::aT)::ck)::cs)) p Post:=by
 have HU:=hide hun;have HE:=hide hend;have HA:=hide ha;have HD:=hide hd
 clear hun hend ha hd;conv=>arg 3;simp only[Tryz.f22,Option.getD_some]
 refine aj.seq (aj.bC ak (by kernel_rfl) fun τ d=>?_);go_wp2;refine aj.world (fun q=>dZ p q/\q.heap.size=p.heap.size+2/\aB q p.heap.size 28 [.slice none 0 0]/\aB q (p.heap.size+1) 39 [.int .i64 0]) ⟨((dZ.refl p).re τ d |>.alloc _ |>.alloc _),?s1,?s2,?s3⟩ fun p1 hp1=>?_
 case s1=>simp;rfl
 case s2=>exact(aP (p.re τ d) _ _).alloc _
 case s3=>
  have h:=aP ((p.re τ d).alloc (.cells #[.slice none 0 0] 28)) #[.int .i64 0] 39;rw[show((p.re τ d).alloc (.cells #[.slice none 0 0] 28)).heap.size=p.heap.size+1 by simp;rfl]at h;exact h
 rw[show(p.re τ d).heap.size=p.heap.size from rfl];try rw[show((p.re τ d).alloc (.cells #[.slice none 0 0] 28)).heap.size=p.heap.size+1 by simp;rfl]
 clear τ d;refine aj.seq (aj.reg (todo:= [0,1]) rfl ?_);refine aj.ctl rfl (fun _=>rM rfl rfl (by decide) rfl) ?_;try walk_nrm
 refine aj.ctl rfl (fun _=>lT (f:=43) (caps:=#[.pointer (some ⟨p.heap.size,0,none⟩),.pointer (some ⟨p.heap.size+1,0,none⟩)]) rfl rfl (by decide) rfl rfl) ?_;try walk_nrm
 refine aj.aR ?_;try simp only[Act.eval]
 obtain⟨hg1,hs1,hr2,hr3⟩:=hp1;have vC:=hide hg1;have HR2:=hide hr2;have HR3:=hide hr3
 clear hg1 hr2 hr3;refine aj.seq (aj.bC aI (by kernel_rfl) fun τ d=>?_);have RW:=hide (Nw s N hN yD (p1.re τ d) (fun i hi=>vC.out.cell (HA.out i hi)));go_wp2_with fail
 go_at_call 44
 refine RW.out.mono ?_;rintro _ p2 ⟨h,hb2⟩;rcases h with⟨l,v,h1,rfl,hown,hnew⟩|⟨h1,_⟩
 case inr=>rw[hs]at h1;cases h1
 obtain rfl:dl=l:=by rw[hs]at h1;exact Option.some.inj h1
 obtain⟨g,cap,cur,hv,hrow,hle,hcap,hcur,htake⟩:=hown.open' (by rw[aU,HD.out];exact hn);rw[aU,HD.out]at hv hle htake;subst hv;have hg2:dZ p1 p2:=dZ.below hb2;have hgl:p1.heap.size<g:=hnew g rfl;have hcells:∀j,j<n->p2.cell? ⟨g,0+j,none⟩=some (.int .u8 ((dl[j]?.getD 0:Nat):Int)):=fun j hj=>by
  rw[Nat.zero_add];refine hrow.cell _ _ ?_;have h2:(List.take n cur)[j]? =(bN dl)[j]? :=by rw[htake]
  rw[List.getElem?_take_of_lt hj]at h2;rw[h2];have hjl:j<dl.length:=by rw[HD.out];exact hj
  simp[bN,hjl]
 have HCL:=hide hcells;have HG2:=hide hg2
 have hr2:=HR2.out.of_block (hg2.row _ HR2.out.lt);have hr3:=HR3.out.of_block (hg2.row _ HR3.out.lt);have a0:=hr2.cell 0 _ rfl;have a1:=hr2.frozen 0;have hr2':=hr2.set 0 (.slice (some ⟨g,0,none⟩) n cap);have vO:=hr3.other (a:=⟨p.heap.size,0,none⟩) (show p.heap.size+1≠p.heap.size by omega) (.slice (some ⟨g,0,none⟩) n cap);have Wt:=hide hr2';have YZ:=hide vO
 clear hcells hg2 hown hrow htake hcur hr2 hr3 hr2' vO hb2 hnew RW h1;go_wp2;clear a0 a1;have VL:g≠p.heap.size:=by omega
 have hgne1:g≠p.heap.size+1:=by omega
 have hq3:∀k,k≠p.heap.size->(p2.setCell ⟨p.heap.size,0,none⟩ (.slice (some ⟨g,0,none⟩) n cap)).heap[k]? =p2.heap[k]? :=fun k hk=>by simp[World.setCell,Array.getElem?_modify,Ne.symm hk]
 have hgp3:dZ p (p2.setCell ⟨p.heap.size,0,none⟩ (.slice (some ⟨g,0,none⟩) n cap)):=by
  have hG:=vC.out.trans HG2.out;refine⟨by have:=hG.size;simpa[World.setCell]using this,fun k hk=>?_,hG.os,hG.output⟩;rw[hq3 k (by omega)];exact hG.row k hk
 have hcl3:∀j,j<n->(p2.setCell ⟨p.heap.size,0,none⟩ (.slice (some ⟨g,0,none⟩) n cap)).cell? ⟨g,0+j,none⟩=some (.int .u8 ((dl[j]?.getD 0:Nat):Int)):=fun j hj=>by
  rw[<-HCL.out j hj];exact World.cell?_of_block (hq3 g VL)
 have Zl:=hide hcl3;have HGP:=hide hgp3
 clear hcl3 hgp3 hq3;generalize p2.setCell ⟨p.heap.size,0,none⟩ (.slice (some ⟨g,0,none⟩) n cap)=p3 at Zl HGP Wt YZ⊢;try clear τ d
 refine aj.seq (aj.bC ak (by kernel_rfl) fun τ d=>?_);have b0:(p3.re τ d).cell? ⟨p.heap.size,0,none⟩=some (.slice (some ⟨g,0,none⟩) n cap):=Wt.out.cell 0 _ rfl;have UW:=hide (HU.out (p3.re τ d) g cap hle Zl.out);go_wp2_with (go_at_call 35;refine UW.out.mono ?_;rintro _ p4 ⟨rfl,hb4⟩;replace hb4:=hide hb4)
 clear b0 UW;have hg4:dZ p3 p4:=dZ.below hb4.out;have hr2:=Wt.out.of_block (hg4.row _ Wt.out.lt);have hr3:=YZ.out.of_block (hg4.row _ YZ.out.lt);have hcl4:∀j,j<n->p4.cell? ⟨g,0+j,none⟩=some (.int .u8 ((dl[j]?.getD 0:Nat):Int)):=fun j hj=>hg4.cell (Zl.out j hj);have hgp4:=HGP.out.trans hg4;have HC4:=hide hcl4;have HG4:=hide hgp4
 clear hcl4 hgp4 hg4 hb4 τ d;refine aj.seq (aj.bC ak (by kernel_rfl) fun τ d=>?_);have b0:(p4.re τ d).cell? ⟨p.heap.size,0,none⟩=some (.slice (some ⟨g,0,none⟩) n cap):=hr2.cell 0 _ rfl;have b1:(p4.re τ d).frozen? ⟨p.heap.size,0,none⟩=false:=hr2.frozen 0;have hr2':=hr2.set 0 (.slice (some ⟨g,0,none⟩) n cap);have vO:=hr3.other (a:=⟨p.heap.size,0,none⟩) (show p.heap.size+1≠p.heap.size by omega) (.slice (some ⟨g,0,none⟩) n cap);have b2:((p4.re τ d).setCell ⟨p.heap.size,0,none⟩ (.slice (some ⟨g,0,none⟩) n cap)).cell? ⟨p.heap.size+1,0,none⟩=some (.int .i64 0):=vO.cell 0 _ rfl;have b3:((p4.re τ d).setCell ⟨p.heap.size,0,none⟩ (.slice (some ⟨g,0,none⟩) n cap)).frozen? ⟨p.heap.size+1,0,none⟩=false:=vO.frozen 0;go_wp2;refine aj.re (p:=(p4.setCell ⟨p.heap.size,0,none⟩ (.slice (some ⟨g,0,none⟩) n cap)).setCell ⟨p.heap.size+1,0,none⟩ (.int .i64 0)) ?_ τ d;clear b0 b1 b2 b3 τ d;have c3:=(vO.set 0 (.int .i64 0)).cell 0 _ rfl;have c2:=(hr2'.other (a:=⟨p.heap.size+1,0,none⟩) (show p.heap.size≠p.heap.size+1 by omega) (.int .i64 0)).cell 0 _ rfl;have hq5:∀k,k≠p.heap.size->k≠p.heap.size+1->((p4.setCell ⟨p.heap.size,0,none⟩ (.slice (some ⟨g,0,none⟩) n cap)).setCell ⟨p.heap.size+1,0,none⟩ (.int .i64 0)).heap[k]? =p4.heap[k]? :=fun k hk hk2=>by simp[World.setCell,Array.getElem?_modify,Ne.symm hk,Ne.symm hk2]
 have hq:dZ p ((p4.setCell ⟨p.heap.size,0,none⟩ (.slice (some ⟨g,0,none⟩) n cap)).setCell ⟨p.heap.size+1,0,none⟩ (.int .i64 0)):=by
  refine⟨by have:=HG4.out.size;simpa[World.setCell]using this,fun k hk=>?_,HG4.out.os,HG4.out.output⟩;rw[hq5 k (by omega) (by omega)];exact HG4.out.row k hk
 have Ui:=hide (HE.out _ g cap hq (by omega) hle (fun j hj=>by rw[<-HC4.out j hj];exact World.cell?_of_block (hq5 g VL hgne1)));clear hr2 hr3 hr2' vO hq hq5 HE HC4 HG4;generalize (p4.setCell ⟨p.heap.size,0,none⟩ (.slice (some ⟨g,0,none⟩) n cap)).setCell ⟨p.heap.size+1,0,none⟩ (.int .i64 0)=q at Ui c2 c3⊢;refine aj.ctl rfl (fun _=>stepG_ret') ?_;refine aj.ctl rfl (fun _=>kP rfl Tryz.func43 rfl rfl) ?_;simp only[Tryz.f43,List.size_toArray,List.length_cons,List.length_nil,Nat.reduceAdd,Nat.reduceSub,Array.replicate_succ,Array.replicate_zero,List.push_toArray,List.append_toArray,List.nil_append,List.cons_append];refine aj.seq (aj.reg (todo:= [0,1]) rfl ?_);refine aj.ctl rfl (fun _=>jR rfl rfl rfl rfl) ?_;try walk_nrm
 refine aj.op (fI ak (by kernel_rfl)) rfl rfl (by decide) (fun τ d K hK=>?_);go_simp;refine hK _ _ ?_;clear hK;refine aj.re ?_ _ _;try walk_nrm
 refine aj.aR ?_;refine aj.seq (aj.reg (todo:= [0,1]) rfl ?_);refine aj.op (fI ak (by kernel_rfl)) rfl rfl (by decide) (fun τ d K hK=>?_);go_simp;refine hK _ _ ?_;clear hK;refine aj.re ?_ _ _;try walk_nrm
 refine aj.op (fI ak (by kernel_rfl)) rfl rfl (by decide) (fun τ d K hK=>?_);go_simp;refine hK _ _ ?_;clear hK;refine aj.re ?_ _ _;try walk_nrm
 refine aj.aR ?_;refine aj.no rfl (aj.skip (aj.finish ?_));refine aj.ctl rfl (fun _=>stepG_leave_deferred rfl rfl Tryz.func43 (v:=.tuple #[]) (results_none rfl _ _ _) (by simp[results,Tryz.f43]) rfl) ?_;refine aj.TV ho Tryz.func22 (fun τ d=>xJ (g:=p.heap.size) (g':=p.heap.size+1) (b:=g) (n:=n) (c:=cap) (e:=0) rfl rfl (show(q.re τ d).cell? _=_ from c2) (show(q.re τ d).cell? _=_ from c3)) ?_;exact Ui.out
end Go.Proofs.YtmfpiodlecapiaaGreatDoor
