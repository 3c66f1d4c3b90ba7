import Derived.Test.YtmfpiodlecapiaaGreatDoorJ24
import Derived.Defers
import Derived.Recover
set_option maxHeartbeats 4000000
set_option maxRecDepth 100000
namespace Go.Proofs.YtmfpiodlecapiaaGreatDoor
open Go.Proofs.Tryz
section
open Go.RowKit Go.Deep
variable{w:World}{pa:Option Addr}{F:Nat->Prop}{lb mr:Nat}{l:List (Nat×Nat)}
theorem nS(s:ByteArray)(i:Nat)(h:i<s.size):(s.get! i).toNat=(bytesOf s)[i]?.getD 0:=by
 unfold bytesOf;have hi:i<s.data.size:=h;have e:s.data[i]! =s.data[i]:=getElem!_pos s.data i hi;have e2:s.data[i]? =some s.data[i]:=Array.getElem?_eq_getElem hi;simp[ByteArray.get!,e,e2]
theorem AL(s:ByteArray)(i:Nat):(bytesOf s)[i]?.getD 0<256:=by
 by_cases h:i<s.size
 .rw[<-nS s i h];exact UInt8.toNat_lt _
 .rw[List.getElem?_eq_none (by rw[bytesOf_length];omega)];simp
theorem zm{n:Nat}(h:n<64):(65<=Tx.rn n/\Tx.rn n<=90)\/(97<=Tx.rn n/\Tx.rn n<=122)\/(945<=Tx.rn n/\Tx.rn n<=956):=by
 unfold Tx.rn;split
 .omega
 .split<;>omega
theorem Na(s:ByteArray)(i:Nat)(h:i<s.size)(hc:128<=(bytesOf s)[i]?.getD 0):
  (Tx.greek (bytesOf s) i/\Utf8.decode s i=(768+(bytesOf s)[i+1]?.getD 0,2))\/
  (¬Tx.greek (bytesOf s) i/\128<=(Utf8.decode s i).1/\¬(945<=(Utf8.decode s i).1/\(Utf8.decode s i).1<=956)):=by
 have h0:=nS s i h;have du:=AL s i;have bp:=AL s (i+1);have h1:i+1<s.size->(s.get! (i+1)).toNat=(bytesOf s)[i+1]?.getD 0:=nS s (i+1);have hl:=bytesOf_length s;unfold Utf8.decode;simp only[Nat.add_zero,h0];rw[if_neg (by omega)];unfold Tx.greek;rw[hl];generalize (bytesOf s)[i]?.getD 0=c at*;generalize (bytesOf s)[i+1]?.getD 0=c' at*;by_cases hn:i+1<s.size
 .rw[h1 hn];clear h1 h0;generalize (s.get! (i+2)).toNat=c2;generalize (s.get! (i+3)).toNat=c3;split
  .rename_i hx;simp only[Bool.and_eq_true,beq_iff_eq,decide_eq_true_eq]at hx;split
   .by_cases hg:c=206/\177<=c'/\c'<=188
    .left;refine⟨⟨hg.1,hn,hg.2⟩,?_⟩;simp only[Prod.mk.injEq,and_true];omega
    .right;refine⟨fun hh=>hg ⟨hh.1,hh.2.2⟩,by omega,?_⟩;show¬(945<=c%32*64+c'%64/\c%32*64+c'%64<=956);omega
   .right;refine⟨fun hh=>?_,by decide,by decide⟩;omega
  .rename_i hx;simp only[Bool.and_eq_true,beq_iff_eq,decide_eq_true_eq]at hx;right;refine⟨fun hh=>hx ⟨by omega,hn,by omega⟩,?_⟩;split
   .split
    .rename_i hy;simp only[Bool.and_eq_true,decide_eq_true_eq]at hy;constructor<;>omega
    .exact⟨by decide,by decide⟩
   .split
    .split
     .rename_i hy;simp only[Bool.and_eq_true,decide_eq_true_eq]at hy;constructor<;>omega
     .exact⟨by decide,by decide⟩
    .exact⟨by decide,by decide⟩
 .right;refine⟨fun hh=>hn hh.2.1,?_⟩;simp only[hn,decide_false,Bool.false_and,Bool.and_false,Bool.false_eq_true,if_false];exact⟨by decide,by decide⟩
theorem M_(s:ByteArray)(i:Nat)(h:i<s.size):
  (Tx.numAt (bytesOf s) i= -1/\((Utf8.decode s i).1=32\/(Utf8.decode s i).1=10)/\(Utf8.decode s i).2=1)\/
  (∃n:Nat,n<64/\Tx.numAt (bytesOf s) i=(n:Int)/\(Utf8.decode s i).1=Tx.rn n/\(Utf8.decode s i).2=Tx.iF (bytesOf s) i)\/
  (Tx.numAt (bytesOf s) i= -2/\(Utf8.decode s i).1≠32/\(Utf8.decode s i).1≠10/\∀n:Nat,n<64->Tx.rn n≠(Utf8.decode s i).1):=by
 have h0:=nS s i h;have du:=AL s i;by_cases hc:(bytesOf s)[i]?.getD 0<128
 .have hd:Utf8.decode s i=((bytesOf s)[i]?.getD 0,1):=by
   unfold Utf8.decode;simp only[Nat.add_zero,h0];rw[if_pos hc]
  have Yg:¬Tx.greek (bytesOf s) i:=fun hg=>by have:=hg.1;omega
  have cC:Tx.iF (bytesOf s) i=1:=by unfold Tx.iF;rw[if_neg Yg]
  rw[hd,cC];unfold Tx.numAt;simp only[Yg,if_false];generalize (bytesOf s)[i]?.getD 0=c at*;by_cases h1:c=32\/c=10
  .left;rw[if_pos h1];exact⟨rfl,h1,trivial⟩
  .rw[if_neg h1];by_cases h2:65<=c/\c<=90
   .right;left;rw[if_pos h2];refine⟨c-65,by omega,by omega,?_,trivial⟩;show c=_;unfold Tx.rn;rw[if_pos (by omega)];omega
   .rw[if_neg h2];by_cases h3:97<=c/\c<=122
    .right;left;rw[if_pos h3];refine⟨c-71,by omega,by omega,?_,trivial⟩;show c=_;unfold Tx.rn;rw[if_neg (by omega),if_pos (by omega)];omega
    .right;right;rw[if_neg h3];refine⟨rfl,fun e=>h1 (Or.inl e),fun e=>h1 (Or.inr e),fun n hn e=>?_⟩;have:=zm hn;have e':Tx.rn n=c:=e;omega
 .rcases Na s i h (by omega)with⟨hg,hd⟩|⟨hg,h1,h2⟩
  .right;left;have eQ:=hg.2.2;refine⟨(bytesOf s)[i+1]?.getD 0-125,by omega,?_,?_,?_⟩
   .unfold Tx.numAt;rw[if_neg (by omega),if_neg (by omega),if_neg (by omega),if_pos hg];omega
   .rw[hd];unfold Tx.rn;rw[if_neg (by omega),if_neg (by omega)];show 768+_=_;omega
   .rw[hd];unfold Tx.iF;rw[if_pos hg]
  .right;right;refine⟨?_,by omega,by omega,fun n hn e=>?_⟩
   .unfold Tx.numAt;rw[if_neg (by omega),if_neg (by omega),if_neg (by omega),if_neg hg]
   .have:=zm hn;omega
theorem bK.iterAt{k pos:Nat}{s:ByteArray}{e:TypeId}{v:Value}{xs:List Value}(h:bK w e v xs)(hk:∀g,v.ownBlock=some g->k<g):bK (w.iterAt k s pos) e v xs:=
 h.of_block (fun g hg=>Lib.iterAt_other w k g s pos (by have:=hk g hg;omega))
theorem PZ(s:ByteArray)(N:Nat)(hN:Hid (s.size=N))(Aa:N<=100000000)(w:World)(ha:Alpha w):
  Calls prog 44 #[.string s] w fun e w'=>
   ((∃l v,Tx.dI (bytesOf s)=some l/\e= .returned v/\bK w' 5 v (bO l)/\(∀k,v.ownBlock=some k->w.heap.size<k))\/(Tx.dI (bytesOf s)=none/\e= .panicked [{v:=bq 3,recovered:=false}]))/\Below w.heap.size w w':=by
 obtain⟨i0,hi,ep,cJ,cW⟩:=info_parts Tryz.infoByte;have HA:=hide ha;have HS:=hide ha.size;clear ha;have Bh:Hid ((bytesOf s).length=N):=by show _=_;rw[bytesOf_length];exact hN.out
 go_enter func44,ntmps44;go_wp2_with fail
 go_loopw [3,4,5] (fun v x y wr=>∃(pos c m X:Nat) (t:List Nat),wr.heap[w.heap.size]? =some (.stringIter s pos)/\Tx.nW (bytesOf s) t pos/\pos<=N/\t.length<=pos/\c=6*t.length%8/\m=6*t.length/8/\Hid (X=Tx.val (Tx.nV t) (8*m) c)/\x= .int .i64 X/\y= .int .i64 c/\
   bK wr 5 v (bO (Tx.eZ t))/\(∀k,v.ownBlock=some k->w.heap.size<k)/\Below w.heap.size w wr)
  (fun _ _ _ wr=>N-wr.iterPos w.heap.size)
 case atStart=>
  refine⟨0,0,0,0,[],?_,Tx.CU _,by omega,by simp,rfl,rfl,rfl,rfl,rfl,h_ _ _,fun k hk=>by simp[Value.ownBlock]at hk,(Below.refl _ w).alloc (Nat.le_refl _) _⟩;have:=World.iter_heap w s 0;simpa using this
 case round=>
  obtain⟨pos,c,m,X,t,hit,pZ,hpN,htp,di,fg,hX,rfl,rfl,br,kB,cX⟩:=hrel;by_cases hp:pos<s.size
  .have hpN':pos<N:=by rw[<-hN.out];exact hp
   have eI:pos<(bytesOf s).length:=by rw[Bh.out];exact hpN'
   have q_:=Lib.iterAt_heap wr w.heap.size s pos (pos+(Utf8.decode s pos).2) hit;have Xz:=br.iterAt (s:=s) (pos:=pos+(Utf8.decode s pos).2) kB;have bw1:=Lib.below_iterAt cX (Nat.le_refl _) s (pos+(Utf8.decode s pos).2);have tw:(wr.iterAt w.heap.size s (pos+(Utf8.decode s pos).2)).heap.size=wr.heap.size:=Lib.iterAt_size _ _ _ _;have al1:=HA.out.below bw1 HS.out;have tU:∀ty,(Instr.next (.pointer (some ⟨w.heap.size,0,none⟩)) true ty).run prog wr=_:=fun ty=>Lib.run_next_any_at wr w.heap.size s pos ty hit hp;have Sp:=M_ s pos hp;have iq:Hid (∀w2:World,(∃q,pos<q/\w2.heap[w.heap.size]? =some (.stringIter s q))->N-w2.iterPos w.heap.size<N-wr.iterPos w.heap.size):=by
    rintro w2 ⟨q,hq,h2⟩;simp only[World.iterPos,hit,h2];omega
   generalize (Utf8.decode s pos).1=R at tU Sp;generalize (Utf8.decode s pos).2=D at tU Sp q_ Xz bw1 al1 tw;generalize wr.iterAt w.heap.size s (pos+D)=w1 at tU q_ Xz bw1 al1 tw;have HI:=hide q_;have HO:=hide Xz;have HB:=hide bw1;have HL:=hide al1;have HU:=hide pZ;have HV:=hide kB
   have Is:Hid (w.heap.size<w1.heap.size):=by
    show _<_;exact(Array.getElem?_eq_some_iff.1 q_).1
   clear q_ Xz bw1 al1 tw hit br cX pZ kB;rcases Sp with⟨hn,hR,hD⟩|⟨n,Yh,hn,hR,hD⟩|⟨hn,wj,hR2,hR⟩
   .have Pf:Hid (w1.heap[w.heap.size]? =some (.stringIter s (pos+1))):=by rw[<-hD];exact HI.out
    clear HI hD;have Cg:=hide (HU.out.blank eI hn);clear HU hn;rcases hR with rfl|rfl
    .go_wp2_with fail
     go_roundw
     case rel=>exact⟨pos+1,c,m,X,t,Pf.out,Cg.out,by omega,by omega,di,fg,hX.out,rfl,rfl,HO.out,HV.out,HB.out⟩
     case measure=>exact iq.out _ ⟨pos+1,by omega,Pf.out⟩
    .go_wp2_with fail
     go_roundw
     case rel=>exact⟨pos+1,c,m,X,t,Pf.out,Cg.out,by omega,by omega,di,fg,hX.out,rfl,rfl,HO.out,HV.out,HB.out⟩
     case measure=>exact iq.out _ ⟨pos+1,by omega,Pf.out⟩
   .have cC:=Tx.PD (bytesOf s) pos eI;have kO:=Tx.ze (bytesOf s) pos;rw[Bh.out]at cC;rw[<-hD]at cC kO;have Cg:=hide (HU.out.letter eI hn);rw[<-hD]at Cg;clear HU hn hD;subst hR;have Mo:=zm Yh;have NO:=hide (Qr n Yh w1 HL.out);have cg:=Tx.R8 (t:=t) Yh;rw[<-fg,<-di,<-hX.out]at cg;have Te:X<256:=by rw[hX.out];exact Nat.lt_of_lt_of_le (Tx.kQ (Tx.uO t) _ c) (Nat.pow_le_pow_right (by decide) (by omega:c<=8))
    have Ds:bits .or .i64 ((X:Int)*64) (n:Int)=((X*64+n:Nat):Int):=by
     have h1:=MJ (X*64) n (by omega) (by omega);rw[LX X (k:=6) Yh]at h1;rw[show((X*64:Nat):Int)=(X:Int)*64 by omega]at h1;exact h1
    obtain⟨Y,hY⟩:∃Y,Y=X*64+n:=⟨_,rfl⟩;have hYl:Y<16448:=by omega
    rw[<-hY]at cg Ds;clear hY;have VV:=hide cg;have hlen:Hid ((t++ [n]).length=t.length+1):=by show _=_;simp
    clear cg;generalize (Tx.rn n:Nat)=r at NO Mo tU;have e32:((r:Int)==32)=false:=by simp;omega
    have e10:((r:Int)==10)=false:=by simp;omega
    by_cases h8:8<=c+6
    .obtain⟨q,hq⟩:∃q,c+6=8+q:=⟨c+6-8,by omega⟩;have hq5:q<=5:=by omega
     have k8:(8:Int)<=(c:Int)+6:=by omega
     have mc:(c:Int)+6-8=(q:Int):=by omega
     have p_:(0:Int)<=(q:Int):=by omega
     have VS:Hid (Y/2^q=Tx.val (Tx.nV (t++ [n])) (8*m) 8):=by show _=_;rw[<-VV.out,hq,Tx.Ep (Tx.uO _)]
     have HM8:Hid (Y%2^q=Tx.val (Tx.nV (t++ [n])) (8*m+8) q):=by show _=_;rw[<-VV.out,hq,Tx.val_mod (Tx.uO _)]
     obtain⟨V,hV⟩:∃V,V=Y/2^q:=⟨_,rfl⟩;have hVl:V<256:=by rw[hV,VS.out];exact Tx.kQ (Tx.uO _) _ 8
     have hdiv:(Y:Int)/2^q=(V:Int):=by rw[hV];simp
     rw[<-hV]at VS;clear hV;have u8:=dw (V:Int) (by omega) (by omega);have LW:=hide (xu Y q (by omega) (by omega));obtain⟨X',F_⟩:∃X',X'=Y%2^q:=⟨_,rfl⟩;rw[<-F_]at LW HM8;clear F_;obtain⟨av,cv,gm⟩:=HO.out.shape;rw[aP,Tx.mM,<-fg]at gm;subst gm;have sd:Hid ((bO (Tx.eZ t)).length=m):=by show _=_;rw[aP,Tx.mM,fg]
     have oc:m<=100000000:=by omega
     have Wo:Hid (c=6*t.length%8):=di;have Wc:Hid (m=6*t.length/8):=fg;have HQ:Hid (c+6=8+q):=hq;clear di fg hq;go_wp2_with (first|(go_at_call 85;refine NO.out.mono ?_;rintro _ wq ⟨rfl,hq⟩;have cI:=hq.symm;clear hq;subst cI)|(at_builtin;(refine dG _ rfl (.tmp 30) (.tmp 35) 28 rfl 5 i0 (.int .u8 0) 1 underlying28 hi ep cJ cW rfl _ (bO (Tx.eZ t)) rfl (HO.out.alloc _) ⟨w1.heap.size,0,none⟩ 1 1 [.int .u8 (V:Nat)] rfl rfl (nK _ _ _ _ rfl) (by intro u hu;simp at hu;subst hu;rfl) (by rw[sd.out];unfold maxLen;omega) (by rw[sd.out];omega) ?_)))
     intro v' w2 bt;replace bt:=hide bt;go_wp2_with (go_at_call 71;refine(LW.out _).mono ?_;rintro _ wq ⟨rfl,hq⟩;have cI:=hq.symm;clear hq;subst cI)
     have HI3:Hid (w2.heap[w.heap.size]? =some (.stringIter s (pos+D))):=by
      show _=_;have hg:=bt.out.grown.block w.heap.size (by have:=Is.out;simp;omega) (fun e=>by have:=HV.out _ e.symm;omega);rw[hg,blk_alloc_lt _ _ _ Is.out];exact HI.out
     go_roundw
     case rel=>
      have di:=Wo.out;have fg:=Wc.out;have hq:=HQ.out
      refine⟨pos+D,q,m+1,X',t++ [n],HI3.out,Cg.out,by omega,by rw[hlen.out];omega,by rw[hlen.out];omega,by rw[hlen.out];omega,?_,rfl,rfl,?_,?_,?_⟩
      .show _=_;rw[HM8.out];rfl
      .rw[Tx.vU (by omega),yL,<-fg,<-VS.out];exact bt.out.own
      .intro k hk;exact bt.out.from (B:=w.heap.size+1) (by have:=Is.out;simp;omega) (fun k hk=>HV.out k hk) k hk
      .exact bt.out.below (HB.out.alloc (Nat.le_of_lt Is.out) _) (by have:=Is.out;simp;omega) (fun k hk=>Nat.le_of_lt (HV.out k hk))
     case measure=>exact iq.out _ ⟨pos+D,by omega,HI3.out⟩
    .have k8:¬(8:Int)<=(c:Int)+6:=by omega
     have Wo:Hid (c=6*t.length%8):=di;have Wc:Hid (m=6*t.length/8):=fg;clear di fg;go_wp2_with (go_at_call 85;refine NO.out.mono ?_;rintro _ wq ⟨rfl,hq⟩;have cI:=hq.symm;clear hq;subst cI)
     go_roundw
     case rel=>
      have di:=Wo.out;have fg:=Wc.out
      refine⟨pos+D,c+6,m,Y,t++ [n],HI.out,Cg.out,by omega,by rw[hlen.out];omega,by rw[hlen.out];omega,by rw[hlen.out];omega,VV.out.symm,rfl,by go_num,?_,HV.out,HB.out⟩;rw[Tx.vT (by omega)];exact HO.out
     case measure=>exact iq.out _ ⟨pos+D,by omega,HI.out⟩
   .have e32:((R:Int)==32)=false:=by simp;omega
    have e10:((R:Int)==10)=false:=by simp;omega
    have NO:=hide (Qs R hR w1 HL.out);have HN:=hide (HU.out.none eI hn);clear wj hR2 hR hn;go_wp2_with (go_at_call 85;refine NO.out.mono ?_;rintro _ wq ⟨rfl,hq⟩;have cI:=hq.symm;clear hq;subst cI)
    refine⟨rfl,Or.inr ⟨?_,rfl⟩,HB.out⟩;unfold Tx.dI;rw[HN.out];rfl
  .have rS:¬pos<(bytesOf s).length:=by rw[Bh.out,<-hN.out];exact hp
   have HN:=hide (pZ.ends rS);have tU:∀ty,(Instr.next (.pointer (some ⟨w.heap.size,0,none⟩)) true ty).run prog wr=_:=fun ty=>Lib.run_next_end_at wr w.heap.size s pos ty hit hp;have HO:=hide br;have HB:=hide cX;have HV:=hide kB
   clear br cX kB pZ hit rS;by_cases gw:Tx.rV t
   .have JP:=gw.1;have Jx:=gw.2;rw[<-fg,<-di,<-hX.out]at Jx;rw[<-di]at JP;subst Jx;have k6:(c:Int)<6:=by omega
    have HOK:=hide gw;clear gw JP di fg;go_wp2_with (go_at_call 81;refine(kK _ _).mono ?_;rintro _ wq ⟨rfl,hq⟩;have cI:=hq.symm;clear hq;subst cI)
    go_ret;refine⟨Or.inl ⟨Tx.eZ t,_,?_,rfl,HO.out,HV.out⟩,HB.out⟩;unfold Tx.dI;rw[HN.out];show(if Tx.rV t then _ else _)=_;rw[if_pos HOK.out]
   .have tP:Hid (Tx.dI (bytesOf s)=none):=by
     show _=_;unfold Tx.dI;rw[HN.out];show(if Tx.rV t then _ else _)=_;rw[if_neg gw]
    by_cases h6:c<6
    .have hX0:X≠0:=fun e=>gw ⟨by rw[<-di];exact h6,by rw[<-fg,<-di,<-hX.out];exact e⟩;have k6:(c:Int)<6:=by omega
     have k0:((X:Int)==0)=false:=by simp;omega
     clear gw di fg hX0;go_wp2_with (go_at_call 81;refine(jr _ _).mono ?_;rintro _ wq ⟨rfl,hq⟩;have cI:=hq.symm;clear hq;subst cI)
     exact⟨rfl,Or.inr ⟨tP.out,rfl⟩,HB.out⟩
    .have k6:¬(c:Int)<6:=by omega
     clear gw di fg;go_wp2_with (go_at_call 81;refine(jr _ _).mono ?_;rintro _ wq ⟨rfl,hq⟩;have cI:=hq.symm;clear hq;subst cI)
     exact⟨rfl,Or.inr ⟨tP.out,rfl⟩,HB.out⟩
theorem Au(e:Int)(w:World):Calls prog 34 #[bq e] w fun r w'=>r= .returned (.int .i64 e)/\w'=w.alloc (.cells #[.int .i64 e] 116):=by
 unfold bq;have hta:(Instr.typeAssert (.iface 116 (.agg #[.int .i64 e])) 20 116 true).run prog w= .ok (.tuple #[.agg #[.int .i64 e],.bool true]) w:=by kernel_rfl
 go_enter func34,ntmps34;go_wp2;go_ret;exact⟨rfl,rfl⟩
theorem xg(a b:Nat)(x:Value)(y e:Int)(older:List PanicEntry)(w:World)(hp:aB w a 28 [x])(hq:aB w b 39 [.int .i64 y]):
  CallsD prog 43 #[.pointer (some ⟨a,0,none⟩),.pointer (some ⟨b,0,none⟩)] (.panicking ({v:=bq e,recovered:=false}::older)) w fun r u' w'=>
   r= .returned (.tuple #[])/\u'= .panicking ({v:=bq e,recovered:=true}::older)/\w'=((w.alloc (.cells #[.int .i64 e] 116)).setCell ⟨a,0,none⟩ (.slice none 0 0)).setCell ⟨b,0,none⟩ (.int .i64 e):=by
 refine callsD_of_wpS func43 rfl fun c₀ cs hu=>?_;apply wpS_seq;apply wpS_region;simp[wpOpsS,go_sem,recoverD,hu,ntmps43,Exit.thenS];have ht:(#[Value.pointer (some (⟨a,0,none⟩:Addr)),Value.pointer (some ⟨b,0,none⟩)]++((Array.replicate 6 undef).setIfInBounds 1 (bq e)).setIfInBounds 0 (bq e))=#[Value.pointer (some ⟨a,0,none⟩),Value.pointer (some ⟨b,0,none⟩),bq e,bq e,undef,undef,undef,undef]:=rfl;rw[ht];clear ht;have bd:∀w,(binOp .neq 20 (bq e) .nilIface).run prog w= .ok (.bool true) w:=fun _=>rfl;have k_:∀w,(eqGuard .neq 20 (.tmp 4) (.const .nilIface) (bq e) .nilIface).run prog w= .ok () w:=fun _=>rfl;have EW:=hide (Au e w);have iu:=hp.alloc (.cells #[.int .i64 e] 116);have km:=hq.alloc (.cells #[.int .i64 e] 116);generalize w.alloc (.cells #[.int .i64 e] 116)=w1 at EW iu km⊢;generalize bq e=F at bd k_ EW⊢;have j':a≠b:=hp.lF hq (by decide);have p1:=iu.cell 0 _ rfl;have p2:=iu.frozen 0;have cI:=km.other (a:=⟨a,0,none⟩) (fun e=>j' e.symm) (.slice none 0 0);have q1:=cI.cell 0 _ rfl;have q2:=cI.frozen 0;clear hp hq iu km cI j' hu;refine wpS_of_wp ?_;go_wp2_with (go_at_call 34;refine EW.out.mono ?_;rintro _ wq ⟨rfl,hq⟩;have cI:=hq.symm;clear hq;subst cI)
 simp[bodyPostS,results,results43]
theorem LV(a b:Nat)(w:World):
  CallsD prog 43 #[.pointer (some ⟨a,0,none⟩),.pointer (some ⟨b,0,none⟩)] .returning w fun r u' w'=>r= .returned (.tuple #[])/\u'= .returning/\w'=w:=by
 refine callsD_of_wpS func43 rfl fun c₀ cs hu=>?_;apply wpS_seq;apply wpS_region;simp[wpOpsS,go_sem,recoverD,hu,ntmps43,Exit.thenS];apply wpS_seq;apply wpS_region;simp[wpOpsS,go_sem,Exit.thenS];refine wpS_cond (t:=false) (by simp[Act.eval,Array.replicate]) ?_;simp only[Bool.false_eq_true,if_false];refine wpS_of_wp (wp_skip ?_);cases c₀;simp_all[bodyPostS,results,results43]
attribute [local go_sem↓] Go.wp_at_zero Go.wp_at_succ
structure xK(w:World)(X:Nat->Prop)(pa:Option Addr)(L:List (List Nat)):Prop where
 cell:∀i pk,L[i]? =some pk->∃b o ao c,pa=some ⟨b,o,none⟩/\X b/\w.cell? ⟨b,o+i,none⟩=some (.slice ao pk.length c)/\pk.length<=c/\(∀x∈pk,x<256)/\(0<pk.length->∃g off,ao=some ⟨g,off,none⟩/\X g/\∀j,j<pk.length->w.cell? ⟨g,off+j,none⟩=some (.int .u8 ((pk[j]?.getD 0:Nat):Int)))
theorem xK.same{w':World}{X:Nat->Prop}{L:List (List Nat)}(h:xK w X pa L)(hk:∀b,b<w.heap.size->X b->w'.heap[b]? =w.heap[b]?):xK w' X pa L:=
 ⟨fun i pk hi=>by
  obtain⟨b,o,ao,c,h1,h2,h3,h4,h5,h6⟩:=h.cell i pk hi;refine⟨b,o,ao,c,h1,h2,dz h3 (hk _ (bR h3) h2),h4,h5,fun h0=>?_⟩;obtain⟨g,off,k1,k2,k3⟩:=h6 h0;exact⟨g,off,k1,k2,fun j hj=>dz (k3 j hj) (hk _ (bR (k3 j hj)) k2)⟩⟩
theorem QN(b:Nat)(y e:Int)(older:List PanicEntry)(w:World)(hq:aB w b 39 [.int .i64 y]):
  CallsD prog 40 #[.pointer (some ⟨b,0,none⟩)] (.panicking ({v:=bq e,recovered:=false}::older)) w fun r u' w'=>
   r= .returned (.tuple #[])/\u'= .panicking ({v:=bq e,recovered:=true}::older)/\w'=(w.alloc (.cells #[.int .i64 e] 116)).setCell ⟨b,0,none⟩ (.int .i64 e):=by
 refine callsD_of_wpS func40 rfl fun c₀ cs hu=>?_;apply wpS_seq;apply wpS_region;simp[wpOpsS,go_sem,recoverD,hu,ntmps40,Exit.thenS];have ht:(#[Value.pointer (some (⟨b,0,none⟩:Addr))]++((Array.replicate 6 undef).setIfInBounds 1 (bq e)).setIfInBounds 0 (bq e))=#[Value.pointer (some ⟨b,0,none⟩),bq e,bq e,undef,undef,undef,undef]:=rfl;rw[ht];clear ht;have bd:∀w,(binOp .neq 20 (bq e) .nilIface).run prog w= .ok (.bool true) w:=fun _=>rfl;have k_:∀w,(eqGuard .neq 20 (.tmp 3) (.const .nilIface) (bq e) .nilIface).run prog w= .ok () w:=fun _=>rfl;have EW:=hide (Au e w);have km:=hq.alloc (.cells #[.int .i64 e] 116);generalize w.alloc (.cells #[.int .i64 e] 116)=w1 at EW km⊢;generalize bq e=F at bd k_ EW⊢;have q1:=km.cell 0 _ rfl;have q2:=km.frozen 0;clear hq km hu;refine wpS_of_wp ?_;go_wp2_with (go_at_call 34;refine EW.out.mono ?_;rintro _ wq ⟨rfl,hq⟩;have cI:=hq.symm;clear hq;subst cI)
 simp[bodyPostS,results,results40]
theorem U5(b:Nat)(w:World):
  CallsD prog 40 #[.pointer (some ⟨b,0,none⟩)] .returning w fun r u' w'=>r= .returned (.tuple #[])/\u'= .returning/\w'=w:=by
 refine callsD_of_wpS func40 rfl fun c₀ cs hu=>?_;apply wpS_seq;apply wpS_region;simp[wpOpsS,go_sem,recoverD,hu,ntmps40,Exit.thenS];apply wpS_seq;apply wpS_region;simp[wpOpsS,go_sem,Exit.thenS];refine wpS_cond (t:=false) (by simp[Act.eval,Array.replicate]) ?_;simp only[Bool.false_eq_true,if_false];refine wpS_of_wp (wp_skip ?_);cases c₀;simp_all[bodyPostS,results,results40]
theorem bP{P:Program}{fn:Func}{T T':Array Value}{R:Ending->World->Prop}(h:results fn T'=results fn T):∀(ds:List Deferred) (u:FrameMode) (w:World),Leaves P fn T R ds u w->Leaves P fn T' R ds u w
 | [],.returning,w,⟨v,h1,h2⟩=>⟨v,by rw[h];exact h1,h2⟩
 | [],.panicking _,_,h1=>h1
 | [],.run,_,h1=>h1
 |d::ds,u,w,⟨h1,fv,cap,f,args,h2,h3,h4⟩=>⟨h1,fv,cap,f,args,h2,h3,h4.mono fun e u' w' he=>by
  cases e with
  |returned v=>exact bP h ds _ _ he
  |panicked ch=>exact bP h ds _ _ he
  |outgrown=>exact he⟩
theorem fA(T:Array Value)(d:Nat)(v:Value)(h4:d≠4)(h5:d≠5):results f20 T=results f20 (T.setIfInBounds d v):=by
 have hr:f20.results=#[.tmp 4,.cell 5 39]:=rfl;have e4:(T.setIfInBounds d v).getD 4 undef=T.getD 4 undef:=by simp[h4]
 have e5:(T.setIfInBounds d v).getD 5 undef=T.getD 5 undef:=by simp[h5]
 simp only[results,hr];rw[Array.mapM_eq_mapM_toList,Array.mapM_eq_mapM_toList];simp only[List.mapM_cons,List.mapM_nil,e4,e5]
theorem Jk{T:Array Value}{R:Ending->World->Prop}{w5:World}{eb:Nat}{c:Int}(e:Nat)(h4:T.getD 4 undef= .int .i64 c)(h5:T.getD 5 undef= .pointer (some ⟨eb,0,none⟩))(hE:aB w5 eb 39 [.int .i64 0])(hR:R (.returned (.tuple #[.int .i64 c,.int .i64 (e:Nat)])) ((w5.alloc (.cells #[.int .i64 (e:Nat)] 116)).setCell ⟨eb,0,none⟩ (.int .i64 (e:Nat)))):
  Leaves prog f20 T R [{target:=.fn (.func 40) #[.pointer (some ⟨eb,0,none⟩)],args:=#[]}] (.panicking [{v:=bq (e:Nat),recovered:=false}]) w5:=by
 refine leaves_cons (f:=40) (args:=#[.pointer (some ⟨eb,0,none⟩)]) (by simp) (by simp[go_sem]) ?_;have d0:=((hE.alloc (.cells #[.int .i64 (e:Nat)] 116)).set 0 (.int .i64 (e:Nat))).cell 0 _ rfl;refine(QN eb 0 e [] w5 hE).mono ?_;rintro _ u' w'' ⟨rfl,rfl,hw⟩;subst hw;generalize (w5.alloc (.cells #[.int .i64 (e:Nat)] 116)).setCell ⟨eb,0,none⟩ (.int .i64 (e:Nat))=w6 at d0 hR⊢;have h4':T[4]?.getD undef= .int .i64 c:=by simpa using h4
 have h5':T[5]?.getD undef= .pointer (some ⟨eb,0,none⟩):=by simpa using h5
 refine⟨_,?_,hR⟩;have hr:f20.results=#[.tmp 4,.cell 5 39]:=rfl;simp only[results,hr];simp[Result.andThen,h4',h5',asAddr];go_simp
theorem Ei{F3:Nat->Prop}{w3:World}{st:bC.St}{A:Nat->OD}(h:LG w3 F3 lb mr st l A)(hF:∀b,F b->b<w.heap.size)(h3:∀b,F3 b->F b\/w.heap.size+1<=b)(hk:Kp F w w3)(hs:w.heap.size<w3.heap.size)(o:Obj)(v:Value):gF F w ((w3.alloc o).setCell ⟨w.heap.size,0,none⟩ v) lb mr st:=by
 have gR:∀b,b<w3.heap.size->b≠w.heap.size->((w3.alloc o).setCell ⟨w.heap.size,0,none⟩ v).heap[b]? =w3.heap[b]? :=fun b hb cq=>by
  have:((w3.alloc o).setCell ⟨w.heap.size,0,none⟩ v).heap[b]? =(w3.alloc o).heap[b]? :=by simp[World.setCell,Array.getElem?_modify,Ne.symm cq]
  rw[this,blk_alloc_lt _ _ _ hb]
 have cC:((w3.alloc o).setCell ⟨w.heap.size,0,none⟩ v).heap.size=w3.heap.size+1:=by simp[World.setCell]
 refine⟨F3,l,A,h.same fun b hb=>gR b (h.lt b hb) ?_,fun b hb=>(h3 b hb).imp id (by omega),hk.os,hk.tape,hk.output,by have:=hk.size;omega,fun b h1 h2=>?_⟩
 .rcases h3 b hb with h1|h1
  .have:=hF b h1;omega
  .omega
 .rw[gR b (by omega) (by omega)];exact hk.block b h1 h2
theorem DK(st:bC.St)(pk:List Nat)(ls:List (List Nat)):bC.hear st (pk::ls)=if(bC.dY st pk).2.2=0 then((bC.hear (bC.dY st pk).1 ls).1,(bC.dY st pk).2.1+(bC.hear (bC.dY st pk).1 ls).2.1,(bC.hear (bC.dY st pk).1 ls).2.2)else bC.dY st pk:=by
 generalize hr:bC.dY st pk=r;obtain⟨a,b,e⟩:=r;have h0:bC.hear st (pk::ls)=match bC.dY st pk with
  |(st',c,0)=>let r:=bC.hear st' ls;(r.1,c+r.2.1,r.2.2)
  |(st',c,e)=>(st',c,e):=rfl
 rw[h0,hr];cases e with
 |zero=>rfl
 |succ e=>simp
theorem DL(st:bC.St)(pk:List Nat):(bC.dY st pk).2.1<=1/\((bC.dY st pk).2.2≠0->(bC.dY st pk).2.1=0):=by
 unfold bC.dY;repeat' split
 all_goals simp
theorem vK{X:Nat->Prop}{st:bC.St}{A:Nat->OD}(h:LG w F lb mr st l A){L:List (List Nat)}{np g_:Nat}(hP:xK w X pa L)(hX:∀b,X b->¬F b/\b<w.heap.size)(DG:Hid (L.length=np))(hnp2:np<4611686018427387904):
  Calls prog 20 #[.pointer (some ⟨lb,0,none⟩),.slice pa np g_] w fun e w'=>
   e= .returned (.tuple #[.int .i64 ((bC.hear st L).2.1:Nat),.int .i64 ((bC.hear st L).2.2:Nat)])/\gF F w w' lb mr (bC.hear st L).1:=by
 obtain⟨R,hR⟩:∃R,R=bC.hear st L:=⟨_,rfl⟩;rw[<-hR];have V1:=hide hR;clear hR;have Rp:∀(fn:Fn) (first cap:Array Value) (w:World),(Instr.makeFunc fn first cap).run prog w= .ok (.func fn first cap) w:=fun _ _ _ _=>rfl;have cy:=hide ((Below.refl w.heap.size w).alloc (Nat.le_refl _) (.cells #[.int .i64 0] 39));have HE0:=hide (aK w #[.int .i64 0] 39);have HS0:Hid ((w.alloc (.cells #[.int .i64 0] 39)).heap.size=w.heap.size+1):=by show _=_;simp
 have HL0:=hide (h.later cy.out);have HP0:=hide (hP.same (w':=w.alloc (.cells #[.int .i64 0] 39)) fun b hb _=>cy.out.block b hb);have HF:Hid (∀b,F b->b<w.heap.size):=h.lt;have HXx:=hide hX;clear h hP hX;go_enter_defers func20,ntmps20
 go_wp2_with fail
 go_loopw [4,11] (fun cv iv wr=>∃(i c:Nat) (Fi:Nat->Prop) (tN:bC.St) (li:List (Nat×Nat)) (Ai:Nat->OD),cv= .int .i64 c/\iv= .int .i64 i/\i<=np/\c<=i/\Hid (R=((bC.hear tN (L.drop i)).1,c+(bC.hear tN (L.drop i)).2.1,(bC.hear tN (L.drop i)).2.2))/\Hid (LG wr Fi lb mr tN li Ai)/\Hid (∀b,Fi b->F b\/w.heap.size+1<=b)/\Hid (Kp F w wr)/\Hid (w.heap.size<wr.heap.size)/\Hid (aB wr w.heap.size 39 [.int .i64 0])/\Hid (xK wr X pa L))
  (fun _ x _=>leftOf np (intOf x).toNat)
 case atStart=>
  refine⟨0,0,F,st,l,A,rfl,rfl,by omega,by omega,?_,HL0.out,fun b hb=>.inl hb,⟨cy.out.os,cy.out.tape,cy.out.output,cy.out.size,fun k hk _=>cy.out.block k hk⟩,?_,HE0.out,HP0.out⟩
  .show R=_;rw[V1.out,List.drop_zero,Nat.zero_add]
  .show _<_;rw[HS0.out];omega
 case round=>
  obtain⟨i,c,Fi,tN,li,Ai,rfl,rfl,hi,hci,xC,QW,QY,oL,Ga,Y6,TE⟩:=hrel;by_cases ai:i<np
  .obtain⟨pk,gr⟩:∃pk,L[i]? =some pk:=⟨_,List.getElem?_eq_getElem (by rw[DG.out];exact ai)⟩;obtain⟨b,o,ao,cp,rfl,Tg,bm,la,UR,lR⟩:=TE.out.cell i pk gr;obtain⟨m,hm⟩:∃m,m=pk.length:=⟨_,rfl⟩;rw[<-hm]at bm la lR;replace hm:=hide hm;replace UR:=hide UR;replace gr:=hide gr;have sg:(0:Int)<=(i:Int):=by omega
   have qi:(i:Int)<(np:Int):=by omega
   have y_:=QW.out.XZ.cell 0 _ rfl;have BW:Below wr.heap.size wr wr.drew:=(Below.refl _ _).drew;have wb:L.drop i=pk::L.drop (i+1):=by
    have uc:i<L.length:=by rw[DG.out];exact ai
    rw[List.drop_eq_getElem_cons uc];have e:=gr.out;rw[List.getElem?_eq_getElem uc]at e;rw[Option.some.inj e]
   rw[wb,DK]at xC;clear wb;go_wp2_with fail
   by_cases hp:Tx.bT pk
   .replace hp:=hide hp;obtain⟨g,off,rfl,hXg,sk⟩:=lR (by have:=hp.out.1;have:=hm.out;omega);have UP:Hid (∀w2,Below wr.heap.size wr w2->Calls prog 35 #[.slice (some ⟨g,off,none⟩) m cp] w2 fun r w'=>r= .returned (.tuple #[zX pk,.slice (some ⟨g,off+10,none⟩) (m-10) (cp-10)])/\Below w2.heap.size w2 w'):=fun w2 cq=>jF g off m cp pk w2 ⟨hm.out.symm,UR.out,fun _=>⟨g,off,rfl,fun j hj=>cell_later cq (sk j hj)⟩⟩ la hp.out;have UY:m-10=pk[5]?.getD 0:=by have:=hp.out.2.2.2.2.2.2.2.2.2;have:=hm.out;omega
    have AD:Hid (∀w2,Below wr.heap.size wr w2->Calls prog 41 #[.map (some mr),zX pk,.slice (some ⟨g,off+10,none⟩) (m-10) (cp-10)] w2 fun e w'=>e=IK (bC.dY tN pk).2.2 (.bool (decide ((bC.dY tN pk).2.1=1)))/\gF Fi w2 w' lb mr (bC.dY tN pk).1):=fun w2 cq=>by
     rw[UY];refine add_LG (QW.out.later cq) hp.out UR.out (fun j hj=>?_);have hj2:10+j<m:=by rw[<-UY]at hj;omega
     have:=cell_later cq (sk (10+j) hj2);rw[List.getElem?_drop];rw[Nat.add_assoc];exact this
    obtain⟨hv,hhv⟩:∃hv,hv=zX pk:=⟨_,rfl⟩;rw[<-hhv]at UP AD;clear hhv bm sk UY lR;refine wp_region_held_drew (S:=fun w'=>w'.cell? ⟨lb,0,none⟩=some (.map (some mr))) (by kernel_rfl) y_ (fun kh=>?_);refine wpAnyH_take (i:=0) (v:=?va0) rfl (by kernel_rfl) (by kernel_rfl) (by kernel_rfl) (fun _ _ _ h=>bP (fA _ _ _ (by decide) (by decide)) _ _ _ h) (Or.inl ⟨by rfl,?XX⟩) (by assumption) ?resta0
    case XX=>(intro wz bz;go_simp;try (with_reducible rfl))
    try go_frame
    refine wpAnyH_take (i:=1) (v:=?va1) rfl (by kernel_rfl) (by kernel_rfl) (by kernel_rfl) (fun _ _ _ h=>bP (fA _ _ _ (by decide) (by decide)) _ _ _ h) (Or.inl ⟨by rfl,?XS⟩) (by assumption) ?resta1
    case XS=>(intro wz bz;go_simp;try (with_reducible rfl))
    try go_frame
    refine wpAnyH_take (i:=2) (v:=?va2) rfl (by kernel_rfl) (by kernel_rfl) (by kernel_rfl) (fun _ _ _ h=>bP (fA _ _ _ (by decide) (by decide)) _ _ _ h) (Or.inl ⟨by rfl,?XN⟩) (by assumption) ?resta2
    case XN=>(intro wz bz;go_simp;try (with_reducible rfl))
    try go_frame
    refine wpAnyH_take (i:=3) (v:=?va3) rfl (by kernel_rfl) (by kernel_rfl) (by kernel_rfl) (fun _ _ _ h=>bP (fA _ _ _ (by decide) (by decide)) _ _ _ h) (Or.inl ⟨by rfl,?Xs⟩) (by assumption) ?resta3
    case Xs=>(intro wz bz;have eR:=bz;go_simp;try (with_reducible rfl))
    try go_frame
    refine wpAnyH_take (i:=4) (v:=?va4) rfl (by kernel_rfl) (by kernel_rfl) (by kernel_rfl) (fun _ _ _ h=>bP (fA _ _ _ (by decide) (by decide)) _ _ _ h) (Or.inl ⟨by rfl,?W'⟩) (by assumption) ?resta4
    case W'=>(intro wz bz;go_simp;try (with_reducible rfl))
    try go_frame
    refine wpAnyH_ready (rs:= [5]) (by kernel_rfl) (by simp) ?_;refine AllReadyH.cons rfl (fun K hK=>?_) ?_;rotate_left
    .exact AllReadyH.nil
    go_simp;go_at_call 35
    refine(UP.out _ BW).mono ?_;rintro _ w3 ⟨rfl,cQ⟩;have ic:Below wr.heap.size wr w3:=BW.trans (cQ.mono BW.size);go_wp2_with fail
    refine hK.out _ _ (cell_later ic y_) (fun oX=>?_);clear hK K;try go_frame
    refine wpAnyH_take (i:=6) (v:=?va6) rfl (by kernel_rfl) (by kernel_rfl) (by kernel_rfl) (fun _ _ _ h=>bP (fA _ _ _ (by decide) (by decide)) _ _ _ h) (Or.inl ⟨by rfl,?W8⟩) (by assumption) ?resta6
    case W8=>(intro wz bz;go_simp;try (with_reducible rfl))
    try go_frame
    refine wpAnyH_take (i:=7) (v:=?va7) rfl (by kernel_rfl) (by kernel_rfl) (by kernel_rfl) (fun _ _ _ h=>bP (fA _ _ _ (by decide) (by decide)) _ _ _ h) (Or.inl ⟨by rfl,?W7⟩) (by assumption) ?resta7
    case W7=>(intro wz bz;go_simp;try (with_reducible rfl))
    try go_frame
    refine wpAnyH_ready (rs:= [8]) (by kernel_rfl) (by simp) ?_;refine AllReadyH.cons rfl (fun K hK=>?_) ?_;rotate_left
    .exact AllReadyH.nil
    go_simp;go_at_call 41
    refine(AD.out _ ic).mono ?_;rintro _ w5 ⟨rfl,F5,l5,A5,qt,xf,ik⟩;have eA:=DL tN pk;have mw:=ic.size;have De:=ik.size;have QZ:Hid (∀b,F5 b->F b\/w.heap.size+1<=b):=fun b hb=>by
     have:=Ga.out;rcases xf b hb with h1|h1
     .exact QY.out b h1
     .exact .inr (by omega)
    have Mx:∀b,b<w.heap.size+1->¬F b->¬Fi b:=fun b h1 h2 h3=>by
     rcases QY.out b h3 with h4|h4
     .exact h2 h4
     .omega
    have QX:Hid (Kp F w w5):=⟨ik.os.trans (ic.os.trans oL.out.os),ik.tape.trans (ic.tape.trans oL.out.tape),ik.output.trans (ic.output.trans oL.out.output),by have:=oL.out.size;omega,fun b h1 h2=>by
     have:=oL.out.size;rw[ik.block b (by omega) (Mx b (by omega) h2),ic.block b (by omega),oL.out.block b h1 h2]⟩
    have Uv:Hid (aB w5 w.heap.size 39 [.int .i64 0]):=by
     have hl:=Ga.out;refine(Y6.out.later ic).of_block (ik.block _ (by omega) (Mx _ (by omega) fun h=>?_));have:=HF.out _ h;omega
    have Bx:Hid (w.heap.size<w5.heap.size):=by
     show _<_;have:=Ga.out;omega
    have hP5:Hid (xK w5 X (some ⟨b,o,none⟩) L):=(TE.out.same (w':=w3) fun k hk _=>ic.block k hk).same fun k hk hx=>by
     have ir:=HXx.out k hx;exact ik.block k hk (Mx k (by omega) ir.1)
    have RU:=hide qt;clear qt xf ik Mx mw De QW QY oL Ga Y6 TE cQ ic;generalize bC.dY tN pk=r at xC eA RU⊢;obtain⟨st5,c5,e5⟩:=r;dsimp only at xC eA RU⊢;by_cases he:e5=0
    .subst he;rw[XC];simp only[if_true]at xC;refine hK.out _ _ (RU.out.XZ.cell 0 _ rfl) (fun ur=>?_);clear hK K;try go_frame
     refine wpAnyH_done (by kernel_rfl) ?_ _;have iq:Hid (leftOf np (i+1)<leftOf np i):=aW (by omega) ai;have hrel:Hid (∀(cv iv:Int),cv=((c+c5:Nat):Int)->iv=((i+1:Nat):Int)->∃(i c:Nat) (Fi:Nat->Prop) (tN:bC.St) (li:List (Nat×Nat)) (Ai:Nat->OD),Value.int .i64 cv= .int .i64 c/\Value.int .i64 iv= .int .i64 i/\i<=np/\c<=i/\Hid (R=((bC.hear tN (L.drop i)).1,c+(bC.hear tN (L.drop i)).2.1,(bC.hear tN (L.drop i)).2.2))/\Hid (LG w5 Fi lb mr tN li Ai)/\Hid (∀b,Fi b->F b\/w.heap.size+1<=b)/\Hid (Kp F w w5)/\Hid (w.heap.size<w5.heap.size)/\Hid (aB w5 w.heap.size 39 [.int .i64 0])/\Hid (xK w5 X (some ⟨b,o,none⟩) L)):=by
      rintro _ _ rfl rfl;refine⟨i+1,c+c5,F5,st5,l5,A5,rfl,rfl,by omega,by have:=eA.1;omega,?_,RU.out,QZ.out,QX.out,Bx.out,Uv.out,hP5.out⟩;show R=_;rw[xC.out,Nat.add_assoc]
     have di:c5<=1:=eA.1;clear xC QZ QX Uv Bx hP5 RU UP AD eA oX ur kh;by_cases h1:c5=1
     .subst h1;have dm:IntKind.i64.wrap ((c:Int)+1)=((c+1:Nat):Int):=aH _ (by omega) (by omega);have lL:IntKind.i64.wrap ((i:Int)+1)=((i+1:Nat):Int):=aH _ (by omega) (by omega);go_wp2;go_roundw
      case rel=>exact hrel.out _ _ (by go_num) (by go_num)
      case measure=>exact iq.out
     .obtain rfl:c5=0:=by omega
      have lL:IntKind.i64.wrap ((i:Int)+1)=((i+1:Nat):Int):=aH _ (by omega) (by omega);go_wp2;go_roundw
      case rel=>exact hrel.out _ _ (by go_num) (by go_num)
      case measure=>exact iq.out
    .rw[XD he];simp only[if_neg he]at xC;have hc5:=eA.2 he;refine Jk e5 rfl rfl Uv.out ?_;rw[xC.out,hc5];exact⟨rfl,Ei RU.out HF.out QZ.out QX.out Bx.out _ _⟩
   .have UP:Hid (∀w2,Below wr.heap.size wr w2->Calls prog 35 #[.slice ao m cp] w2 fun r w'=>r= .panicked [{v:=bq 2,recovered:=false}]/\Below w2.heap.size w2 w'):=fun w2 cq=>wG ao m cp pk w2 ⟨hm.out.symm,UR.out,fun h0=>by
     obtain⟨g,off,e,_,sk⟩:=lR h0;exact⟨g,off,e,fun j hj=>cell_later cq (sk j hj)⟩⟩ hp
    replace hp:=hide hp;clear bm lR;refine wp_region_held_drew (S:=fun w'=>w'.cell? ⟨lb,0,none⟩=some (.map (some mr))) (by kernel_rfl) y_ (fun kh=>?_);refine wpAnyH_take (i:=0) (v:=?vb0) rfl (by kernel_rfl) (by kernel_rfl) (by kernel_rfl) (fun _ _ _ h=>bP (fA _ _ _ (by decide) (by decide)) _ _ _ h) (Or.inl ⟨by rfl,?W6⟩) (by assumption) ?restb0
    case W6=>(intro wz bz;go_simp;try (with_reducible rfl))
    try go_frame
    refine wpAnyH_take (i:=1) (v:=?vb1) rfl (by kernel_rfl) (by kernel_rfl) (by kernel_rfl) (fun _ _ _ h=>bP (fA _ _ _ (by decide) (by decide)) _ _ _ h) (Or.inl ⟨by rfl,?W5⟩) (by assumption) ?restb1
    case W5=>(intro wz bz;go_simp;try (with_reducible rfl))
    try go_frame
    refine wpAnyH_take (i:=2) (v:=?vb2) rfl (by kernel_rfl) (by kernel_rfl) (by kernel_rfl) (fun _ _ _ h=>bP (fA _ _ _ (by decide) (by decide)) _ _ _ h) (Or.inl ⟨by rfl,?W4⟩) (by assumption) ?restb2
    case W4=>(intro wz bz;go_simp;try (with_reducible rfl))
    try go_frame
    refine wpAnyH_take (i:=3) (v:=?vb3) rfl (by kernel_rfl) (by kernel_rfl) (by kernel_rfl) (fun _ _ _ h=>bP (fA _ _ _ (by decide) (by decide)) _ _ _ h) (Or.inl ⟨by rfl,?W3⟩) (by assumption) ?restb3
    case W3=>(intro wz bz;have eR:=bz;go_simp;try (with_reducible rfl))
    try go_frame
    refine wpAnyH_take (i:=4) (v:=?vb4) rfl (by kernel_rfl) (by kernel_rfl) (by kernel_rfl) (fun _ _ _ h=>bP (fA _ _ _ (by decide) (by decide)) _ _ _ h) (Or.inl ⟨by rfl,?W2⟩) (by assumption) ?restb4
    case W2=>(intro wz bz;go_simp;try (with_reducible rfl))
    try go_frame
    refine wpAnyH_ready (rs:= [5]) (by kernel_rfl) (by simp) ?_;refine AllReadyH.cons rfl (fun K hK=>?_) ?_;rotate_left
    .exact AllReadyH.nil
    go_simp;go_at_call 35
    refine(UP.out _ BW).mono ?_;rintro _ w3 ⟨rfl,cQ⟩;have ic:Below wr.heap.size wr w3:=BW.trans (cQ.mono BW.size);refine Jk 2 rfl rfl (Y6.out.later ic) ?_;have qq:R=(tN,c,2):=by
     have h1:bC.dY tN pk=(tN,0,2):=by
      unfold bC.dY;rw[if_neg hp.out]
     rw[xC.out,h1];rfl
    rw[qq];refine⟨rfl,Ei (QW.out.later ic) HF.out QY.out ⟨ic.os.trans oL.out.os,ic.tape.trans oL.out.tape,ic.output.trans oL.out.output,Nat.le_trans oL.out.size ic.size,fun b h1 h2=>?_⟩ (Nat.lt_of_lt_of_le Ga.out ic.size) _ _⟩;rw[ic.block b (Nat.lt_of_lt_of_le h1 oL.out.size),oL.out.block b h1 h2]
  .obtain rfl:i=np:=by omega
   have qq:R=(tN,c,0):=by
    rw[xC.out,List.drop_eq_nil_of_le (by rw[DG.out];exact Nat.le_refl _)];rfl
   have e0:=Y6.out.cell 0 _ rfl;have e1:=Y6.out.frozen 0;have d0:=(Y6.out.set 0 (.int .i64 0)).cell 0 _ rfl;go_wp2;refine leaves_cons (f:=40) (args:=#[.pointer (some ⟨w.heap.size,0,none⟩)]) (by simp) (by simp[go_sem]) ?_;refine(U5 w.heap.size _).mono ?_;rintro e u' w'' ⟨rfl,rfl,rfl⟩;have gR:∀b,b≠w.heap.size->(wr.setCell ⟨w.heap.size,0,none⟩ (.int .i64 0)).heap[b]? =wr.heap[b]? :=fun b hb=>by simp[World.setCell,Array.getElem?_modify,Ne.symm hb]
   have Vf:gF F w (wr.setCell ⟨w.heap.size,0,none⟩ (.int .i64 0)) lb mr R.1:=by
    rw[qq];refine⟨Fi,li,Ai,QW.out.same fun b hb=>gR b ?_,fun b hb=>(QY.out b hb).imp id (by omega),oL.out.os,oL.out.tape,oL.out.output,by have:=oL.out.size;simpa[World.setCell]using this,fun b h1 h2=>?_⟩
    .rcases QY.out b hb with h1|h1
     .have:=HF.out b h1;omega
     .omega
    .rw[gR b (by omega)];exact oL.out.block b h1 h2
   have zr:=hide Vf;clear Vf gR;generalize wr.setCell ⟨w.heap.size,0,none⟩ (.int .i64 0)=w4 at d0 zr⊢;rw[qq]at zr⊢;simp[Leaves,settle,results,results20,go_sem,d0];exact zr.out
end
section
open Go.RowKit Go.Deep
variable{bs l:List Nat}
namespace Tx
def dV(bs:List Nat):List Nat×Nat:=
 match dI bs with
 |none=>([],3)
 |some l=>if bT l then(l,0)else([],2)
theorem Gx(h:dI bs=none):dV bs=([],3):=by unfold dV;rw[h]
theorem OT(h:dI bs=some l)(hp:bT l):dV bs=(l,0):=by unfold dV;rw[h];exact if_pos hp
theorem J9(h:dI bs=some l)(hp:¬bT l):dV bs=([],2):=by unfold dV;rw[h];exact if_neg hp
theorem w_(h:dI bs=some l):∀x∈l,x<256:=by
 unfold dI at h;cases hp:iX bs with
 |none=>rw[hp]at h;cases h
 |some t=>
  rw[hp]at h;replace h:(if rV t then some (eZ t)else none)=some l:=h;split at h
  .injection h with h;subst h;exact Ru t
  .cases h
end Tx
theorem bK.OE{w:World}{v:Value}(h:bK w 5 v (bO bs))(hb:∀x∈bs,x<256):∃ao cap,v= .slice ao bs.length cap/\bs.length<=cap/\mF w ao bs.length bs:=by
 rcases h with⟨h1,h2⟩|⟨g,cap,cur,h1,h2,h3,h4,h5,h6⟩
 .have hl:bs.length=0:=by have:=congrArg List.length h2;simpa[bO]using this
  exact⟨none,0,by rw[hl];exact h1,by omega,rfl,hb,fun h0=>by omega⟩
 .rw[aP]at h1 h3 h6;refine⟨_,cap,h1,h3,rfl,hb,fun _=>⟨g,0,rfl,fun j hj=>?_⟩⟩;rw[Nat.zero_add];exact h2.cell j _ (take_at (xs:=bO bs) (by rw[aP];exact h6) (gX hj))
theorem nT(s:ByteArray)(N:Nat)(hN:Hid (s.size=N))(Aa:N<=100000000)(w:World)(ha:Alpha w):
  Calls prog 22 #[.string s] w fun e w'=>∃v,e= .returned (.tuple #[v,.int .i64 ((Tx.dV (bytesOf s)).2:Nat)])/\bK w' 5 v (bO (Tx.dV (bytesOf s)).1)/\(∀k,v.ownBlock=some k->w.heap.size<=k)/\Below w.heap.size w w':=by
 have Rp:∀(fn:Fn) (first cap:Array Value) (w:World),(Instr.makeFunc fn first cap).run prog w= .ok (.func fn first cap) w:=fun _ _ _ _=>rfl;have cy:=hide (((Below.refl w.heap.size w).alloc (Nat.le_refl _) (.cells #[.slice none 0 0] 28)).alloc (by simp) (.cells #[.int .i64 0] 39));have R1:=(aK w #[.slice none 0 0] 28).alloc (.cells #[.int .i64 0] 39);have R2:=aK (w.alloc (.cells #[.slice none 0 0] 28)) #[.int .i64 0] 39;rw[show(w.alloc (.cells #[.slice none 0 0] 28)).heap.size=w.heap.size+1 by simp]at R2;have RW:=hide (PZ s N hN Aa _ (ha.later cy.out));have i_:=hide R1;have Cl:=hide R2
 clear R1 R2 ha;obtain⟨A,hA⟩:∃A,A=Tx.dV (bytesOf s):=⟨_,rfl⟩;rw[<-hA];have HA:Hid (A=Tx.dV (bytesOf s)):=hA;clear hA;go_enter_defers func22,ntmps22
 go_wp2_with fail
 go_at_call 44
 refine RW.out.mono ?_;rintro _ w1 ⟨dp,bp⟩;have r1:=i_.out.later bp;have r2:=Cl.out.later bp;have dk:Hid (Below w.heap.size w w1):=by
  show Below _ _ _;exact cy.out.trans (bp.mono cy.out.size)
 rcases dp with⟨l,v,tP,rfl,br,kB⟩|⟨tP,rfl⟩
 .have ai:=Tx.w_ tP;have lL:Hid (w.heap.size+2=((w.alloc (.cells #[.slice none 0 0] 28)).alloc (.cells #[.int .i64 0] 39)).heap.size):=by show _=_;simp
  have hvb2:Hid (∀k,v.ownBlock=some k->w.heap.size+2<k):=fun k hk=>by have:=kB k hk;have:=lL.out;omega
  have r3:=r1.set 0 v;have r4:=r2.other (a:=⟨w.heap.size,0,none⟩) (by simp) v;have Z0:=br.setCell (i:=0) r1 (by decide) v;obtain⟨ao,cap,hv,dj,gI⟩:=Z0.OE ai;obtain⟨n,hn⟩:∃n,n=l.length:=⟨_,rfl⟩;rw[<-hn]at hv dj gI;subst hv;have c1:=r1.cell 0 _ rfl;have f1:=r1.frozen 0;have Cr:=hide (dk.out.setCell (p:=⟨w.heap.size,0,none⟩) (Nat.le_refl _) (.slice ao n cap));have c2:=r3.cell 0 _ rfl;have iS:=hide r3;have HR4:=hide r4;have HO:=hide Z0
  clear r1 r2 r3 r4 Z0 br kB bp hn;by_cases hp:Tx.bT l
  .rw[Tx.OT tP hp]at HA;obtain⟨b,off,NN⟩:∃b off,ao=some ⟨b,off,none⟩:=by
    obtain⟨h1,_,h3⟩:=gI;have h4:=hp.1;obtain⟨b,off,e,_⟩:=h3 (by omega);exact⟨b,off,e⟩
   subst NN;have UP:=hide (jF b off n cap l _ gI dj hp);clear hp gI ai dj;go_wp2_with fail
   go_at_call 35
   refine UP.out.mono ?_;rintro _ w3 ⟨rfl,cQ⟩;have r5:=iS.out.later cQ;have r6:=HR4.out.later cQ;have own3:=HO.out.later cQ;have pS:Hid (Below w.heap.size w w3):=by
    show Below _ _ _;exact Cr.out.trans (cQ.mono Cr.out.size)
   have e1:=r5.cell 0 _ rfl;have g1:=r5.frozen 0;have r7:=r6.other (a:=⟨w.heap.size,0,none⟩) (by simp) (.slice (some ⟨b,off,none⟩) n cap);have e2:=r7.cell 0 _ rfl;have g2:=r7.frozen 0;have r8:=(r5.set 0 (.slice (some ⟨b,off,none⟩) n cap)).other (a:=⟨w.heap.size+1,0,none⟩) (by simp) (.int .i64 0);have r9:=r7.set 0 (.int .i64 0);have d1:=r8.cell 0 _ rfl;have d2:=r9.cell 0 _ rfl;have OWN4:=hide ((own3.setCell (i:=0) r5 (by decide) (.slice (some ⟨b,off,none⟩) n cap)).setCell (i:=0) r7 (by decide) (.int .i64 0));have B4:=hide ((pS.out.setCell (p:=⟨w.heap.size,0,none⟩) (Nat.le_refl _) (.slice (some ⟨b,off,none⟩) n cap)).setCell (p:=⟨w.heap.size+1,0,none⟩) (Nat.le_succ _) (.int .i64 0));clear r5 r6 r7 r8 r9 own3 cQ c1 f1 c2;go_wp2;refine leaves_cons (f:=43) (args:=#[.pointer (some ⟨w.heap.size,0,none⟩),.pointer (some ⟨w.heap.size+1,0,none⟩)]) (by simp) (by simp[go_sem]) ?_;refine(LV w.heap.size (w.heap.size+1) _).mono ?_;rintro e u' w'' ⟨rfl,rfl,rfl⟩;generalize (w3.setCell ⟨w.heap.size,0,none⟩ (.slice (some ⟨b,off,none⟩) n cap)).setCell ⟨w.heap.size+1,0,none⟩ (.int .i64 0)=w4 at d1 d2 B4 OWN4⊢;rw[HA.out];simp[Leaves,settle,results,results22,go_sem,d1,d2];exact⟨OWN4.out,fun k hk=>by have:=hvb2.out k hk;omega,B4.out⟩
  .rw[Tx.J9 tP hp]at HA;have UP:=hide (wG ao n cap l _ gI hp);clear hp gI ai dj;go_wp2_with fail
   go_at_call 35
   refine UP.out.mono ?_;rintro _ w3 ⟨rfl,cQ⟩;have r5:=iS.out.later cQ;have r6:=HR4.out.later cQ;have pS:Hid (Below w.heap.size w w3):=by
    show Below _ _ _;exact Cr.out.trans (cQ.mono Cr.out.size)
   have r7:=((r5.alloc (.cells #[.int .i64 2] 116)).set 0 (.slice none 0 0)).other (a:=⟨w.heap.size+1,0,none⟩) (by simp) (.int .i64 2);have r8:=((r6.alloc (.cells #[.int .i64 2] 116)).other (a:=⟨w.heap.size,0,none⟩) (by simp) (.slice none 0 0)).set 0 (.int .i64 2);have d1:=r7.cell 0 _ rfl;have d2:=r8.cell 0 _ rfl;have TC:=hide (xg w.heap.size (w.heap.size+1) _ _ 2 [] w3 r5 r6);have B4:=((pS.out.alloc pS.out.size (.cells #[.int .i64 2] 116)).setCell (p:=⟨w.heap.size,0,none⟩) (Nat.le_refl _) (.slice none 0 0)).setCell (p:=⟨w.heap.size+1,0,none⟩) (Nat.le_succ _) (.int .i64 2);generalize ((w3.alloc (.cells #[.int .i64 2] 116)).setCell ⟨w.heap.size,0,none⟩ (.slice none 0 0)).setCell ⟨w.heap.size+1,0,none⟩ (.int .i64 2)=w4 at d1 d2 B4 TC;clear r5 r6 r7 r8 cQ c1 f1 c2;go_wp2_with fail
   refine leaves_cons (f:=43) (args:=#[.pointer (some ⟨w.heap.size,0,none⟩),.pointer (some ⟨w.heap.size+1,0,none⟩)]) (by simp) (by simp[go_sem]) ?_;refine TC.out.mono ?_;rintro e u' w'' ⟨rfl,rfl,hw⟩;rw[hw];rw[HA.out];simp[Leaves,settle,results,results22,go_sem,d1,d2];exact⟨h_ _ _,fun k hk=>by simp[Value.ownBlock]at hk,B4⟩
 .have HU:=Tx.Gx tP;rw[HU]at HA;clear HU;have r3:=((r1.alloc (.cells #[.int .i64 3] 116)).set 0 (.slice none 0 0)).other (a:=⟨w.heap.size+1,0,none⟩) (by simp) (.int .i64 3);have r4:=((r2.alloc (.cells #[.int .i64 3] 116)).other (a:=⟨w.heap.size,0,none⟩) (by simp) (.slice none 0 0)).set 0 (.int .i64 3);have d1:=r3.cell 0 _ rfl;have d2:=r4.cell 0 _ rfl;have TC:=hide (xg w.heap.size (w.heap.size+1) _ _ 3 [] w1 r1 r2);have B4:=((dk.out.alloc dk.out.size (.cells #[.int .i64 3] 116)).setCell (p:=⟨w.heap.size,0,none⟩) (Nat.le_refl _) (.slice none 0 0)).setCell (p:=⟨w.heap.size+1,0,none⟩) (Nat.le_succ _) (.int .i64 3);generalize ((w1.alloc (.cells #[.int .i64 3] 116)).setCell ⟨w.heap.size,0,none⟩ (.slice none 0 0)).setCell ⟨w.heap.size+1,0,none⟩ (.int .i64 3)=w4 at d1 d2 B4 TC;clear r1 r2 r3 r4;go_wp2_with fail
  refine leaves_cons (f:=43) (args:=#[.pointer (some ⟨w.heap.size,0,none⟩),.pointer (some ⟨w.heap.size+1,0,none⟩)]) (by simp) (by simp[go_sem]) ?_;refine TC.out.mono ?_;rintro e u' w'' ⟨rfl,rfl,hw⟩;rw[hw];rw[HA.out];simp[Leaves,settle,results,results22,go_sem,d1,d2];exact⟨h_ _ _,fun k hk=>by simp[Value.ownBlock]at hk,B4⟩
end
section
open Go.RowKit Go.Deep
attribute [local go_sem↓] Go.wp_at_zero Go.wp_at_succ
variable{F:Nat->Prop}{w:World}{lb mr:Nat}
namespace bC
def line(st:St)(bs:List Nat):St×Nat×Nat:=if(Tx.dV bs).2=0 then hear st [(Tx.dV bs).1]else(st,0,(Tx.dV bs).2)
theorem uI(st:St)(pk:List Nat):hear st [pk]=dY st pk:=by
 rw[DK];split
 .rename_i e;simp only[hear,Nat.add_zero];rw[<-e]
 .rfl
theorem Us(st:St)(bs:List Nat):(line st bs).2.1<=1/\((line st bs).2.2≠0->(line st bs).2.1=0):=by
 unfold line;split
 .rw[uI];exact DL _ _
 .simp
end bC
theorem gF.later{w1 w2:World}{st:bC.St}(hb:Below w.heap.size w w1)(h:gF F w1 w2 lb mr st):gF F w w2 lb mr st:=by
 obtain⟨F',l',A',h1,h2,h3⟩:=h;have hs:=hb.size;refine⟨F',l',A',h1,fun b h=>(h2 b h).imp id (by omega),h3.os.trans hb.os,h3.tape.trans hb.tape,h3.output.trans hb.output,by have:=h3.size;omega,fun b k1 k2=>?_⟩;rw[h3.block b (by omega) k2,hb.block b k1]
theorem gF.alpha{w2:World}{st:bC.St}(h:gF F w w2 lb mr st)(ha:Alpha w)(h0:¬F 0):Alpha w2:=fun i hi=>by
 obtain⟨_,_,_,_,_,h3⟩:=h;exact dz (ha i hi) (h3.block 0 ha.size h0)
theorem BO{st:bC.St}{l:List (Nat×Nat)}{A:Nat->OD}(h:LG w F lb mr st l A)(ha:Alpha w)(s:ByteArray)(N:Nat)(hN:Hid (s.size=N))(Aa:N<=100000000):
  Calls prog 39 #[.pointer (some ⟨lb,0,none⟩),.string s] w fun e w'=>
   e= .returned (.tuple #[.int .i64 ((bC.line st (bytesOf s)).2.1:Nat),.int .i64 ((bC.line st (bytesOf s)).2.2:Nat)])/\gF F w w' lb mr (bC.line st (bytesOf s)).1:=by
 have PW:=hide (nT s N hN Aa w ha);have HL:=hide h;clear h ha;obtain⟨A0,Cd⟩:∃A0,A0=Tx.dV (bytesOf s):=⟨_,rfl⟩;have hR:bC.line st (bytesOf s)=if A0.2=0 then bC.hear st [A0.1]else(st,0,A0.2):=by rw[Cd];rfl
 obtain⟨R,hRR⟩:∃R,R=bC.line st (bytesOf s):=⟨_,rfl⟩;rw[<-hRR]at hR⊢;rw[<-Cd]at PW;have ai:Hid (∀x∈A0.1,x<256):=by
  show∀x∈A0.1,x<256;rw[Cd];unfold Tx.dV;split
  .simp
  .rename_i l hl;split
   .exact Tx.w_ hl
   .simp
 clear Cd hRR;obtain⟨bs,e0⟩:=A0;dsimp only at hR PW ai;by_cases he:e0=0
 .subst he;rw[if_pos rfl]at hR;have HR:=hide hR;clear hR;go_enter func39,ntmps39;go_wp2_with fail
  go_at_call 22
  refine PW.out.mono ?_;rintro _ w1 ⟨v,rfl,br,kB,bp⟩;obtain⟨ao,cap,rfl,dj,gI⟩:=br.OE ai.out;have dk:=hide bp;have HO:=hide gI;have HV:=hide kB
  clear bp gI kB br;obtain⟨n,hn⟩:∃n,n=bs.length:=⟨_,rfl⟩;rw[<-hn]at dj HO HV⊢;replace hn:=hide hn;go_wp2_with fail
  have dC:=dk.out.size;have SJ:Below w.heap.size w (w1.alloc (.cells #[.slice ao n cap] 28)):=dk.out.alloc dC _;have hbB:Below w1.heap.size w1 (w1.alloc (.cells #[.slice ao n cap] 28)):=(Below.refl _ _).alloc (Nat.le_refl _) _;have ki:=HL.out.later SJ;have HW:=hide (vK ki (X:=fun b=>w.heap.size<=b/\b<(w1.alloc (.cells #[.slice ao n cap] 28)).heap.size) (pa:=some ⟨w1.heap.size,0,none⟩) (L:= [bs]) (np:=1) (g_:=1) ⟨fun i pk hi=>?_⟩ (fun b hb=>⟨fun hF=>by have:=HL.out.lt b hF;omega,hb.2⟩) (hide rfl) (by omega));rotate_left
  .cases i with
   |succ i=>simp at hi
   |zero=>
    simp only[List.getElem?_cons_zero,Option.some.injEq]at hi;subst hi;refine⟨w1.heap.size,0,ao,cap,rfl,⟨dC,by simp⟩,?_,by rw[<-hn.out];exact dj,ai.out,fun h0=>?_⟩
    .rw[<-hn.out];exact bU _ _ _ _ _ _ rfl
    .obtain⟨_,_,h3⟩:=HO.out;rw[<-hn.out]at h0;obtain⟨g,off,rfl,h4⟩:=h3 h0;refine⟨g,off,rfl,?_,fun j hj=>cell_later hbB (h4 j (by rw[hn.out];exact hj))⟩;have h5:=HV.out g rfl;have h6:g<w1.heap.size:=bR (h4 0 h0);refine⟨h5,?_⟩;simp;omega
  go_at_call 20
  refine HW.out.mono ?_;rintro _ w3 ⟨rfl,hA⟩;have HA:=hide (gF.later SJ hA);clear hA HW ki SJ hbB HL HV HO;rw[<-HR.out];go_wp2;go_ret2
  refine⟨rfl,?_⟩;rw[HR.out];exact HA.out
 .rw[if_neg he]at hR;have HR:=hide hR;have ud:¬((e0:Nat):Int)=0:=by omega
  clear hR;go_enter func39,ntmps39;go_wp2_with fail
  go_at_call 22
  refine PW.out.mono ?_;rintro _ w1 ⟨v,rfl,br,kB,bp⟩;have dk:=hide bp;clear bp br kB;go_wp2;go_ret2
  rw[HR.out];exact⟨rfl,F,l,A,HL.out.later dk.out,fun b hb=>.inl hb,Kp.of_below dk.out⟩
end
