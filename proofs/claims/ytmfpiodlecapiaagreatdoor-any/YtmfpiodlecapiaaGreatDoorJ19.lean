import Derived.Maps.RangeWalk
import Derived.Test.YtmfpiodlecapiaaGreatDoorJ18
set_option linter.unusedSimpArgs false
set_option maxHeartbeats 8000000
set_option maxRecDepth 100000
namespace Go.Proofs.YtmfpiodlecapiaaGreatDoor
open Go.RowKit Go.Deep Go.eO
attribute [local go_sem↓] Go.wp_at_zero Go.wp_at_succ
def Py(w wr:World):Prop:=∃nq,wr=w.drewN nq
theorem Py.cell{w wr:World}(h:Py w wr)(a:Addr):wr.cell? a=w.cell? a:=by obtain⟨n,rfl⟩:=h;rfl
theorem Py.more{w wr:World}(h:Py w wr)(m:Nat):Py w (wr.drewN m):=by obtain⟨n,rfl⟩:=h;exact⟨n+m,by simp⟩
def n_(Kz:Nat->Nat)(V:Nat):Nat->Nat
 |0=>0
 |z+1=>n_ Kz V z+Kz z+V
theorem AP(Kz:Nat->Nat)(V:Nat):∀N z,z<N->n_ Kz V z+Kz z+V<=n_ Kz V N
 |0,z,h=>by omega
 |N+1,z,h=>by
  simp only[n_];by_cases e:z=N
  ·subst e;omega
  ·have:=AP Kz V N z (by omega);omega
theorem CV(Kz:Nat->Nat)(V:Nat):∀N,(∀z,z<N->Kz z+V<=40)->n_ Kz V N<=40*N
 |0,_=>Nat.le_refl _
 |N+1,h=>by
  have h1:=CV Kz V N (fun z hz=>h z (by omega));have h3:=h N (by omega);simp only[n_];omega
theorem H6{Kn Kr:Act->World->Prop}(gn N vS gh M Gz pl V:Nat)(Kz:Nat->Nat)(pa:Nat->Nat->Option Addr)(hN:N<=256)(hK:∀z,z<N->Kz z+V<=40)(hM:n_ Kz V N=M)(w:World){v0 v1 v2 v4 j6 j7 j8 j9 a7 l5 l1 o6 b4 b3 a5 g6 k0 m8 m9 n2 m7 n3 n4 m0 l0 l7 n7 n8 j3 n5 n0 k1 k2 l8 k7 l3 n1 l6 l9 m5 k4 k5 o5 k3 k8 o7 k9 m3 n9 j4 l4 o2 o4 o1 j5 m4 m6 k6 n6 o0 l2 j2 f7 c2 h7 c4 g4 a8 c1 d6 d1 g7 i8 f3 b2 b0 b5 g3 g1 d3 c5 i3 b1 f0 c6 h9 i4 g8 d2 g9 g2 i6 i7 d9 c0 g0 d7 b6 f9 f1 a0 c8 i2 a4 b9 h8 f2 f4 a6 c9 c3 j1 c7 i5 b7 d4 f8 j0 d5 a9 b8 g5 f5 f6 d8 i9 d0:Value}
  (hn:∀z,z<N->w.cell? ⟨gn,z,none⟩=some (.int .i64 (Kz z:Nat)))(hh:∀z,z<N->∀j,j<Kz z+V->w.cell? ⟨gh,n_ Kz V z+j,none⟩=some (.bool (pa z j).isSome))(hV:w.cell? ⟨pl,2,none⟩=some (.int .i64 V))
  (hQ:∀wz,Py w wz->∀h16 ny h18 h23 Lx Lu Ls h27 SG SF SE h31 h32 Xd Xc Xb Xa h37 Lr Lp Lm Ll Lj h43 Lh h45 h46 h47 h48 SC h50 SB SA Sz Sv Sr Sn h57 Sm h59 h60 h61 h62 h63 h64 W_ W9 WZ,Kn ⟨#[v0,v1,v2,.slice (some ⟨gn,0,none⟩) N vS,v4,.slice (some ⟨gh,0,none⟩) M Gz,j6,j7,j8,j9,.pointer (some ⟨pl,0,none⟩),a7,.bool false,.int .i64 M,.int .i64 (kN Kz V pa N:Nat),.int .i64 (nN Kz V pa N:Nat),h16,ny,h18,b4,b3,a5,g6,h23,Lx,Lu,Ls,h27,SG,SF,SE,h31,h32,Xd,Xc,Xb,Xa,h37,Lr,Lp,Lm,Ll,Lj,h43,Lh,h45,h46,h47,h48,SC,h50,SB,SA,Sz,Sv,Sr,Sn,h57,Sm,h59,h60,h61,h62,h63,h64,W_,W9,WZ,j2,f7,c2,h7,c4,g4,a8,c1,d6,d1,g7,i8,f3,b2,b0,b5,g3,g1,d3,c5,i3,b1,f0,c6,h9,i4,g8,d2,g9,g2,i6,i7,d9,c0,g0,d7,b6,f9,f1,a0,c8,i2,a4,b9,h8,f2,f4,a6,c9,c3,j1,c7,i5,b7,d4,f8,j0,d5,a9,b8,g5,f5,f6,d8,i9,d0],[]⟩ wz):
  (dP [1,1,1,1,0] (Tryz.f21.body.getD .skip)).wp Tryz.prog (CX Kn Kr) ⟨#[v0,v1,v2,.slice (some ⟨gn,0,none⟩) N vS,v4,.slice (some ⟨gh,0,none⟩) M Gz,j6,j7,j8,j9,.pointer (some ⟨pl,0,none⟩),a7,.bool false,.int .i64 0,.int .i64 0,.int .i64 0,l5,l1,o6,b4,b3,a5,g6,k0,m8,m9,n2,m7,n3,n4,m0,l0,l7,n7,n8,j3,n5,n0,k1,k2,l8,k7,l3,n1,l6,l9,m5,k4,k5,o5,k3,k8,o7,k9,m3,n9,j4,l4,o2,o4,o1,j5,m4,m6,k6,n6,o0,l2,j2,f7,c2,h7,c4,g4,a8,c1,d6,d1,g7,i8,f3,b2,b0,b5,g3,g1,d3,c5,i3,b1,f0,c6,h9,i4,g8,d2,g9,g2,i6,i7,d9,c0,g0,d7,b6,f9,f1,a0,c8,i2,a4,b9,h8,f2,f4,a6,c9,c3,j1,c7,i5,b7,d4,f8,j0,d5,a9,b8,g5,f5,f6,d8,i9,d0],[]⟩ w:=by
 have HQ:=hide hQ;have Hn:=hide hn;have Hh:=hide hh;have HK:=hide hK
 have hM:=hide hM;clear hQ hn hh hK;simp only[Tryz.f21,Option.getD_some,dP];go_wp2;go_loopw [13,14,15,16] (fun a b c x wr=>∃z:Nat,z<=N/\a= .int .i64 (n_ Kz V z:Nat)/\b= .int .i64 (kN Kz V pa z:Nat)/\c= .int .i64 (nN Kz V pa z:Nat)/\x= .int .i64 z/\Py w wr) (fun _ _ _ x _=>leftOf N (intOf x).toNat)
 case atStart=>exact⟨0,by omega,rfl,rfl,rfl,rfl,0,rfl⟩
 case round=>
  obtain⟨z,hz,rfl,rfl,rfl,rfl,hdr⟩:=hrel;replace hdr:=hide hdr;by_cases hlt:z<N
  ·have e1:=(hdr.out.cell _).trans (Hn.out z hlt);have hVr:=(hdr.out.cell _).trans hV;have hkv:=HK.out z hlt;have ho:=CV Kz V z (fun y hy=>HK.out y (by omega));have hm:=AP Kz V N z hlt;rw[hM.out]at hm;have hsl:=BU Kz V pa z (fun y hy=>HK.out y (by omega));have hwl:=qY Kz V pa z;have hs0:=hide (show n_ Kz V (z+1)=n_ Kz V z+Kz z+V from rfl);have hs1:=hide (show nN Kz V pa (z+1)=nN Kz V pa z+fF (pa z) (Kz z+V)from rfl);have hs2:=hide (show kN Kz V pa (z+1)=kN Kz V pa z+if Kz z<=fF (pa z) (Kz z+V)then 1 else 0 from rfl);have hcl:=pW (pa z) (Kz z+V);have hhz:=hide (Hh.out z hlt);have e0:=hide (Hn.out z hlt);generalize n_ Kz V z=af at ho hm hs0 hhz;generalize nN Kz V pa z=sm at hsl hs1;generalize kN Kz V pa z=wh at hwl hs2;generalize Kz z=kk at e0 e1 hkv hm hs0 hs1 hs2 hcl hhz;obtain⟨nn,hnn⟩:∃nn,nn=kk+V:=⟨_,rfl⟩;have hz0:(0:Int)<=(z:Int):=by omega
   have hz1:(z:Int)<(N:Int):=by omega
   have wr1:IntKind.i64.wrap ((kk:Int)+(V:Int))=(kk:Int)+(V:Int):=aF _ (by omega) (by omega);rw[<-hnn]at hs1 hs2 hcl hhz hkv;replace hnn:=hide hnn;go_wp2;go_loopw [17,18] (fun c i w2=>∃k:Nat,k<=nn/\c= .int .i64 (fF (pa z) k:Nat)/\i= .int .i64 k/\Py w w2) (fun _ i _=>leftOf nn (intOf i).toNat)
   case atStart=>exact⟨0,by omega,rfl,rfl,hdr.out⟩
   case round=>
    obtain⟨k,hk,rfl,rfl,hd2⟩:=hrel;replace hd2:=hide hd2;have hnk:=hnn.out;have hck:=pW (pa z) k;have e3:=(hd2.out.cell _).trans (e0.out);have e4:=(hd2.out.cell _).trans hV;clear e1 hVr;by_cases hkl:k<nn
    ·have e2:=(hd2.out.cell _).trans (hhz.out k hkl);have hs3:=hide (show fF (pa z) (k+1)=fF (pa z) k+if(pa z k).isSome then 1 else 0 from rfl);generalize fF (pa z) k=ck at hck hs3;have hk1:(k:Int)<(kk:Int)+(V:Int):=by omega
     have wr2:IntKind.i64.wrap ((af:Int)+(k:Int))=((af+k:Nat):Int):=by rw[aF _ (by omega) (by omega)];omega
     have hi0:(0:Int)<=((af+k:Nat):Int):=by omega
     have hi1:((af+k:Nat):Int)<(M:Int):=by omega
     have wr3:IntKind.i64.wrap ((ck:Int)+1)=((ck+1:Nat):Int):=aF _ (by omega) (by omega);generalize (pa z k).isSome=bk at e2 hs3;replace hnk:=hide hnk;cases bk
     ·go_wp2;go_quiet (fail)
      go_wp2;exact⟨⟨k+1,by omega,by rw[hs3.out];rfl,by go_num,hd2.out.more _⟩,by refine aO ?_ ?_<;>simp only[intOf]<;>omega⟩
     ·go_wp2;go_quiet (fail)
      go_wp2;exact⟨⟨k+1,by omega,by rw[hs3.out];rfl,by go_num,hd2.out.more _⟩,by refine aO ?_ ?_<;>simp only[intOf]<;>omega⟩
    ·have e:k=nn:=by omega
     subst e;have hk1:¬(k:Int)<(kk:Int)+(V:Int):=by omega
     generalize fF (pa z) k=ck at hck hs1 hs2 hcl;have w3a:IntKind.i64.wrap ((af:Int)+(kk:Int))=(af:Int)+(kk:Int):=aF _ (by omega) (by omega);have w3b:IntKind.i64.wrap ((af:Int)+(kk:Int)+(V:Int))=(af:Int)+(kk:Int)+(V:Int):=aF _ (by omega) (by omega);have w3c:IntKind.i64.wrap ((sm:Int)+(ck:Int))=(sm:Int)+(ck:Int):=aF _ (by omega) (by omega);have w3d:IntKind.i64.wrap ((wh:Int)+1)=(wh:Int)+1:=aF _ (by omega) (by omega);replace hnk:=hide hnk;by_cases hge:kk<=ck
     ·have hi:(kk:Int)<=(ck:Int):=by omega
      go_wp2;go_quiet (fail)
      obtain⟨w4,hw4⟩:∃w4,w4=wr.drewN nq:=⟨_,rfl⟩;have hd4:Hid (Py w w4):=by show Py _ _;rw[hw4];exact hd2.out.more _
      rw[<-hw4];have e5:=(hd4.out.cell _).trans (e0.out);have e6:=(hd4.out.cell _).trans hV;clear e3 e4 hw4;go_wp2;go_quiet (fail)
      go_wp2;exact⟨⟨z+1,by omega,by rw[hs0.out];go_num,by rw[hs2.out,if_pos hge];go_num,by rw[hs1.out];go_num,by go_num,hd4.out.more _⟩,by refine aO ?_ ?_<;>simp only[intOf]<;>omega⟩
     ·have hi:¬(kk:Int)<=(ck:Int):=by omega
      go_wp2;go_quiet (fail)
      obtain⟨w4,hw4⟩:∃w4,w4=wr.drewN nq:=⟨_,rfl⟩;have hd4:Hid (Py w w4):=by show Py _ _;rw[hw4];exact hd2.out.more _
      rw[<-hw4];have e5:=(hd4.out.cell _).trans (e0.out);have e6:=(hd4.out.cell _).trans hV;clear e3 e4 hw4;go_wp2;go_quiet (fail)
      go_wp2;exact⟨⟨z+1,by omega,by rw[hs0.out];go_num,by rw[hs2.out,if_neg hge];go_num,by rw[hs1.out];go_num,by go_num,hd4.out.more _⟩,by refine aO ?_ ?_<;>simp only[intOf]<;>omega⟩
  ·have e:z=N:=by omega
   subst e;go_wp2;rw[hM.out];exact HQ.out _ hdr.out _ _ _ _ _ _ _ _ _ _ _ _ _ _ _ _ _ _ _ _ _ _ _ _ _ _ _ _ _ _ _ _ _ _ _ _ _ _ _ _ _ _ _ _ _ _ _ _
end Go.Proofs.YtmfpiodlecapiaaGreatDoor
namespace Go.Proofs.YtmfpiodlecapiaaGreatDoor
open Go.RowKit Go.Deep
structure Oj where
 len:Nat
 sz:Nat
 ms:Nat
 V:Nat
 obj:List Nat
namespace Oj
def L(s:Oj):List Nat:=Cut.sizes s.len s.sz s.ms
def N(s:Oj):Nat:=s.L.length
def K(s:Oj)(z:Nat):Nat:=s.L[z]?.getD 0
def fl(s:Oj):List Nat:=Pk.filled s.obj (Cut.pieces s.len s.sz*s.sz)
def blk(s:Oj)(z:Nat):List Nat:=Pk.kL s.fl s.L s.sz z
def off(s:Oj)(z:Nat):Nat:=Pk.start s.L s.V z
def T(s:Oj):Nat:=s.off s.N
def pc(s:Oj)(z n:Nat):List Nat:=Pk.pieceN (s.blk z) s.sz (s.K z) n
def pkt(s:Oj)(id z n:Nat):List Nat:=Pk.packet id s.len s.sz s.ms s.V z n (s.pc z n)
structure Ok(s:Oj):Prop where
 len:s.len<=2000
 s1:1<=s.sz
 s2:s.sz<=16
 m1:1<=s.ms
 m2:s.ms<=20
 v:s.V<=20
 few:Cut.blocks (Cut.pieces s.len s.sz) s.ms<=256
 obj:s.obj.length=s.len
 lt:∀x∈s.obj,x<256
variable {s:Oj}
theorem Wq(s:Oj):s.N=Cut.blocks (Cut.pieces s.len s.sz) s.ms:=Cut.fD _ _ _
theorem Ok.N1(h:s.Ok):1<=s.N:=by rw[Wq];exact Cut.j_ (Cut.gD _ _) h.m1
theorem Ok.N2(h:s.Ok):s.N<=256:=by rw[Wq];exact h.few
theorem Ok.lK(h:s.Ok){z:Nat}(hz:z<s.N):1<=s.K z/\s.K z<=20:=by
 have e:s.K z=s.L[z]'hz:=by
  unfold K;rw[List.getElem?_eq_getElem hz];rfl
 have:=Cut.jw (len:=s.len) (s:=s.sz) h.m1 (s.L[z]'hz) (List.getElem_mem (l:=s.L) hz);rw[<-e]at this;have:=h.m2;omega
theorem Ok.uf(h:s.Ok):s.fl.length=Cut.pieces s.len s.sz*s.sz:=by
 have:=Cut.lV (len:=s.len) h.s1;simp[fl,Pk.filled,h.obj];omega
theorem Ok.fl_lt(h:s.Ok):∀x∈s.fl,x<256:=by
 intro x hx;simp only[fl,Pk.filled,List.mem_append]at hx;rcases hx with hx|hx
 ·exact h.lt x hx
 ·rw[(List.mem_replicate.1 hx).2];omega
theorem Ok.sum(h:s.Ok):s.L.sum=Cut.pieces s.len s.sz:=Cut.tQ h.m1
theorem Ok.mJ(h:s.Ok){z:Nat}(hz:z<s.N):(s.blk z).length=s.K z*s.sz:=Go.Proofs.YtmfpiodlecapiaaGreatDoor.mJ hz h.sum rfl h.uf
theorem Ok.TS(h:s.Ok)(z:Nat):∀x∈s.blk z,x<256:=fun x hx=>h.fl_lt x (List.mem_of_mem_drop (List.mem_of_mem_take hx))
theorem Ok.pO(h:s.Ok){z n:Nat}(hz:z<s.N):(s.pc z n).length=s.sz:=Pk.d_ (h.mJ hz)
theorem Ok.WG(h:s.Ok){z n:Nat}(hz:z<s.N)(hn:n<s.K z+s.V):∀x∈s.pc z n,x<256:=by
 have:=h.lK hz;have:=h.v;exact Pk.NG (h.TS z) (by omega) (by omega)
theorem Bg(s:Oj):∀k,k<=s.N->((List.range k).map s.blk).flatten=s.fl.take ((s.L.take k).sum*s.sz)
 |0,_=>by simp
 |k+1,hk=>by
  rw[List.range_succ,List.map_append,List.flatten_append,Bg s k (by omega)];simp only[List.map_cons,List.map_nil,List.flatten_cons,List.flatten_nil,List.append_nil];rw[iK (getD_some (show k<s.L.length from hk)),Nat.add_mul,List.take_add];rfl
theorem Ok.flat(h:s.Ok):((List.range s.N).map s.blk).flatten=s.fl:=by
 rw[Bg s s.N (Nat.le_refl _),show s.L.take s.N=s.L from List.take_length,h.sum];exact List.take_of_length_le (by rw[h.uf];exact Nat.le_refl _)
theorem Ok.F7(h:s.Ok):s.len<=((List.range s.N).map s.blk).flatten.length:=by
 rw[h.flat,h.uf];exact Cut.lV h.s1
theorem Ok.LD(h:s.Ok){j:Nat}(hj:j<s.len):((List.range s.N).map s.blk).flatten[j]?.getD 0=s.obj[j]?.getD 0:=by
 rw[h.flat];exact congrArg (·.getD 0) (Gg (by rw[h.obj];exact hj))
theorem wE(s:Oj):∀z,z<=s.N->n_ s.K s.V z=s.off z
 |0,_=>by simp[n_,off,Pk.start]
 |z+1,hz=>by
  have:=Pk.iE (L:=s.L) (p:=s.V) (show z<s.L.length from hz);simp only[n_,wE s z (by omega)];show s.off z+s.L[z]?.getD 0+s.V=Pk.start s.L s.V (z+1);rw[this];show Pk.start s.L s.V z+_+_=_;omega
theorem xS(s:Oj){z n:Nat}(hz:z<s.N)(hn:n<s.K z+s.V):s.off z+n<s.T:=by
 have h1:=Pk.iE (L:=s.L) (p:=s.V) (show z<s.L.length from hz);have h2:=Pk.qD (L:=s.L) (p:=s.V) (z:=z+1) s.N hz (Nat.le_refl _);have h3:n<s.L[z]?.getD 0+s.V:=hn;show Pk.start s.L s.V z+n<Pk.start s.L s.V s.N;omega
theorem KO(s:Oj){z n z' n':Nat}(hz:z<s.N)(hn:n<s.K z+s.V)(hz':z'<s.N)(hn':n'<s.K z'+s.V)(e:s.off z+n=s.off z'+n'):z=z'/\n=n':=by
 have key:∀{a b c d:Nat},a<b->b<s.N->c<s.K a+s.V->s.off a+c<s.off b+d:=fun {a b c d} hab hb hc=>by
  have h1:=Pk.iE (L:=s.L) (p:=s.V) (show a<s.L.length from Nat.lt_trans hab hb);have h2:=Pk.qD (L:=s.L) (p:=s.V) (z:=a+1) b hab (Nat.le_of_lt hb);have h3:c<s.L[a]?.getD 0+s.V:=hc;show Pk.start s.L s.V a+c<Pk.start s.L s.V b+d;omega
 rcases Nat.lt_trichotomy z z' with h|h|h
 ·have:=key (d:=n') h hz' hn;omega
 ·subst h;exact⟨rfl,by omega⟩
 ·have:=key (d:=n) h hz hn';omega
theorem split(s:Oj){k:Nat}(hk:k<s.T):∃z n,z<s.N/\n<s.K z+s.V/\k=s.off z+n:=EH s.N (Nat.le_refl _) hk
theorem Ok.I7(h:s.Ok){id z n:Nat}(hz:z<s.N)(hn:n<s.K z+s.V):(Pk.packets id s.obj s.sz s.ms s.V)[s.off z+n]? =some (s.pkt id z n):=
 NM h.obj rfl _ rfl hz hn
theorem Ok.Xk(h:s.Ok):0<s.T:=by
 have h1:=h.N1;have h2:=h.lK (z:=0) (by omega);have:=s.xS (z:=0) (n:=0) (by omega) (by omega);omega
theorem Ok.T_le(h:s.Ok):s.T<=10240:=by
 have h0:=s.wE s.N (Nat.le_refl _);have h1:=CV s.K s.V s.N (fun z hz=>by have:=h.lK hz;have:=h.v;omega);have:=h.N2;show s.off s.N<=_;omega
theorem Ok.dX(h:s.Ok){id z n:Nat}(hz:z<s.N):(s.pkt id z n).length=10+s.sz:=Pk.zP (h.pO hz)
theorem Ok.CG(h:s.Ok){id z n:Nat}(hid:id<65536)(hz:z<s.N)(hn:n<s.K z+s.V):∀x∈s.pkt id z n,x<256:=by
 intro x hx;have h1:=h.N2;have h2:=h.lK hz;have h3:=h.len;have h4:=h.s2;have h5:=h.m2;have h6:=h.v;simp only[pkt,Pk.packet,Pk.head,List.mem_append,List.mem_cons,List.not_mem_nil,or_false]at hx;rcases hx with(rfl|rfl|rfl|rfl|rfl|rfl|rfl|rfl|rfl|rfl)|hx;all_goals first|exact h.WG hz hn x hx|omega
theorem E8(s:Oj)(id z n:Nat):R6 (s.pkt id z n)=dS id s.len s.sz s.ms s.V z n:=by
 show dS (256*(id/256)+id%256) (256*(s.len/256)+s.len%256) s.sz s.ms s.V z n=_;rw[Nat.div_add_mod,Nat.div_add_mod]
theorem Ok.FN(h:s.Ok){id z n:Nat}(hz:z<s.N)(hn:n<s.K z+s.V):Tx.zk (s.pkt id z n):=by
 have hl:=h.dX (id:=id) (n:=n) hz;have hs1:=h.s1;have e:256*(s.pkt id z n)[3]?.getD 0+(s.pkt id z n)[4]?.getD 0=s.len:=Nat.div_add_mod s.len 256;have e5:(s.pkt id z n)[5]?.getD 0=s.sz:=rfl;have e6:(s.pkt id z n)[6]?.getD 0=s.ms:=rfl;have e7:(s.pkt id z n)[7]?.getD 0=s.V:=rfl;have e8:(s.pkt id z n)[8]?.getD 0=z:=rfl;have e9:(s.pkt id z n)[9]?.getD 0=n:=rfl;unfold Tx.zk;rw[e,e5,e6,e7,e8,e9,hl];exact⟨by omega,rfl,h.len,⟨h.s1,h.s2⟩,⟨h.m1,h.m2⟩,h.v,h.few,by rw[<-Wq];exact hz,hn,rfl⟩
end Oj
end Go.Proofs.YtmfpiodlecapiaaGreatDoor
namespace Go.Proofs.YtmfpiodlecapiaaGreatDoor
open Go.RowKit Go.Deep
structure mP(w:World)(hd:List Value)(len sz ms V g:Nat)(c:Nat->Nat)(L:List Value)(wr:World)(q:Nat)(vB:Value)(pb:Nat->Nat):Prop where
 below:Below w.heap.size w wr
 head:aB wr w.heap.size 76 hd
 obj:aB wr (w.heap.size+1) 101 [.int .i64 len,.int .i64 sz,.int .i64 ms,.int .i64 V,vB]
 cnt:aB wr g 3 L
 own:bM wr 25 vB ((List.range q).map fun i=>Value.slice (some ⟨pb i,0,none⟩) (c i+V) (c i+V))
 far:∀k,vB.ownBlock=some k->w.heap.size+2<=k
 row:∀i,i<q->w.heap.size+2<=pb i/\aB wr (pb i) 28 (List.replicate (c i+V) (.slice none 0 0))/\vB.ownBlock≠some (pb i)
 inj:∀i j,i<q->j<q->pb i=pb j->i=j
theorem mP.step{w:World}{hd L:List Value}{len sz ms V g q:Nat}{c:Nat->Nat}{wr w2:World}{vB v':Value}{pb:Nat->Nat}(hg:w.heap.size+2<=g)(h:mP w hd len sz ms V g c L wr q vB pb)
  (ha:fC ((wr.drew.alloc (.cells (madeCells #[.slice none 0 0] (c q+V)) 28)).alloc (.cells #[.slice (some ⟨wr.heap.size,0,none⟩) (c q+V) (c q+V)] 25)) w2 25 vB v' ((List.range q).map fun i=>Value.slice (some ⟨pb i,0,none⟩) (c i+V) (c i+V)) [.slice (some ⟨wr.heap.size,0,none⟩) (c q+V) (c q+V)]):
  mP w hd len sz ms V g c L (w2.setCell ⟨w.heap.size+1,4,none⟩ v') (q+1) v' (fun i=>if i=q then wr.heap.size else pb i):=by
 have hW1:=gF wr.drew (.slice none 0 0) (c q+V) 28;have hs:((wr.drew.alloc (.cells (madeCells #[.slice none 0 0] (c q+V)) 28)).alloc (.cells #[.slice (some ⟨wr.heap.size,0,none⟩) (c q+V) (c q+V)] 25)).heap.size=wr.heap.size+2:=by simp
 have keep:∀g t (l:List Value),aB wr g t l->vB.ownBlock≠some g->aB w2 g t l:=fun g t l hr hne=>ha.other ((hr.drew.alloc _).alloc _) hne;have hsz:=h.below.size;have jJ:=h.obj.lt;have Ry:∀k,vB.ownBlock=some k->k<wr.heap.size:=fun k hk=>h.own.lt hk;have far':∀k,v'.ownBlock=some k->w.heap.size+2<=k:=ha.from (by rw[hs];omega) h.far;refine⟨?_,?_,?_,?_,?_,far',?_,?_⟩
 ·have hb:=(h.below.drew.alloc hsz (.cells (madeCells #[.slice none 0 0] (c q+V)) 28)).alloc (by simp;omega) (.cells #[.slice (some ⟨wr.heap.size,0,none⟩) (c q+V) (c q+V)] 25);exact(ha.below hb (by rw[hs];omega) (fun k hk=>by have:=h.far k hk;omega)).setCell (show w.heap.size<=w.heap.size+1 by omega) _
 ·exact(keep _ _ _ h.head (fun e=>by have:=h.far _ e;omega)).other (show w.heap.size≠w.heap.size+1 by omega) _
 ·have:=(keep _ _ _ h.obj (fun e=>by have:=h.far _ e;omega)).set 4 v';exact this
 ·exact(keep _ _ _ h.cnt (h.own.kG h.cnt (by decide))).other (show g≠w.heap.size+1 by omega) _
 ·have:=ha.own;rw[List.range_succ,List.map_append,List.map_cons,List.map_nil];have e1:((List.range q).map fun i=>Value.slice (some ⟨if i=q then wr.heap.size else pb i,0,none⟩) (c i+V) (c i+V))=(List.range q).map fun i=>Value.slice (some ⟨pb i,0,none⟩) (c i+V) (c i+V):=by
   refine List.map_congr_left fun i hi=>?_;rw[if_neg (by rw[List.mem_range]at hi;omega)]
  simp only[e1,if_true];exact this.of_block fun k hk=>Below.heap_setCell _ _ _ _ (show k≠w.heap.size+1 from fun e=>by have:=far' k hk;omega)
 ·intro i hi;by_cases e:i=q
  ·subst e;simp only[if_true];refine⟨by omega,?_,fun hv=>?_⟩
   ·refine(aB.other ?_ (show wr.heap.size≠w.heap.size+1 by omega) _);exact ha.other (hW1.alloc _) (fun hv=>by have:=Ry _ hv;simp at this)
   ·rcases ha.block with h1|h1
    ·rw[h1]at hv;have:=Ry _ hv;omega
    ·rw[h1,hs]at hv;have:=Option.some.inj hv;omega
  ·simp only[if_neg e];obtain⟨a1,a2,a3⟩:=h.row i (by omega);refine⟨a1,(keep _ _ _ a2 a3).other (show pb i≠w.heap.size+1 by omega) _,fun hv=>?_⟩;rcases ha.block with h1|h1
   ·rw[h1]at hv;exact a3 hv
   ·rw[h1,hs]at hv;have:=Option.some.inj hv;have:=a2.lt;omega
 ·intro i j hi hj e;have lt:∀i,i<q->pb i<wr.heap.size:=fun i hi=>(h.row i hi).2.1.lt;by_cases e1:i=q<;>by_cases e2:j=q
  ·omega
  ·simp only[if_pos e1,if_neg e2]at e;have:=lt j (by omega);omega
  ·simp only[if_neg e1,if_pos e2]at e;have:=lt i (by omega);omega
  ·simp only[if_neg e1,if_neg e2]at e;exact h.inj i j (by omega) (by omega) e
attribute [local go_sem↓] Go.wp_at_zero Go.wp_at_succ
theorem yj{c:Prop}[Decidable c]{p q:Prop}(hc:c)(h:p):if c then p else q:=by rw[if_pos hc];exact h
theorem wp_append_run{P:Program}{o:Oper}{a:Act}{w w':World}{K:Act->World->Prop}{Q:Exit->Act->World->Prop}(s x:Operand)(t:TypeId)(u y v:Value)
  (ho:o.op= .call {callee:=.builtin .append,args:=#[s,x],argTypes:=#[t,t]})(hs:a.eval s=u)(hx:a.eval x=y)(hr:(Builtin.append_ #[t,t] o.type #[u,y]).run P w= .ok v w')(h:K (a.put o.dst v) w'):o.wp P a w K Q:=by
 unfold Oper.wp execOp;simp only[ho,resolve,invoke,builtin,Sem.run_bind,Sem.run_pure,Result.andThen_ok,List.map_toArray,List.map_cons,List.map_nil,hs,hx,hr];exact h
theorem Tryz.infoLists:(Tryz.prog.info? 25).map (fun i=>(i.zero,i.size,i.bytes))=some (some (.slice none 0 0),1,24):=by kernel_rfl
theorem xZ(id len sz ms V z n N:Nat)(hl:len<=2000)(h1:1<=sz)(h2:sz<=16)(h3:1<=ms)(h4:ms<=20)(h5:V<=20)(hN:Hid (Cut.blocks (Cut.pieces len sz) ms=N))(yD:N<=256)(w:World):
  Calls Tryz.prog 82 #[dS id len sz ms V z n] w fun e w'=>
   ∃(g:Nat) (vB:Value) (pb:Nat->Nat),e= .returned (.pointer (some ⟨w.heap.size+1,0,none⟩))/\mP w [.int .i64 id,.int .i64 len,.int .i64 sz,.int .i64 ms,.int .i64 V,.int .i64 z,.int .i64 n] len sz ms V g (fun i=>(Cut.sizes len sz ms)[i]?.getD 0) (bW (Cut.sizes len sz ms)) w' N vB pb:=by
 obtain⟨i0,hi0,hz0,hz1,hz2⟩:=info_parts Tryz.infoBytes;obtain⟨i1,hi1,hy0,hy1,hy2⟩:=info_parts Tryz.infoLists;unfold dS;have hC:Hid (∀w,Calls Tryz.prog 29 #[.int .i64 len,.agg #[.int .i64 sz,.int .i64 ms,.int .i64 V]] w fun e w'=>∃g,w.heap.size<=g/\e= .returned (.tuple #[.slice (some ⟨g,0,none⟩) N N,.bool true])/\Below w.heap.size w w'/\aB w' g 3 (bW (Cut.sizes len sz ms))):=fun w=>by
  have:=(dL len sz ms V hl h1 h2 h3 h4 h5 w).1 (by rw[hN.out];exact yD);rw[hN.out]at this;exact this
 have hSl:Hid ((Cut.sizes len sz ms).length=N):=by show _=_;rw[Cut.fD,hN.out]
 have hSb:Hid (∀x∈Cut.sizes len sz ms,x<=20):=fun x hx=>by have:=(Cut.jw h3 x hx).2;omega
 have hB1:Below w.heap.size w (w.alloc (.cells #[.int .i64 id,.int .i64 len,.int .i64 sz,.int .i64 ms,.int .i64 V,.int .i64 z,.int .i64 n] 76)):=(Below.refl _ _).alloc (Nat.le_refl _) _;have hH:=aP w #[.int .i64 id,.int .i64 len,.int .i64 sz,.int .i64 ms,.int .i64 V,.int .i64 z,.int .i64 n] 76;have hHs:(w.alloc (.cells #[.int .i64 id,.int .i64 len,.int .i64 sz,.int .i64 ms,.int .i64 V,.int .i64 z,.int .i64 n] 76)).heap.size=w.heap.size+1:=by simp
 go_enter Tryz.func82,Tryz.ntmps82;go_wp2_with (go_at_call 29;refine(hC.out _).mono ?_;rintro _ w2 ⟨g,hg,rfl,hb2,hr2⟩;replace hb2:=hide hb2;replace hr2:=hide hr2)
 obtain⟨hgg,hI0⟩:w.heap.size+2<=g/\mP w [.int .i64 id,.int .i64 len,.int .i64 sz,.int .i64 ms,.int .i64 V,.int .i64 z,.int .i64 n] len sz ms V g (fun i=>(Cut.sizes len sz ms)[i]?.getD 0) (bW (Cut.sizes len sz ms)) w2 0 (.slice none 0 0) (fun _=>0):=by
  have e1:((w.alloc (.cells #[.int .i64 id,.int .i64 len,.int .i64 sz,.int .i64 ms,.int .i64 V,.int .i64 z,.int .i64 n] 76)).alloc (.cells #[.int .i64 len,.int .i64 sz,.int .i64 ms,.int .i64 V,.slice none 0 0] 101)).heap.size=w.heap.size+2:=by simp
  have hO:=aP (w.alloc (.cells #[.int .i64 id,.int .i64 len,.int .i64 sz,.int .i64 ms,.int .i64 V,.int .i64 z,.int .i64 n] 76)) #[.int .i64 len,.int .i64 sz,.int .i64 ms,.int .i64 V,.slice none 0 0] 101;rw[e1]at hg;have hB:=hb2.out;rw[e1]at hB;rw[hHs]at hO;refine⟨hg,?_,?_,?_,hr2.out,by simpa using iW _ _,fun k hk=>by simp[Value.ownBlock]at hk,fun i hi=>by omega,fun i j hi=>by omega⟩
  ·exact(hB1.alloc (by rw[hHs];omega) _).trans (hB.mono (by omega))
  ·exact(hH.alloc _).below hB (by omega)
  ·exact hO.below hB (by omega)
 have HI0:=hide hI0;clear hI0 hb2 hr2 hg hHs hH hB1 hC;go_loopw [24] (fun x wr=>∃(q:Nat) (vB:Value) (pb:Nat->Nat),q<=N/\x= .int .i64 q/\mP w [.int .i64 id,.int .i64 len,.int .i64 sz,.int .i64 ms,.int .i64 V,.int .i64 z,.int .i64 n] len sz ms V g (fun i=>(Cut.sizes len sz ms)[i]?.getD 0) (bW (Cut.sizes len sz ms)) wr q vB pb) (fun x _=>leftOf N (intOf x).toNat)
 case atStart=>exact⟨0,_,_,by omega,rfl,HI0.out⟩
 case round=>
  obtain⟨q,vB,pb,hq,rfl,hI⟩:=hrel;by_cases hlt:q<N
  ·have hqS:q<(Cut.sizes len sz ms).length:=by rw[hSl.out];exact hlt
   have hcq:wr.cell? ⟨g,q,none⟩=some (.int .i64 (((Cut.sizes len sz ms)[q]?.getD 0:Nat):Int)):=hI.cnt.cell q _ (pR hqS);have hc20:(Cut.sizes len sz ms)[q]?.getD 0<=20:=hSb.out _ (by rw[List.getElem?_eq_getElem hqS];exact List.getElem_mem hqS);obtain⟨nz,hnz⟩:∃nz,nz=(Cut.sizes len sz ms)[q]?.getD 0+V:=⟨_,rfl⟩;have hnz40:nz<=40:=by omega
   have hStep:Hid (∀v' w2,fC ((wr.drew.alloc (.cells (madeCells #[.slice none 0 0] nz) 28)).alloc (.cells #[.slice (some ⟨wr.heap.size,0,none⟩) nz nz] 25)) w2 25 vB v' ((List.range q).map fun i=>Value.slice (some ⟨pb i,0,none⟩) ((Cut.sizes len sz ms)[i]?.getD 0+V) ((Cut.sizes len sz ms)[i]?.getD 0+V)) [.slice (some ⟨wr.heap.size,0,none⟩) nz nz]->mP w [.int .i64 id,.int .i64 len,.int .i64 sz,.int .i64 ms,.int .i64 V,.int .i64 z,.int .i64 n] len sz ms V g (fun i=>(Cut.sizes len sz ms)[i]?.getD 0) (bW (Cut.sizes len sz ms)) (w2.setCell ⟨w.heap.size+1,4,none⟩ v') (q+1) v' (fun i=>if i=q then wr.heap.size else pb i)):=fun v' w2 ha=>by
    rw[hnz]at ha;exact hI.step hgg ha
   generalize hcc:(Cut.sizes len sz ms)[q]?.getD 0=cc at hcq hc20 hnz;replace hcc:=hide hcc;have hh4:wr.drew.cell? ⟨w.heap.size,4,none⟩=some (.int .i64 V):=hI.head.cell 4 _ rfl;have ho4:wr.drew.cell? ⟨w.heap.size+1,4,none⟩=some vB:=hI.obj.cell 4 _ rfl;have hT1:(wr.drew.alloc (.cells (madeCells #[.slice none 0 0] nz) 28)).cell? ⟨w.heap.size,4,none⟩=some (.int .i64 V):=(hI.head.drew.alloc _).cell 4 _ rfl;have VU:((wr.drew.alloc (.cells (madeCells #[.slice none 0 0] nz) 28)).alloc (.cells #[.slice (some ⟨wr.heap.size,0,none⟩) nz nz] 25)).cell? ⟨w.heap.size,4,none⟩=some (.int .i64 V):=((hI.head.drew.alloc _).alloc _).cell 4 _ rfl;have ho5:(wr.drew.alloc (.cells (madeCells #[.slice none 0 0] nz) 28)).cell? ⟨w.heap.size+1,4,none⟩=some vB:=(hI.obj.drew.alloc _).cell 4 _ rfl;have ho6:((wr.drew.alloc (.cells (madeCells #[.slice none 0 0] nz) 28)).alloc (.cells #[.slice (some ⟨wr.heap.size,0,none⟩) nz nz] 25)).cell? ⟨w.heap.size+1,4,none⟩=some vB:=((hI.obj.drew.alloc _).alloc _).cell 4 _ rfl;have hHI:=hide hI;have hxl:Hid (((List.range q).map fun i=>Value.slice (some ⟨pb i,0,none⟩) ((Cut.sizes len sz ms)[i]?.getD 0+V) ((Cut.sizes len sz ms)[i]?.getD 0+V)).length=q):=by show _=_;simp
   have hO2:=hide ((hI.own.drew.alloc (.cells (madeCells #[.slice none 0 0] nz) 28)).alloc (.cells #[.slice (some ⟨wr.heap.size,0,none⟩) nz nz] 25));obtain⟨v',w3,hrun,happ⟩:=KE (P:=Tryz.prog) ((wr.drew.alloc (.cells (madeCells #[.slice none 0 0] nz) 28)).alloc (.cells #[.slice (some ⟨wr.heap.size,0,none⟩) nz nz] 25)) 26 26 25 i1 (.slice none 0 0) 24 Tryz.underlying26 hi1 hy0 hy1 hy2 rfl vB _ hO2.out ⟨wr.heap.size+1,0,none⟩ 1 1 [.slice (some ⟨wr.heap.size,0,none⟩) nz nz] rfl (by have:=cell_one_new (wr.drew.alloc (.cells (madeCells #[.slice none 0 0] nz) 28)) (.slice (some ⟨wr.heap.size,0,none⟩) nz nz) 25;simpa using this) (by intro u hu;simp at hu;subst hu;rfl) (by rw[hxl.out];simp[maxLen];omega) (by rw[hxl.out];omega);obtain⟨av,lv,cv,rfl⟩:∃av lv cv,v'=Value.slice av lv cv:=by obtain⟨a,c,e⟩:=happ.own.shape;exact⟨a,_,c,e⟩
   have ho5':(wr.alloc (.cells (madeCells #[.slice none 0 0] nz) 28)).drew.cell? ⟨w.heap.size+1,4,none⟩=some vB:=ho5;have ho6':((wr.alloc (.cells (madeCells #[.slice none 0 0] nz) 28)).alloc (.cells #[.slice (some ⟨wr.heap.size,0,none⟩) nz nz] 25)).drew.cell? ⟨w.heap.size+1,4,none⟩=some vB:=ho6;have hNew:=hide (hStep.out _ w3 happ);have r3:aB w3 w.heap.size 76 _:=happ.other ((hI.head.drew.alloc _).alloc _) (fun e=>by have:=hI.far _ e;omega);have o3:aB w3 (w.heap.size+1) 101 _:=happ.other ((hI.obj.drew.alloc _).alloc _) (fun e=>by have:=hI.far _ e;omega);have hT3:w3.cell? ⟨w.heap.size,4,none⟩=some (.int .i64 V):=r3.cell 4 _ rfl;have ho7:w3.cell? ⟨w.heap.size+1,4,none⟩=some vB:=o3.cell 4 _ rfl;have hf7:w3.frozen? ⟨w.heap.size+1,4,none⟩=false:=o3.frozen 4;have hT4:(w3.setCell ⟨w.heap.size+1,4,none⟩ (.slice av lv cv)).cell? ⟨w.heap.size,4,none⟩=some (.int .i64 V):=(r3.other (show w.heap.size≠w.heap.size+1 by omega) _).cell 4 _ rfl;replace happ:=hide happ;have hwr:IntKind.i64.wrap ((cc:Int)+(V:Int))=(cc:Int)+(V:Int):=aF _ (by omega) (by omega);have hcV:(cc:Int)+(V:Int)=(nz:Int):=by omega
   have hmk:(Instr.makeSlice 25 (.int .i64 ((cc:Int)+(V:Int))) (.int .i64 ((cc:Int)+(V:Int)))).run Tryz.prog wr.drew= .ok (.slice (some ⟨wr.heap.size,0,none⟩) nz nz) (wr.drew.alloc (.cells (madeCells #[.slice none 0 0] nz) 28)):=by
    rw[hcV];have hr:=run_make (P:=Tryz.prog) wr.drew 25 28 i0 (.slice none 0 0) Tryz.underlying25 hi0 hz0 .i64 .i64 nz nz (by omega) (by omega) (by rw[hz2];omega) (by omega);simp only[Int.toNat_natCast,hz1,Nat.mul_one]at hr;exact hr
   replace hcV:=hide hcV;replace hnz:=hide hnz;replace r3:=hide r3;replace o3:=hide o3;have hq0:(0:Int)<=(q:Int):=by omega
   have hq1:(q:Int)<(N:Int):=by omega
   clear hI hO2;go_wp2_with fail
   refine wp_region_held_drew (S:=fun w'=>w'.cell? ⟨w.heap.size,4,none⟩=some (.int .i64 V)) (by kernel_rfl) hh4 (fun hS0=>?_);refine wpAnyH_take (i:=0) (v:=?v1) rfl (by kernel_rfl) (by kernel_rfl) (by kernel_rfl) (fun _ _ _ h=>h) (Or.inl ⟨by rfl,?hy1⟩) (by assumption) ?rest1
   case hy1=>(intro wz hSw;go_simp;try (with_reducible rfl))
   try go_frame
   refine wpAnyH_take (i:=1) (v:=?v2) rfl (by kernel_rfl) (by kernel_rfl) (by kernel_rfl) (fun _ _ _ h=>h) (Or.inl ⟨by rfl,?hy2⟩) (by assumption) ?rest2
   case hy2=>(intro wz hSw;go_simp;try (with_reducible rfl))
   try go_frame
   refine wpAnyH_take (i:=2) (v:=?v3) rfl (by kernel_rfl) (by kernel_rfl) (by kernel_rfl) (fun _ _ _ h=>h) (Or.inl ⟨by rfl,?hy3⟩) (by assumption) ?rest3
   case hy3=>(intro wz hSw;go_simp;try (with_reducible rfl))
   try go_frame
   refine wpAnyH_take (i:=3) (v:=?v4) rfl (by kernel_rfl) (by kernel_rfl) (by kernel_rfl) (fun _ _ _ h=>h) (Or.inl ⟨by rfl,?hy4⟩) (by assumption) ?rest4
   case hy4=>(intro wz hSw;go_simp;try (with_reducible rfl))
   try go_frame
   refine wpAnyH_take (i:=5) (v:=?v5) rfl (by kernel_rfl) (by kernel_rfl) (by kernel_rfl) (fun _ _ _ h=>h) (Or.inl ⟨by rfl,?hy5⟩) (by assumption) ?rest5
   case hy5=>(intro wz hSw;go_simp;try (with_reducible rfl))
   try go_frame
   refine wpAnyH_take (i:=6) (v:=?v6) rfl (by kernel_rfl) (by kernel_rfl) (by kernel_rfl) (fun _ _ _ h=>h) (Or.inl ⟨by rfl,?hy6⟩) (by assumption) ?rest6
   case hy6=>(intro wz hSw;go_simp;try (with_reducible rfl))
   try go_frame
   refine wpAnyH_take (i:=7) (v:=?v7) rfl (by kernel_rfl) (by kernel_rfl) (by kernel_rfl) (fun _ _ _ h=>h) (Or.inl ⟨by rfl,?hy7⟩) (by assumption) ?rest7
   case hy7=>(intro wz hSw;go_simp;try (with_reducible rfl))
   try go_frame
   refine wpAnyH_take (i:=8) (v:=?v8) rfl (by kernel_rfl) (by kernel_rfl) (by kernel_rfl) (fun _ _ _ h=>h) (Or.inl ⟨by rfl,?hy8⟩) (by assumption) ?rest8
   case hy8=>(intro wz hSw;have hcz:=hSw;go_simp;try (with_reducible rfl))
   try go_frame
   refine wpAnyH_take (i:=9) (v:=?v9) rfl (by kernel_rfl) (by kernel_rfl) (by kernel_rfl) (fun _ _ _ h=>h) (Or.inl ⟨by rfl,?hy9⟩) (by assumption) ?rest9
   case hy9=>(intro wz hSw;go_simp;try (with_reducible rfl))
   try go_frame
   refine wpAnyH_ready (rs:= [4,10]) (by kernel_rfl) (by simp) ?_;refine AllReadyH.cons rfl (fun K hK=>?_) ?_
   ·go_simp;refine hK.out _ _ hS0 (fun hS1=>?_);clear hK K;try go_frame
    refine wpAnyH_ready (rs:= [10]) (by kernel_rfl) (by simp) ?_;refine AllReadyH.cons rfl (fun K hK=>?_) ?_
    ·go_simp;refine hK.out _ _ hT1 (fun hS2=>?_);clear hK K;try go_frame
     refine wpAnyH_ready (rs:= [11]) (by kernel_rfl) (by simp) ?_;refine AllReadyH.cons rfl (fun K hK=>?_) ?_
     ·go_simp;refine hK.out _ _ VU (fun hS3=>?_);clear hK K;try go_frame
      refine wpAnyH_ready (rs:= [12]) (by kernel_rfl) (by simp) ?_;refine AllReadyH.cons rfl (fun K hK=>?_) ?_
      ·refine yj rfl ?_;refine wp_append_run (.tmp 32) (.tmp 39) 26 _ _ _ rfl rfl rfl hrun ?_;refine hK.out _ _ hT3 (fun hS4=>?_);clear hK K;try go_frame
       refine wpAnyH_take (i:=13) (v:=?v10) rfl (by kernel_rfl) (by kernel_rfl) (by kernel_rfl) (fun _ _ _ h=>h) (Or.inl ⟨by rfl,?hy10⟩) (by assumption) ?rest10
       case hy10=>(intro wz hSw;go_simp;try (with_reducible rfl))
       try go_frame
       refine wpAnyH_take (i:=14) (v:=?v11) rfl (by kernel_rfl) (by kernel_rfl) (by kernel_rfl) (fun _ _ _ h=>h) (Or.inl ⟨by rfl,?hy11⟩) (by assumption) ?rest11
       case hy11=>(intro wz hSw;go_simp;try (with_reducible rfl))
       try go_frame
       refine wpAnyH_ready (rs:= [15]) (by kernel_rfl) (by simp) ?_;refine AllReadyH.cons rfl (fun K hK=>?_) ?_
       ·go_simp;refine hK.out _ _ hT4 (fun hS5=>?_);clear hK K;try go_frame
        refine wpAnyH_done (by kernel_rfl) ?_ _;go_wp2;go_roundw
        case rel=>exact⟨q+1,_,_,by omega,by go_num,hNew.out⟩
        case measure=>refine aO ?_ ?_<;>simp only[intOf]<;>omega
       exact AllReadyH.nil
      exact AllReadyH.nil
     exact AllReadyH.nil
    exact AllReadyH.nil
   refine AllReadyH.cons rfl (fun K hK=>?_) ?_
   ·go_simp;refine hK.out _ _ hT1 (fun hS1=>?_);clear hK K;try go_frame
    refine wpAnyH_ready (rs:= [4,11]) (by kernel_rfl) (by simp) ?_;refine AllReadyH.cons rfl (fun K hK=>?_) ?_
    ·go_simp;refine hK.out _ _ hS1 (fun hS2=>?_);clear hK K;try go_frame
     refine wpAnyH_ready (rs:= [11]) (by kernel_rfl) (by simp) ?_;refine AllReadyH.cons rfl (fun K hK=>?_) ?_
     ·go_simp;refine hK.out _ _ VU (fun hS3=>?_);clear hK K;try go_frame
      refine wpAnyH_ready (rs:= [12]) (by kernel_rfl) (by simp) ?_;refine AllReadyH.cons rfl (fun K hK=>?_) ?_
      ·refine yj rfl ?_;refine wp_append_run (.tmp 32) (.tmp 39) 26 _ _ _ rfl rfl rfl hrun ?_;refine hK.out _ _ hT3 (fun hS4=>?_);clear hK K;try go_frame
       refine wpAnyH_take (i:=13) (v:=?v12) rfl (by kernel_rfl) (by kernel_rfl) (by kernel_rfl) (fun _ _ _ h=>h) (Or.inl ⟨by rfl,?hy12⟩) (by assumption) ?rest12
       case hy12=>(intro wz hSw;go_simp;try (with_reducible rfl))
       try go_frame
       refine wpAnyH_take (i:=14) (v:=?v13) rfl (by kernel_rfl) (by kernel_rfl) (by kernel_rfl) (fun _ _ _ h=>h) (Or.inl ⟨by rfl,?hy13⟩) (by assumption) ?rest13
       case hy13=>(intro wz hSw;go_simp;try (with_reducible rfl))
       try go_frame
       refine wpAnyH_ready (rs:= [15]) (by kernel_rfl) (by simp) ?_;refine AllReadyH.cons rfl (fun K hK=>?_) ?_
       ·go_simp;refine hK.out _ _ hT4 (fun hS5=>?_);clear hK K;try go_frame
        refine wpAnyH_done (by kernel_rfl) ?_ _;go_wp2;go_roundw
        case rel=>exact⟨q+1,_,_,by omega,by go_num,hNew.out⟩
        case measure=>refine aO ?_ ?_<;>simp only[intOf]<;>omega
       exact AllReadyH.nil
      exact AllReadyH.nil
     exact AllReadyH.nil
    refine AllReadyH.cons rfl (fun K hK=>?_) ?_
    ·go_simp;refine hK.out _ _ VU (fun hS2=>?_);clear hK K;try go_frame
     refine wpAnyH_ready (rs:= [4]) (by kernel_rfl) (by simp) ?_;refine AllReadyH.cons rfl (fun K hK=>?_) ?_
     ·go_simp;refine hK.out _ _ hS2 (fun hS3=>?_);clear hK K;try go_frame
      refine wpAnyH_ready (rs:= [12]) (by kernel_rfl) (by simp) ?_;refine AllReadyH.cons rfl (fun K hK=>?_) ?_
      ·refine yj rfl ?_;refine wp_append_run (.tmp 32) (.tmp 39) 26 _ _ _ rfl rfl rfl hrun ?_;refine hK.out _ _ hT3 (fun hS4=>?_);clear hK K;try go_frame
       refine wpAnyH_take (i:=13) (v:=?v14) rfl (by kernel_rfl) (by kernel_rfl) (by kernel_rfl) (fun _ _ _ h=>h) (Or.inl ⟨by rfl,?hy14⟩) (by assumption) ?rest14
       case hy14=>(intro wz hSw;go_simp;try (with_reducible rfl))
       try go_frame
       refine wpAnyH_take (i:=14) (v:=?v15) rfl (by kernel_rfl) (by kernel_rfl) (by kernel_rfl) (fun _ _ _ h=>h) (Or.inl ⟨by rfl,?hy15⟩) (by assumption) ?rest15
       case hy15=>(intro wz hSw;go_simp;try (with_reducible rfl))
       try go_frame
       refine wpAnyH_ready (rs:= [15]) (by kernel_rfl) (by simp) ?_;refine AllReadyH.cons rfl (fun K hK=>?_) ?_
       ·go_simp;refine hK.out _ _ hT4 (fun hS5=>?_);clear hK K;try go_frame
        refine wpAnyH_done (by kernel_rfl) ?_ _;go_wp2;go_roundw
        case rel=>exact⟨q+1,_,_,by omega,by go_num,hNew.out⟩
        case measure=>refine aO ?_ ?_<;>simp only[intOf]<;>omega
       exact AllReadyH.nil
      exact AllReadyH.nil
     exact AllReadyH.nil
    exact AllReadyH.nil
   exact AllReadyH.nil
  ·have e:q=N:=by omega
   subst e;have hHI:=hide hI;clear hI;go_wp2;go_ret;exact⟨g,vB,pb,rfl,hHI.out⟩
end Go.Proofs.YtmfpiodlecapiaaGreatDoor
