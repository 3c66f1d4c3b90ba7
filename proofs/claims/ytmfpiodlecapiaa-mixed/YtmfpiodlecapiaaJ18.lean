import Derived.Test.YtmfpiodlecapiaaJ08
import Derived.Test.YtmfpiodlecapiaaJ17
namespace Go.Proofs.Ytmfpiodlecapiaa
open Go.RowKit Go.Deep Go.Poi
attribute [local go_sem↓] Go.wp_at_zero Go.wp_at_succ
def Drs(w wr:World):Prop:=∃nq,wr=w.drewN nq
theorem Drs.cell{w wr:World}(h:Drs w wr)(a:Addr):wr.cell? a=w.cell? a:=by obtain⟨n,rfl⟩:=h;rfl
theorem Drs.more{w wr:World}(h:Drs w wr)(m:Nat):Drs w (wr.drewN m):=by obtain⟨n,rfl⟩:=h;exact⟨n+m,by simp⟩
def offK(Kz:Nat->Nat)(V:Nat):Nat->Nat
 |0=>0
 |z+1=>offK Kz V z+Kz z+V
theorem offK_mono(Kz:Nat->Nat)(V:Nat):∀N z,z<N->offK Kz V z+Kz z+V<=offK Kz V N
 |0,z,h=>by omega
 |N+1,z,h=>by
  simp only[offK];by_cases e:z=N
  ·subst e;omega
  ·have:=offK_mono Kz V N z (by omega);omega
theorem offK_le(Kz:Nat->Nat)(V:Nat):∀N,(∀z,z<N->Kz z+V<=40)->offK Kz V N<=40*N
 |0,_=>Nat.le_refl _
 |N+1,h=>by
  have h1:=offK_le Kz V N (fun z hz=>h z (by omega));have h3:=h N (by omega);simp only[offK];omega
set_option linter.unusedSimpArgs false in
set_option maxRecDepth 100000 in
set_option maxHeartbeats 8000000 in
theorem told_loops{Kn Kr:Act->World->Prop}(gn N capn gh M caph pl V:Nat)(Kz:Nat->Nat)(pa:Nat->Nat->Option Addr)(hN:N<=256)(hK:∀z,z<N->Kz z+V<=40)(hM:offK Kz V N=M)(w:World){v0 v1 v2 v4 j6 j7 j8 j9 j11 j16 j17 j18 j19 j20 j21 j22 j23 j24 j25 j26 j27 j28 j29 j30 j31 j32 j33 j34 j35 j36 j37 j38 j39 j40 j41 j42 j43 j44 j45 j46 j47 j48 j49 j50 j51 j52 j53 j54 j55 j56 j57 j58 j59 j60 j61 j62 j63 j64 j65 j66 j67 j68 j69 j70 j71 j72 j73 j74 j75 j76 j77 j78 j79 j80 j81 j82 j83 j84 j85 j86 j87 j88 j89 j90 j91 j92 j93 j94 j95 j96 j97 j98 j99 j100 j101 j102 j103 j104 j105 j106 j107 j108 j109 j110 j111 j112 j113 j114 j115 j116 j117 j118 j119 j120 j121 j122 j123 j124 j125 j126 j127 j128 j129 j130 j131 j132 j133:Value}
  (hn:∀z,z<N->w.cell? ⟨gn,z,none⟩=some (.int .i64 (Kz z:Nat)))(hh:∀z,z<N->∀j,j<Kz z+V->w.cell? ⟨gh,offK Kz V z+j,none⟩=some (.bool (pa z j).isSome))(hV:w.cell? ⟨pl,2,none⟩=some (.int .i64 V))
  (hQ:∀wz,Drs w wz->∀h16 h17 h18 h23 h24 h25 h26 h27 h28 h29 h30 h31 h32 h33 h34 h35 h36 h37 h38 h39 h40 h41 h42 h43 h44 h45 h46 h47 h48 h49 h50 h51 h52 h53 h54 h55 h56 h57 h58 h59 h60 h61 h62 h63 h64 h65 h66 h67,Kn ⟨#[v0,v1,v2,.slice (some ⟨gn,0,none⟩) N capn,v4,.slice (some ⟨gh,0,none⟩) M caph,j6,j7,j8,j9,.pointer (some ⟨pl,0,none⟩),j11,.bool false,.int .i64 M,.int .i64 (whoH Kz V pa N:Nat),.int .i64 (sumH Kz V pa N:Nat),h16,h17,h18,j19,j20,j21,j22,h23,h24,h25,h26,h27,h28,h29,h30,h31,h32,h33,h34,h35,h36,h37,h38,h39,h40,h41,h42,h43,h44,h45,h46,h47,h48,h49,h50,h51,h52,h53,h54,h55,h56,h57,h58,h59,h60,h61,h62,h63,h64,h65,h66,h67,j68,j69,j70,j71,j72,j73,j74,j75,j76,j77,j78,j79,j80,j81,j82,j83,j84,j85,j86,j87,j88,j89,j90,j91,j92,j93,j94,j95,j96,j97,j98,j99,j100,j101,j102,j103,j104,j105,j106,j107,j108,j109,j110,j111,j112,j113,j114,j115,j116,j117,j118,j119,j120,j121,j122,j123,j124,j125,j126,j127,j128,j129,j130,j131,j132,j133],[]⟩ wz):
  (pth [1,1,1,1,0] (Try.f30.body.getD .skip)).wp Try.prog (noPanB Kn Kr) ⟨#[v0,v1,v2,.slice (some ⟨gn,0,none⟩) N capn,v4,.slice (some ⟨gh,0,none⟩) M caph,j6,j7,j8,j9,.pointer (some ⟨pl,0,none⟩),j11,.bool false,.int .i64 0,.int .i64 0,.int .i64 0,j16,j17,j18,j19,j20,j21,j22,j23,j24,j25,j26,j27,j28,j29,j30,j31,j32,j33,j34,j35,j36,j37,j38,j39,j40,j41,j42,j43,j44,j45,j46,j47,j48,j49,j50,j51,j52,j53,j54,j55,j56,j57,j58,j59,j60,j61,j62,j63,j64,j65,j66,j67,j68,j69,j70,j71,j72,j73,j74,j75,j76,j77,j78,j79,j80,j81,j82,j83,j84,j85,j86,j87,j88,j89,j90,j91,j92,j93,j94,j95,j96,j97,j98,j99,j100,j101,j102,j103,j104,j105,j106,j107,j108,j109,j110,j111,j112,j113,j114,j115,j116,j117,j118,j119,j120,j121,j122,j123,j124,j125,j126,j127,j128,j129,j130,j131,j132,j133],[]⟩ w:=by
 have HQ:=hide hQ;have Hn:=hide hn;have Hh:=hide hh;have HK:=hide hK
 have hM:=hide hM;clear hQ hn hh hK;simp only[Try.f30,Option.getD_some,pth];go_wp2;go_loopw [13,14,15,16] (fun a b c x wr=>∃z:Nat,z<=N/\a= .int .i64 (offK Kz V z:Nat)/\b= .int .i64 (whoH Kz V pa z:Nat)/\c= .int .i64 (sumH Kz V pa z:Nat)/\x= .int .i64 z/\Drs w wr) (fun _ _ _ x _=>leftOf N (intOf x).toNat)
 case atStart=>exact⟨0,by omega,rfl,rfl,rfl,rfl,0,rfl⟩
 case round=>
  obtain⟨z,hz,rfl,rfl,rfl,rfl,hdr⟩:=hrel;replace hdr:=hide hdr;by_cases hlt:z<N
  ·have e1:=(hdr.out.cell _).trans (Hn.out z hlt);have hVr:=(hdr.out.cell _).trans hV;have hkv:=HK.out z hlt;have ho:=offK_le Kz V z (fun y hy=>HK.out y (by omega));have hm:=offK_mono Kz V N z hlt;rw[hM.out]at hm;have hsl:=sumH_le Kz V pa z (fun y hy=>HK.out y (by omega));have hwl:=whoH_le Kz V pa z;have hs0:=hide (show offK Kz V (z+1)=offK Kz V z+Kz z+V from rfl);have hs1:=hide (show sumH Kz V pa (z+1)=sumH Kz V pa z+cntH (pa z) (Kz z+V)from rfl);have hs2:=hide (show whoH Kz V pa (z+1)=whoH Kz V pa z+if Kz z<=cntH (pa z) (Kz z+V)then 1 else 0 from rfl);have hcl:=cntH_le (pa z) (Kz z+V);have hhz:=hide (Hh.out z hlt);have e0:=hide (Hn.out z hlt);generalize offK Kz V z=af at ho hm hs0 hhz;generalize sumH Kz V pa z=sm at hsl hs1;generalize whoH Kz V pa z=wh at hwl hs2;generalize Kz z=kk at e0 e1 hkv hm hs0 hs1 hs2 hcl hhz;obtain⟨nn,hnn⟩:∃nn,nn=kk+V:=⟨_,rfl⟩;have hz0:(0:Int)<=(z:Int):=by omega
   have hz1:(z:Int)<(N:Int):=by omega
   have wr1:IntKind.i64.wrap ((kk:Int)+(V:Int))=(kk:Int)+(V:Int):=qB _ (by omega) (by omega);rw[<-hnn]at hs1 hs2 hcl hhz hkv;replace hnn:=hide hnn;go_wp2;go_loopw [17,18] (fun c i w2=>∃k:Nat,k<=nn/\c= .int .i64 (cntH (pa z) k:Nat)/\i= .int .i64 k/\Drs w w2) (fun _ i _=>leftOf nn (intOf i).toNat)
   case atStart=>exact⟨0,by omega,rfl,rfl,hdr.out⟩
   case round=>
    obtain⟨k,hk,rfl,rfl,hd2⟩:=hrel;replace hd2:=hide hd2;have hnk:=hnn.out;have hck:=cntH_le (pa z) k;have e3:=(hd2.out.cell _).trans (e0.out);have e4:=(hd2.out.cell _).trans hV;clear e1 hVr;by_cases hkl:k<nn
    ·have e2:=(hd2.out.cell _).trans (hhz.out k hkl);have hs3:=hide (show cntH (pa z) (k+1)=cntH (pa z) k+if(pa z k).isSome then 1 else 0 from rfl);generalize cntH (pa z) k=ck at hck hs3;have hk1:(k:Int)<(kk:Int)+(V:Int):=by omega
     have wr2:IntKind.i64.wrap ((af:Int)+(k:Int))=((af+k:Nat):Int):=by rw[qB _ (by omega) (by omega)];omega
     have hi0:(0:Int)<=((af+k:Nat):Int):=by omega
     have hi1:((af+k:Nat):Int)<(M:Int):=by omega
     have wr3:IntKind.i64.wrap ((ck:Int)+1)=((ck+1:Nat):Int):=qB _ (by omega) (by omega);generalize (pa z k).isSome=bk at e2 hs3;replace hnk:=hide hnk;cases bk
     ·go_wp2;go_quiet (fail)
      go_wp2;exact⟨⟨k+1,by omega,by rw[hs3.out];rfl,by go_num,hd2.out.more _⟩,by refine qD ?_ ?_<;>simp only[intOf]<;>omega⟩
     ·go_wp2;go_quiet (fail)
      go_wp2;exact⟨⟨k+1,by omega,by rw[hs3.out];rfl,by go_num,hd2.out.more _⟩,by refine qD ?_ ?_<;>simp only[intOf]<;>omega⟩
    ·have e:k=nn:=by omega
     subst e;have hk1:¬(k:Int)<(kk:Int)+(V:Int):=by omega
     generalize cntH (pa z) k=ck at hck hs1 hs2 hcl;have w3a:IntKind.i64.wrap ((af:Int)+(kk:Int))=(af:Int)+(kk:Int):=qB _ (by omega) (by omega);have w3b:IntKind.i64.wrap ((af:Int)+(kk:Int)+(V:Int))=(af:Int)+(kk:Int)+(V:Int):=qB _ (by omega) (by omega);have w3c:IntKind.i64.wrap ((sm:Int)+(ck:Int))=(sm:Int)+(ck:Int):=qB _ (by omega) (by omega);have w3d:IntKind.i64.wrap ((wh:Int)+1)=(wh:Int)+1:=qB _ (by omega) (by omega);replace hnk:=hide hnk;by_cases hge:kk<=ck
     ·have hi:(kk:Int)<=(ck:Int):=by omega
      go_wp2;go_quiet (fail)
      obtain⟨w4,hw4⟩:∃w4,w4=wr.drewN nq:=⟨_,rfl⟩;have hd4:Hid (Drs w w4):=by show Drs _ _;rw[hw4];exact hd2.out.more _
      rw[<-hw4];have e5:=(hd4.out.cell _).trans (e0.out);have e6:=(hd4.out.cell _).trans hV;clear e3 e4 hw4;go_wp2;go_quiet (fail)
      go_wp2;exact⟨⟨z+1,by omega,by rw[hs0.out];go_num,by rw[hs2.out,if_pos hge];go_num,by rw[hs1.out];go_num,by go_num,hd4.out.more _⟩,by refine qD ?_ ?_<;>simp only[intOf]<;>omega⟩
     ·have hi:¬(kk:Int)<=(ck:Int):=by omega
      go_wp2;go_quiet (fail)
      obtain⟨w4,hw4⟩:∃w4,w4=wr.drewN nq:=⟨_,rfl⟩;have hd4:Hid (Drs w w4):=by show Drs _ _;rw[hw4];exact hd2.out.more _
      rw[<-hw4];have e5:=(hd4.out.cell _).trans (e0.out);have e6:=(hd4.out.cell _).trans hV;clear e3 e4 hw4;go_wp2;go_quiet (fail)
      go_wp2;exact⟨⟨z+1,by omega,by rw[hs0.out];go_num,by rw[hs2.out,if_neg hge];go_num,by rw[hs1.out];go_num,by go_num,hd4.out.more _⟩,by refine qD ?_ ?_<;>simp only[intOf]<;>omega⟩
  ·have e:z=N:=by omega
   subst e;go_wp2;rw[hM.out];exact HQ.out _ hdr.out _ _ _ _ _ _ _ _ _ _ _ _ _ _ _ _ _ _ _ _ _ _ _ _ _ _ _ _ _ _ _ _ _ _ _ _ _ _ _ _ _ _ _ _ _ _ _ _
end Go.Proofs.Ytmfpiodlecapiaa
namespace Go.Proofs.Ytmfpiodlecapiaa
open Go.RowKit Go.Deep
structure Oj where
 len:Nat
 sz:Nat
 ms:Nat
 V:Nat
 obj:List Nat
namespace Oj
def L(s:Oj):List Nat:=Cut.sizes s.len s.sz s.ms
def N(s:Oj):Nat:=s.L.length
def K(s:Oj)(z:Nat):Nat:=s.L[z]?.getD 0
def fl(s:Oj):List Nat:=Pk.filled s.obj (Cut.pieces s.len s.sz*s.sz)
def blk(s:Oj)(z:Nat):List Nat:=Pk.blkAt s.fl s.L s.sz z
def off(s:Oj)(z:Nat):Nat:=Pk.start s.L s.V z
def T(s:Oj):Nat:=s.off s.N
def pc(s:Oj)(z n:Nat):List Nat:=Pk.pieceN (s.blk z) s.sz (s.K z) n
def pkt(s:Oj)(id z n:Nat):List Nat:=Pk.packet id s.len s.sz s.ms s.V z n (s.pc z n)
structure Ok(s:Oj):Prop where
 len:s.len<=2000
 s1:1<=s.sz
 s2:s.sz<=16
 m1:1<=s.ms
 m2:s.ms<=20
 v:s.V<=20
 few:Cut.blocks (Cut.pieces s.len s.sz) s.ms<=256
 obj:s.obj.length=s.len
 lt:∀x∈s.obj,x<256
variable {s:Oj}
theorem N_eq(s:Oj):s.N=Cut.blocks (Cut.pieces s.len s.sz) s.ms:=Cut.sizes_length _ _ _
theorem Ok.N1(h:s.Ok):1<=s.N:=by rw[N_eq];exact Cut.blocks_pos (Cut.pieces_pos _ _) h.m1
theorem Ok.N2(h:s.Ok):s.N<=256:=by rw[N_eq];exact h.few
theorem Ok.K_bounds(h:s.Ok){z:Nat}(hz:z<s.N):1<=s.K z/\s.K z<=20:=by
 have e:s.K z=s.L[z]'hz:=by
  unfold K;rw[List.getElem?_eq_getElem hz];rfl
 have:=Cut.sizes_bounds (len:=s.len) (s:=s.sz) h.m1 (s.L[z]'hz) (List.getElem_mem (l:=s.L) hz);rw[<-e]at this;have:=h.m2;omega
theorem Ok.fl_length(h:s.Ok):s.fl.length=Cut.pieces s.len s.sz*s.sz:=by
 have:=Cut.pieces_cover (len:=s.len) h.s1;simp[fl,Pk.filled,h.obj];omega
theorem Ok.fl_lt(h:s.Ok):∀x∈s.fl,x<256:=by
 intro x hx;simp only[fl,Pk.filled,List.mem_append]at hx;rcases hx with hx|hx
 ·exact h.lt x hx
 ·rw[(List.mem_replicate.1 hx).2];omega
theorem Ok.sum(h:s.Ok):s.L.sum=Cut.pieces s.len s.sz:=Cut.sizes_sum h.m1
theorem Ok.blk_length(h:s.Ok){z:Nat}(hz:z<s.N):(s.blk z).length=s.K z*s.sz:=Go.Proofs.Ytmfpiodlecapiaa.blk_length hz h.sum rfl h.fl_length
theorem Ok.blk_lt(h:s.Ok)(z:Nat):∀x∈s.blk z,x<256:=fun x hx=>h.fl_lt x (List.mem_of_mem_drop (List.mem_of_mem_take hx))
theorem Ok.pc_length(h:s.Ok){z n:Nat}(hz:z<s.N):(s.pc z n).length=s.sz:=Pk.pieceN_length (h.blk_length hz)
theorem Ok.pc_lt(h:s.Ok){z n:Nat}(hz:z<s.N)(hn:n<s.K z+s.V):∀x∈s.pc z n,x<256:=by
 have:=h.K_bounds hz;have:=h.v;exact Pk.pieceN_lt (h.blk_lt z) (by omega) (by omega)
theorem flat_upTo(s:Oj):∀k,k<=s.N->((List.range k).map s.blk).flatten=s.fl.take ((s.L.take k).sum*s.sz)
 |0,_=>by simp
 |k+1,hk=>by
  rw[List.range_succ,List.map_append,List.flatten_append,flat_upTo s k (by omega)];simp only[List.map_cons,List.map_nil,List.flatten_cons,List.flatten_nil,List.append_nil];rw[sum_take_succ (getD_some (show k<s.L.length from hk)),Nat.add_mul,List.take_add];rfl
theorem Ok.flat(h:s.Ok):((List.range s.N).map s.blk).flatten=s.fl:=by
 rw[flat_upTo s s.N (Nat.le_refl _),show s.L.take s.N=s.L from List.take_length,h.sum];exact List.take_of_length_le (by rw[h.fl_length];exact Nat.le_refl _)
theorem Ok.flat_len(h:s.Ok):s.len<=((List.range s.N).map s.blk).flatten.length:=by
 rw[h.flat,h.fl_length];exact Cut.pieces_cover h.s1
theorem Ok.flat_at(h:s.Ok){j:Nat}(hj:j<s.len):((List.range s.N).map s.blk).flatten[j]?.getD 0=s.obj[j]?.getD 0:=by
 rw[h.flat];exact congrArg (·.getD 0) (filled_head (by rw[h.obj];exact hj))
theorem offK_eq(s:Oj):∀z,z<=s.N->offK s.K s.V z=s.off z
 |0,_=>by simp[offK,off,Pk.start]
 |z+1,hz=>by
  have:=Pk.start_succ (L:=s.L) (p:=s.V) (show z<s.L.length from hz);simp only[offK,offK_eq s z (by omega)];show s.off z+s.L[z]?.getD 0+s.V=Pk.start s.L s.V (z+1);rw[this];show Pk.start s.L s.V z+_+_=_;omega
theorem off_lt(s:Oj){z n:Nat}(hz:z<s.N)(hn:n<s.K z+s.V):s.off z+n<s.T:=by
 have h1:=Pk.start_succ (L:=s.L) (p:=s.V) (show z<s.L.length from hz);have h2:=Pk.start_mono (L:=s.L) (p:=s.V) (z:=z+1) s.N hz (Nat.le_refl _);have h3:n<s.L[z]?.getD 0+s.V:=hn;show Pk.start s.L s.V z+n<Pk.start s.L s.V s.N;omega
theorem off_inj(s:Oj){z n z' n':Nat}(hz:z<s.N)(hn:n<s.K z+s.V)(hz':z'<s.N)(hn':n'<s.K z'+s.V)(e:s.off z+n=s.off z'+n'):z=z'/\n=n':=by
 have key:∀{a b c d:Nat},a<b->b<s.N->c<s.K a+s.V->s.off a+c<s.off b+d:=fun {a b c d} hab hb hc=>by
  have h1:=Pk.start_succ (L:=s.L) (p:=s.V) (show a<s.L.length from Nat.lt_trans hab hb);have h2:=Pk.start_mono (L:=s.L) (p:=s.V) (z:=a+1) b hab (Nat.le_of_lt hb);have h3:c<s.L[a]?.getD 0+s.V:=hc;show Pk.start s.L s.V a+c<Pk.start s.L s.V b+d;omega
 rcases Nat.lt_trichotomy z z' with h|h|h
 ·have:=key (d:=n') h hz' hn;omega
 ·subst h;exact⟨rfl,by omega⟩
 ·have:=key (d:=n) h hz hn';omega
theorem split(s:Oj){k:Nat}(hk:k<s.T):∃z n,z<s.N/\n<s.K z+s.V/\k=s.off z+n:=start_split s.N (Nat.le_refl _) hk
theorem Ok.packets_at(h:s.Ok){id z n:Nat}(hz:z<s.N)(hn:n<s.K z+s.V):(Pk.packets id s.obj s.sz s.ms s.V)[s.off z+n]? =some (s.pkt id z n):=
 packet_of h.obj rfl _ rfl hz hn
theorem Ok.T_pos(h:s.Ok):0<s.T:=by
 have h1:=h.N1;have h2:=h.K_bounds (z:=0) (by omega);have:=s.off_lt (z:=0) (n:=0) (by omega) (by omega);omega
theorem Ok.T_le(h:s.Ok):s.T<=10240:=by
 have h0:=s.offK_eq s.N (Nat.le_refl _);have h1:=offK_le s.K s.V s.N (fun z hz=>by have:=h.K_bounds hz;have:=h.v;omega);have:=h.N2;show s.off s.N<=_;omega
theorem Ok.pkt_length(h:s.Ok){id z n:Nat}(hz:z<s.N):(s.pkt id z n).length=10+s.sz:=Pk.packet_length (h.pc_length hz)
theorem Ok.pkt_lt(h:s.Ok){id z n:Nat}(hid:id<65536)(hz:z<s.N)(hn:n<s.K z+s.V):∀x∈s.pkt id z n,x<256:=by
 intro x hx;have h1:=h.N2;have h2:=h.K_bounds hz;have h3:=h.len;have h4:=h.s2;have h5:=h.m2;have h6:=h.v;simp only[pkt,Pk.packet,Pk.head,List.mem_append,List.mem_cons,List.not_mem_nil,or_false]at hx;rcases hx with(rfl|rfl|rfl|rfl|rfl|rfl|rfl|rfl|rfl|rfl)|hx;all_goals first|exact h.pc_lt hz hn x hx|omega
theorem pkt_head(s:Oj)(id z n:Nat):headOf (s.pkt id z n)=headV id s.len s.sz s.ms s.V z n:=by
 show headV (256*(id/256)+id%256) (256*(s.len/256)+s.len%256) s.sz s.ms s.V z n=_;rw[Nat.div_add_mod,Nat.div_add_mod]
theorem Ok.isPacket(h:s.Ok){id z n:Nat}(hz:z<s.N)(hn:n<s.K z+s.V):Tx.IsPacket (s.pkt id z n):=by
 have hl:=h.pkt_length (id:=id) (n:=n) hz;have hs1:=h.s1;have e:256*(s.pkt id z n)[3]?.getD 0+(s.pkt id z n)[4]?.getD 0=s.len:=Nat.div_add_mod s.len 256;have e5:(s.pkt id z n)[5]?.getD 0=s.sz:=rfl;have e6:(s.pkt id z n)[6]?.getD 0=s.ms:=rfl;have e7:(s.pkt id z n)[7]?.getD 0=s.V:=rfl;have e8:(s.pkt id z n)[8]?.getD 0=z:=rfl;have e9:(s.pkt id z n)[9]?.getD 0=n:=rfl;unfold Tx.IsPacket;rw[e,e5,e6,e7,e8,e9,hl];exact⟨by omega,rfl,h.len,⟨h.s1,h.s2⟩,⟨h.m1,h.m2⟩,h.v,h.few,by rw[<-N_eq];exact hz,hn,rfl⟩
end Oj
end Go.Proofs.Ytmfpiodlecapiaa
namespace Go.Proofs.Ytmfpiodlecapiaa
open Go.RowKit Go.Deep
structure NewInv(w:World)(hd:List Value)(len sz ms V g:Nat)(c:Nat->Nat)(L:List Value)(wr:World)(q:Nat)(vB:Value)(pb:Nat->Nat):Prop where
 below:Below w.heap.size w wr
 head:qS wr w.heap.size 83 hd
 obj:qS wr (w.heap.size+1) 109 [.int .i64 len,.int .i64 sz,.int .i64 ms,.int .i64 V,vB]
 cnt:qS wr g 3 L
 own:OwnS wr 33 vB ((List.range q).map fun i=>Value.slice (some ⟨pb i,0,none⟩) (c i+V) (c i+V))
 far:∀k,vB.ownBlock=some k->w.heap.size+2<=k
 row:∀i,i<q->w.heap.size+2<=pb i/\qS wr (pb i) 36 (List.replicate (c i+V) (.slice none 0 0))/\vB.ownBlock≠some (pb i)
 inj:∀i j,i<q->j<q->pb i=pb j->i=j
theorem NewInv.step{w:World}{hd L:List Value}{len sz ms V g q:Nat}{c:Nat->Nat}{wr w2:World}{vB v':Value}{pb:Nat->Nat}(hg:w.heap.size+2<=g)(h:NewInv w hd len sz ms V g c L wr q vB pb)
  (ha:AppTo ((wr.drew.alloc (.cells (madeCells #[.slice none 0 0] (c q+V)) 36)).alloc (.cells #[.slice (some ⟨wr.heap.size,0,none⟩) (c q+V) (c q+V)] 33)) w2 33 vB v' ((List.range q).map fun i=>Value.slice (some ⟨pb i,0,none⟩) (c i+V) (c i+V)) [.slice (some ⟨wr.heap.size,0,none⟩) (c q+V) (c q+V)]):
  NewInv w hd len sz ms V g c L (w2.setCell ⟨w.heap.size+1,4,none⟩ v') (q+1) v' (fun i=>if i=q then wr.heap.size else pb i):=by
 have hW1:=rowL_made wr.drew (.slice none 0 0) (c q+V) 36;have hs:((wr.drew.alloc (.cells (madeCells #[.slice none 0 0] (c q+V)) 36)).alloc (.cells #[.slice (some ⟨wr.heap.size,0,none⟩) (c q+V) (c q+V)] 33)).heap.size=wr.heap.size+2:=by simp
 have keep:∀g t (l:List Value),qS wr g t l->vB.ownBlock≠some g->qS w2 g t l:=fun g t l hr hne=>ha.other ((hr.drew.alloc _).alloc _) hne;have hsz:=h.below.size;have hob:=h.obj.lt;have hvlt:∀k,vB.ownBlock=some k->k<wr.heap.size:=fun k hk=>h.own.lt hk;have far':∀k,v'.ownBlock=some k->w.heap.size+2<=k:=ha.from (by rw[hs];omega) h.far;refine⟨?_,?_,?_,?_,?_,far',?_,?_⟩
 ·have hb:=(h.below.drew.alloc hsz (.cells (madeCells #[.slice none 0 0] (c q+V)) 36)).alloc (by simp;omega) (.cells #[.slice (some ⟨wr.heap.size,0,none⟩) (c q+V) (c q+V)] 33);exact(ha.below hb (by rw[hs];omega) (fun k hk=>by have:=h.far k hk;omega)).setCell (show w.heap.size<=w.heap.size+1 by omega) _
 ·exact(keep _ _ _ h.head (fun e=>by have:=h.far _ e;omega)).other (show w.heap.size≠w.heap.size+1 by omega) _
 ·have:=(keep _ _ _ h.obj (fun e=>by have:=h.far _ e;omega)).set 4 v';exact this
 ·exact(keep _ _ _ h.cnt (h.own.ne_type h.cnt (by decide))).other (show g≠w.heap.size+1 by omega) _
 ·have:=ha.own;rw[List.range_succ,List.map_append,List.map_cons,List.map_nil];have e1:((List.range q).map fun i=>Value.slice (some ⟨if i=q then wr.heap.size else pb i,0,none⟩) (c i+V) (c i+V))=(List.range q).map fun i=>Value.slice (some ⟨pb i,0,none⟩) (c i+V) (c i+V):=by
   refine List.map_congr_left fun i hi=>?_;rw[if_neg (by rw[List.mem_range]at hi;omega)]
  simp only[e1,if_true];exact this.of_block fun k hk=>Below.heap_setCell _ _ _ _ (show k≠w.heap.size+1 from fun e=>by have:=far' k hk;omega)
 ·intro i hi;by_cases e:i=q
  ·subst e;simp only[if_true];refine⟨by omega,?_,fun hv=>?_⟩
   ·refine(qS.other ?_ (show wr.heap.size≠w.heap.size+1 by omega) _);exact ha.other (hW1.alloc _) (fun hv=>by have:=hvlt _ hv;simp at this)
   ·rcases ha.block with h1|h1
    ·rw[h1]at hv;have:=hvlt _ hv;omega
    ·rw[h1,hs]at hv;have:=Option.some.inj hv;omega
  ·simp only[if_neg e];obtain⟨a1,a2,a3⟩:=h.row i (by omega);refine⟨a1,(keep _ _ _ a2 a3).other (show pb i≠w.heap.size+1 by omega) _,fun hv=>?_⟩;rcases ha.block with h1|h1
   ·rw[h1]at hv;exact a3 hv
   ·rw[h1,hs]at hv;have:=Option.some.inj hv;have:=a2.lt;omega
 ·intro i j hi hj e;have lt:∀i,i<q->pb i<wr.heap.size:=fun i hi=>(h.row i hi).2.1.lt;by_cases e1:i=q<;>by_cases e2:j=q
  ·omega
  ·simp only[if_pos e1,if_neg e2]at e;have:=lt j (by omega);omega
  ·simp only[if_neg e1,if_pos e2]at e;have:=lt i (by omega);omega
  ·simp only[if_neg e1,if_neg e2]at e;exact h.inj i j (by omega) (by omega) e
attribute [local go_sem↓] Go.wp_at_zero Go.wp_at_succ
theorem ite_take{c:Prop}[Decidable c]{p q:Prop}(hc:c)(h:p):if c then p else q:=by rw[if_pos hc];exact h
theorem wp_append_run{P:Program}{o:Oper}{a:Act}{w w':World}{K:Act->World->Prop}{Q:Exit->Act->World->Prop}(s x:Operand)(t:TypeId)(u y v:Value)
  (ho:o.op= .call {callee:=.builtin .append,args:=#[s,x],argTypes:=#[t,t]})(hs:a.eval s=u)(hx:a.eval x=y)(hr:(Builtin.append_ #[t,t] o.type #[u,y]).run P w= .ok v w')(h:K (a.put o.dst v) w'):o.wp P a w K Q:=by
 unfold Oper.wp execOp;simp only[ho,resolve,invoke,builtin,Sem.run_bind,Sem.run_pure,Result.andThen_ok,List.map_toArray,List.map_cons,List.map_nil,hs,hx,hr];exact h
theorem Try.infoLists:(Try.prog.info? 33).map (fun i=>(i.zero,i.size,i.bytes))=some (some (.slice none 0 0),1,24):=by kernel_rfl
set_option linter.unusedSimpArgs false in
set_option maxRecDepth 100000 in
set_option maxHeartbeats 4000000 in
theorem newObject_walk(id len sz ms V z n N:Nat)(hl:len<=2000)(h1:1<=sz)(h2:sz<=16)(h3:1<=ms)(h4:ms<=20)(h5:V<=20)(hN:Hid (Cut.blocks (Cut.pieces len sz) ms=N))(hN2:N<=256)(w:World):
  Calls Try.prog 69 #[headV id len sz ms V z n] w fun e w'=>
   ∃(g:Nat) (vB:Value) (pb:Nat->Nat),e= .returned (.pointer (some ⟨w.heap.size+1,0,none⟩))/\NewInv w [.int .i64 id,.int .i64 len,.int .i64 sz,.int .i64 ms,.int .i64 V,.int .i64 z,.int .i64 n] len sz ms V g (fun i=>(Cut.sizes len sz ms)[i]?.getD 0) (i64s (Cut.sizes len sz ms)) w' N vB pb:=by
 obtain⟨i0,hi0,hz0,hz1,hz2⟩:=info_parts Try.infoBytes;obtain⟨i1,hi1,hy0,hy1,hy2⟩:=info_parts Try.infoLists;unfold headV;have hC:Hid (∀w,Calls Try.prog 44 #[.int .i64 len,.agg #[.int .i64 sz,.int .i64 ms,.int .i64 V]] w fun e w'=>∃g,w.heap.size<=g/\e= .returned (.tuple #[.slice (some ⟨g,0,none⟩) N N,.bool true])/\Below w.heap.size w w'/\qS w' g 3 (i64s (Cut.sizes len sz ms))):=fun w=>by
  have:=(cutBlocks_walk len sz ms V hl h1 h2 h3 h4 h5 w).1 (by rw[hN.out];exact hN2);rw[hN.out]at this;exact this
 have hSl:Hid ((Cut.sizes len sz ms).length=N):=by show _=_;rw[Cut.sizes_length,hN.out]
 have hSb:Hid (∀x∈Cut.sizes len sz ms,x<=20):=fun x hx=>by have:=(Cut.sizes_bounds h3 x hx).2;omega
 have hB1:Below w.heap.size w (w.alloc (.cells #[.int .i64 id,.int .i64 len,.int .i64 sz,.int .i64 ms,.int .i64 V,.int .i64 z,.int .i64 n] 83)):=(Below.refl _ _).alloc (Nat.le_refl _) _;have hH:=rowL_alloc' w #[.int .i64 id,.int .i64 len,.int .i64 sz,.int .i64 ms,.int .i64 V,.int .i64 z,.int .i64 n] 83;have hHs:(w.alloc (.cells #[.int .i64 id,.int .i64 len,.int .i64 sz,.int .i64 ms,.int .i64 V,.int .i64 z,.int .i64 n] 83)).heap.size=w.heap.size+1:=by simp
 go_enter Try.func69,Try.ntmps69;go_wp2_with (go_at_call 44;refine(hC.out _).mono ?_;rintro _ w2 ⟨g,hg,rfl,hb2,hr2⟩;replace hb2:=hide hb2;replace hr2:=hide hr2)
 obtain⟨hgg,hI0⟩:w.heap.size+2<=g/\NewInv w [.int .i64 id,.int .i64 len,.int .i64 sz,.int .i64 ms,.int .i64 V,.int .i64 z,.int .i64 n] len sz ms V g (fun i=>(Cut.sizes len sz ms)[i]?.getD 0) (i64s (Cut.sizes len sz ms)) w2 0 (.slice none 0 0) (fun _=>0):=by
  have e1:((w.alloc (.cells #[.int .i64 id,.int .i64 len,.int .i64 sz,.int .i64 ms,.int .i64 V,.int .i64 z,.int .i64 n] 83)).alloc (.cells #[.int .i64 len,.int .i64 sz,.int .i64 ms,.int .i64 V,.slice none 0 0] 109)).heap.size=w.heap.size+2:=by simp
  have hO:=rowL_alloc' (w.alloc (.cells #[.int .i64 id,.int .i64 len,.int .i64 sz,.int .i64 ms,.int .i64 V,.int .i64 z,.int .i64 n] 83)) #[.int .i64 len,.int .i64 sz,.int .i64 ms,.int .i64 V,.slice none 0 0] 109;rw[e1]at hg;have hB:=hb2.out;rw[e1]at hB;rw[hHs]at hO;refine⟨hg,?_,?_,?_,hr2.out,by simpa using ownS_nil _ _,fun k hk=>by simp[Value.ownBlock]at hk,fun i hi=>by omega,fun i j hi=>by omega⟩
  ·exact(hB1.alloc (by rw[hHs];omega) _).trans (hB.mono (by omega))
  ·exact(hH.alloc _).below hB (by omega)
  ·exact hO.below hB (by omega)
 have HI0:=hide hI0;clear hI0 hb2 hr2 hg hHs hH hB1 hC;go_loopw [24] (fun x wr=>∃(q:Nat) (vB:Value) (pb:Nat->Nat),q<=N/\x= .int .i64 q/\NewInv w [.int .i64 id,.int .i64 len,.int .i64 sz,.int .i64 ms,.int .i64 V,.int .i64 z,.int .i64 n] len sz ms V g (fun i=>(Cut.sizes len sz ms)[i]?.getD 0) (i64s (Cut.sizes len sz ms)) wr q vB pb) (fun x _=>leftOf N (intOf x).toNat)
 case atStart=>exact⟨0,_,_,by omega,rfl,HI0.out⟩
 case round=>
  obtain⟨q,vB,pb,hq,rfl,hI⟩:=hrel;by_cases hlt:q<N
  ·have hqS:q<(Cut.sizes len sz ms).length:=by rw[hSl.out];exact hlt
   have hcq:wr.cell? ⟨g,q,none⟩=some (.int .i64 (((Cut.sizes len sz ms)[q]?.getD 0:Nat):Int)):=hI.cnt.cell q _ (i64s_at hqS);have hc20:(Cut.sizes len sz ms)[q]?.getD 0<=20:=hSb.out _ (by rw[List.getElem?_eq_getElem hqS];exact List.getElem_mem hqS);obtain⟨nz,hnz⟩:∃nz,nz=(Cut.sizes len sz ms)[q]?.getD 0+V:=⟨_,rfl⟩;have hnz40:nz<=40:=by omega
   have hStep:Hid (∀v' w2,AppTo ((wr.drew.alloc (.cells (madeCells #[.slice none 0 0] nz) 36)).alloc (.cells #[.slice (some ⟨wr.heap.size,0,none⟩) nz nz] 33)) w2 33 vB v' ((List.range q).map fun i=>Value.slice (some ⟨pb i,0,none⟩) ((Cut.sizes len sz ms)[i]?.getD 0+V) ((Cut.sizes len sz ms)[i]?.getD 0+V)) [.slice (some ⟨wr.heap.size,0,none⟩) nz nz]->NewInv w [.int .i64 id,.int .i64 len,.int .i64 sz,.int .i64 ms,.int .i64 V,.int .i64 z,.int .i64 n] len sz ms V g (fun i=>(Cut.sizes len sz ms)[i]?.getD 0) (i64s (Cut.sizes len sz ms)) (w2.setCell ⟨w.heap.size+1,4,none⟩ v') (q+1) v' (fun i=>if i=q then wr.heap.size else pb i)):=fun v' w2 ha=>by
    rw[hnz]at ha;exact hI.step hgg ha
   generalize hcc:(Cut.sizes len sz ms)[q]?.getD 0=cc at hcq hc20 hnz;replace hcc:=hide hcc;have hh4:wr.drew.cell? ⟨w.heap.size,4,none⟩=some (.int .i64 V):=hI.head.cell 4 _ rfl;have ho4:wr.drew.cell? ⟨w.heap.size+1,4,none⟩=some vB:=hI.obj.cell 4 _ rfl;have hT1:(wr.drew.alloc (.cells (madeCells #[.slice none 0 0] nz) 36)).cell? ⟨w.heap.size,4,none⟩=some (.int .i64 V):=(hI.head.drew.alloc _).cell 4 _ rfl;have hT2:((wr.drew.alloc (.cells (madeCells #[.slice none 0 0] nz) 36)).alloc (.cells #[.slice (some ⟨wr.heap.size,0,none⟩) nz nz] 33)).cell? ⟨w.heap.size,4,none⟩=some (.int .i64 V):=((hI.head.drew.alloc _).alloc _).cell 4 _ rfl;have ho5:(wr.drew.alloc (.cells (madeCells #[.slice none 0 0] nz) 36)).cell? ⟨w.heap.size+1,4,none⟩=some vB:=(hI.obj.drew.alloc _).cell 4 _ rfl;have ho6:((wr.drew.alloc (.cells (madeCells #[.slice none 0 0] nz) 36)).alloc (.cells #[.slice (some ⟨wr.heap.size,0,none⟩) nz nz] 33)).cell? ⟨w.heap.size+1,4,none⟩=some vB:=((hI.obj.drew.alloc _).alloc _).cell 4 _ rfl;have hHI:=hide hI;have hxl:Hid (((List.range q).map fun i=>Value.slice (some ⟨pb i,0,none⟩) ((Cut.sizes len sz ms)[i]?.getD 0+V) ((Cut.sizes len sz ms)[i]?.getD 0+V)).length=q):=by show _=_;simp
   have hO2:=hide ((hI.own.drew.alloc (.cells (madeCells #[.slice none 0 0] nz) 36)).alloc (.cells #[.slice (some ⟨wr.heap.size,0,none⟩) nz nz] 33));obtain⟨v',w3,hrun,happ⟩:=run_app (P:=Try.prog) ((wr.drew.alloc (.cells (madeCells #[.slice none 0 0] nz) 36)).alloc (.cells #[.slice (some ⟨wr.heap.size,0,none⟩) nz nz] 33)) 34 34 33 i1 (.slice none 0 0) 24 Try.underlying34 hi1 hy0 hy1 hy2 rfl vB _ hO2.out ⟨wr.heap.size+1,0,none⟩ 1 1 [.slice (some ⟨wr.heap.size,0,none⟩) nz nz] rfl (by have:=cell_one_new (wr.drew.alloc (.cells (madeCells #[.slice none 0 0] nz) 36)) (.slice (some ⟨wr.heap.size,0,none⟩) nz nz) 33;simpa using this) (by intro u hu;simp at hu;subst hu;rfl) (by rw[hxl.out];simp[maxLen];omega) (by rw[hxl.out];omega);obtain⟨av,lv,cv,rfl⟩:∃av lv cv,v'=Value.slice av lv cv:=by obtain⟨a,c,e⟩:=happ.own.shape;exact⟨a,_,c,e⟩
   have ho5':(wr.alloc (.cells (madeCells #[.slice none 0 0] nz) 36)).drew.cell? ⟨w.heap.size+1,4,none⟩=some vB:=ho5;have ho6':((wr.alloc (.cells (madeCells #[.slice none 0 0] nz) 36)).alloc (.cells #[.slice (some ⟨wr.heap.size,0,none⟩) nz nz] 33)).drew.cell? ⟨w.heap.size+1,4,none⟩=some vB:=ho6;have hNew:=hide (hStep.out _ w3 happ);have r3:qS w3 w.heap.size 83 _:=happ.other ((hI.head.drew.alloc _).alloc _) (fun e=>by have:=hI.far _ e;omega);have o3:qS w3 (w.heap.size+1) 109 _:=happ.other ((hI.obj.drew.alloc _).alloc _) (fun e=>by have:=hI.far _ e;omega);have hT3:w3.cell? ⟨w.heap.size,4,none⟩=some (.int .i64 V):=r3.cell 4 _ rfl;have ho7:w3.cell? ⟨w.heap.size+1,4,none⟩=some vB:=o3.cell 4 _ rfl;have hf7:w3.frozen? ⟨w.heap.size+1,4,none⟩=false:=o3.frozen 4;have hT4:(w3.setCell ⟨w.heap.size+1,4,none⟩ (.slice av lv cv)).cell? ⟨w.heap.size,4,none⟩=some (.int .i64 V):=(r3.other (show w.heap.size≠w.heap.size+1 by omega) _).cell 4 _ rfl;replace happ:=hide happ;have hwr:IntKind.i64.wrap ((cc:Int)+(V:Int))=(cc:Int)+(V:Int):=qB _ (by omega) (by omega);have hcV:(cc:Int)+(V:Int)=(nz:Int):=by omega
   have hmk:(Instr.makeSlice 33 (.int .i64 ((cc:Int)+(V:Int))) (.int .i64 ((cc:Int)+(V:Int)))).run Try.prog wr.drew= .ok (.slice (some ⟨wr.heap.size,0,none⟩) nz nz) (wr.drew.alloc (.cells (madeCells #[.slice none 0 0] nz) 36)):=by
    rw[hcV];have hr:=run_make (P:=Try.prog) wr.drew 33 36 i0 (.slice none 0 0) Try.underlying33 hi0 hz0 .i64 .i64 nz nz (by omega) (by omega) (by rw[hz2];omega) (by omega);simp only[Int.toNat_natCast,hz1,Nat.mul_one]at hr;exact hr
   replace hcV:=hide hcV;replace hnz:=hide hnz;replace r3:=hide r3;replace o3:=hide o3;have hq0:(0:Int)<=(q:Int):=by omega
   have hq1:(q:Int)<(N:Int):=by omega
   clear hI hO2;go_wp2_with fail
   refine wp_region_held_drew (S:=fun w'=>w'.cell? ⟨w.heap.size,4,none⟩=some (.int .i64 V)) (by kernel_rfl) hh4 (fun hS0=>?_);refine wpAnyH_take (i:=0) (v:=?v1) rfl (by kernel_rfl) (by kernel_rfl) (by kernel_rfl) (fun _ _ _ h=>h) (Or.inl ⟨by rfl,?hy1⟩) (by assumption) ?rest1
   case hy1=>(intro wz hSw;go_simp;try (with_reducible rfl))
   try simp only[Act.put,List.getElem_toArray,List.getElem_cons_zero,List.getElem_cons_succ,List.setIfInBounds_toArray,List.set_cons_zero,List.set_cons_succ]
   refine wpAnyH_take (i:=1) (v:=?v2) rfl (by kernel_rfl) (by kernel_rfl) (by kernel_rfl) (fun _ _ _ h=>h) (Or.inl ⟨by rfl,?hy2⟩) (by assumption) ?rest2
   case hy2=>(intro wz hSw;go_simp;try (with_reducible rfl))
   try simp only[Act.put,List.getElem_toArray,List.getElem_cons_zero,List.getElem_cons_succ,List.setIfInBounds_toArray,List.set_cons_zero,List.set_cons_succ]
   refine wpAnyH_take (i:=2) (v:=?v3) rfl (by kernel_rfl) (by kernel_rfl) (by kernel_rfl) (fun _ _ _ h=>h) (Or.inl ⟨by rfl,?hy3⟩) (by assumption) ?rest3
   case hy3=>(intro wz hSw;go_simp;try (with_reducible rfl))
   try simp only[Act.put,List.getElem_toArray,List.getElem_cons_zero,List.getElem_cons_succ,List.setIfInBounds_toArray,List.set_cons_zero,List.set_cons_succ]
   refine wpAnyH_take (i:=3) (v:=?v4) rfl (by kernel_rfl) (by kernel_rfl) (by kernel_rfl) (fun _ _ _ h=>h) (Or.inl ⟨by rfl,?hy4⟩) (by assumption) ?rest4
   case hy4=>(intro wz hSw;go_simp;try (with_reducible rfl))
   try simp only[Act.put,List.getElem_toArray,List.getElem_cons_zero,List.getElem_cons_succ,List.setIfInBounds_toArray,List.set_cons_zero,List.set_cons_succ]
   refine wpAnyH_take (i:=5) (v:=?v5) rfl (by kernel_rfl) (by kernel_rfl) (by kernel_rfl) (fun _ _ _ h=>h) (Or.inl ⟨by rfl,?hy5⟩) (by assumption) ?rest5
   case hy5=>(intro wz hSw;go_simp;try (with_reducible rfl))
   try simp only[Act.put,List.getElem_toArray,List.getElem_cons_zero,List.getElem_cons_succ,List.setIfInBounds_toArray,List.set_cons_zero,List.set_cons_succ]
   refine wpAnyH_take (i:=6) (v:=?v6) rfl (by kernel_rfl) (by kernel_rfl) (by kernel_rfl) (fun _ _ _ h=>h) (Or.inl ⟨by rfl,?hy6⟩) (by assumption) ?rest6
   case hy6=>(intro wz hSw;go_simp;try (with_reducible rfl))
   try simp only[Act.put,List.getElem_toArray,List.getElem_cons_zero,List.getElem_cons_succ,List.setIfInBounds_toArray,List.set_cons_zero,List.set_cons_succ]
   refine wpAnyH_take (i:=7) (v:=?v7) rfl (by kernel_rfl) (by kernel_rfl) (by kernel_rfl) (fun _ _ _ h=>h) (Or.inl ⟨by rfl,?hy7⟩) (by assumption) ?rest7
   case hy7=>(intro wz hSw;go_simp;try (with_reducible rfl))
   try simp only[Act.put,List.getElem_toArray,List.getElem_cons_zero,List.getElem_cons_succ,List.setIfInBounds_toArray,List.set_cons_zero,List.set_cons_succ]
   refine wpAnyH_take (i:=8) (v:=?v8) rfl (by kernel_rfl) (by kernel_rfl) (by kernel_rfl) (fun _ _ _ h=>h) (Or.inl ⟨by rfl,?hy8⟩) (by assumption) ?rest8
   case hy8=>(intro wz hSw;have hcz:=hSw;go_simp;try (with_reducible rfl))
   try simp only[Act.put,List.getElem_toArray,List.getElem_cons_zero,List.getElem_cons_succ,List.setIfInBounds_toArray,List.set_cons_zero,List.set_cons_succ]
   refine wpAnyH_take (i:=9) (v:=?v9) rfl (by kernel_rfl) (by kernel_rfl) (by kernel_rfl) (fun _ _ _ h=>h) (Or.inl ⟨by rfl,?hy9⟩) (by assumption) ?rest9
   case hy9=>(intro wz hSw;go_simp;try (with_reducible rfl))
   try simp only[Act.put,List.getElem_toArray,List.getElem_cons_zero,List.getElem_cons_succ,List.setIfInBounds_toArray,List.set_cons_zero,List.set_cons_succ]
   refine wpAnyH_ready (rs:= [4,10]) (by kernel_rfl) (by simp) ?_;refine AllReadyH.cons rfl (fun K hK=>?_) ?_
   ·go_simp;refine hK.out _ _ hS0 (fun hS1=>?_);clear hK K;try simp only[Act.put,List.getElem_toArray,List.getElem_cons_zero,List.getElem_cons_succ,List.setIfInBounds_toArray,List.set_cons_zero,List.set_cons_succ]
    refine wpAnyH_ready (rs:= [10]) (by kernel_rfl) (by simp) ?_;refine AllReadyH.cons rfl (fun K hK=>?_) ?_
    ·go_simp;refine hK.out _ _ hT1 (fun hS2=>?_);clear hK K;try simp only[Act.put,List.getElem_toArray,List.getElem_cons_zero,List.getElem_cons_succ,List.setIfInBounds_toArray,List.set_cons_zero,List.set_cons_succ]
     refine wpAnyH_ready (rs:= [11]) (by kernel_rfl) (by simp) ?_;refine AllReadyH.cons rfl (fun K hK=>?_) ?_
     ·go_simp;refine hK.out _ _ hT2 (fun hS3=>?_);clear hK K;try simp only[Act.put,List.getElem_toArray,List.getElem_cons_zero,List.getElem_cons_succ,List.setIfInBounds_toArray,List.set_cons_zero,List.set_cons_succ]
      refine wpAnyH_ready (rs:= [12]) (by kernel_rfl) (by simp) ?_;refine AllReadyH.cons rfl (fun K hK=>?_) ?_
      ·refine ite_take rfl ?_;refine wp_append_run (.tmp 32) (.tmp 39) 34 _ _ _ rfl rfl rfl hrun ?_;refine hK.out _ _ hT3 (fun hS4=>?_);clear hK K;try simp only[Act.put,List.getElem_toArray,List.getElem_cons_zero,List.getElem_cons_succ,List.setIfInBounds_toArray,List.set_cons_zero,List.set_cons_succ]
       refine wpAnyH_take (i:=13) (v:=?v10) rfl (by kernel_rfl) (by kernel_rfl) (by kernel_rfl) (fun _ _ _ h=>h) (Or.inl ⟨by rfl,?hy10⟩) (by assumption) ?rest10
       case hy10=>(intro wz hSw;go_simp;try (with_reducible rfl))
       try simp only[Act.put,List.getElem_toArray,List.getElem_cons_zero,List.getElem_cons_succ,List.setIfInBounds_toArray,List.set_cons_zero,List.set_cons_succ]
       refine wpAnyH_take (i:=14) (v:=?v11) rfl (by kernel_rfl) (by kernel_rfl) (by kernel_rfl) (fun _ _ _ h=>h) (Or.inl ⟨by rfl,?hy11⟩) (by assumption) ?rest11
       case hy11=>(intro wz hSw;go_simp;try (with_reducible rfl))
       try simp only[Act.put,List.getElem_toArray,List.getElem_cons_zero,List.getElem_cons_succ,List.setIfInBounds_toArray,List.set_cons_zero,List.set_cons_succ]
       refine wpAnyH_ready (rs:= [15]) (by kernel_rfl) (by simp) ?_;refine AllReadyH.cons rfl (fun K hK=>?_) ?_
       ·go_simp;refine hK.out _ _ hT4 (fun hS5=>?_);clear hK K;try simp only[Act.put,List.getElem_toArray,List.getElem_cons_zero,List.getElem_cons_succ,List.setIfInBounds_toArray,List.set_cons_zero,List.set_cons_succ]
        refine wpAnyH_done (by kernel_rfl) ?_ _;go_wp2;go_roundw
        case rel=>exact⟨q+1,_,_,by omega,by go_num,hNew.out⟩
        case measure=>refine qD ?_ ?_<;>simp only[intOf]<;>omega
       exact AllReadyH.nil
      exact AllReadyH.nil
     exact AllReadyH.nil
    exact AllReadyH.nil
   refine AllReadyH.cons rfl (fun K hK=>?_) ?_
   ·go_simp;refine hK.out _ _ hT1 (fun hS1=>?_);clear hK K;try simp only[Act.put,List.getElem_toArray,List.getElem_cons_zero,List.getElem_cons_succ,List.setIfInBounds_toArray,List.set_cons_zero,List.set_cons_succ]
    refine wpAnyH_ready (rs:= [4,11]) (by kernel_rfl) (by simp) ?_;refine AllReadyH.cons rfl (fun K hK=>?_) ?_
    ·go_simp;refine hK.out _ _ hS1 (fun hS2=>?_);clear hK K;try simp only[Act.put,List.getElem_toArray,List.getElem_cons_zero,List.getElem_cons_succ,List.setIfInBounds_toArray,List.set_cons_zero,List.set_cons_succ]
     refine wpAnyH_ready (rs:= [11]) (by kernel_rfl) (by simp) ?_;refine AllReadyH.cons rfl (fun K hK=>?_) ?_
     ·go_simp;refine hK.out _ _ hT2 (fun hS3=>?_);clear hK K;try simp only[Act.put,List.getElem_toArray,List.getElem_cons_zero,List.getElem_cons_succ,List.setIfInBounds_toArray,List.set_cons_zero,List.set_cons_succ]
      refine wpAnyH_ready (rs:= [12]) (by kernel_rfl) (by simp) ?_;refine AllReadyH.cons rfl (fun K hK=>?_) ?_
      ·refine ite_take rfl ?_;refine wp_append_run (.tmp 32) (.tmp 39) 34 _ _ _ rfl rfl rfl hrun ?_;refine hK.out _ _ hT3 (fun hS4=>?_);clear hK K;try simp only[Act.put,List.getElem_toArray,List.getElem_cons_zero,List.getElem_cons_succ,List.setIfInBounds_toArray,List.set_cons_zero,List.set_cons_succ]
       refine wpAnyH_take (i:=13) (v:=?v12) rfl (by kernel_rfl) (by kernel_rfl) (by kernel_rfl) (fun _ _ _ h=>h) (Or.inl ⟨by rfl,?hy12⟩) (by assumption) ?rest12
       case hy12=>(intro wz hSw;go_simp;try (with_reducible rfl))
       try simp only[Act.put,List.getElem_toArray,List.getElem_cons_zero,List.getElem_cons_succ,List.setIfInBounds_toArray,List.set_cons_zero,List.set_cons_succ]
       refine wpAnyH_take (i:=14) (v:=?v13) rfl (by kernel_rfl) (by kernel_rfl) (by kernel_rfl) (fun _ _ _ h=>h) (Or.inl ⟨by rfl,?hy13⟩) (by assumption) ?rest13
       case hy13=>(intro wz hSw;go_simp;try (with_reducible rfl))
       try simp only[Act.put,List.getElem_toArray,List.getElem_cons_zero,List.getElem_cons_succ,List.setIfInBounds_toArray,List.set_cons_zero,List.set_cons_succ]
       refine wpAnyH_ready (rs:= [15]) (by kernel_rfl) (by simp) ?_;refine AllReadyH.cons rfl (fun K hK=>?_) ?_
       ·go_simp;refine hK.out _ _ hT4 (fun hS5=>?_);clear hK K;try simp only[Act.put,List.getElem_toArray,List.getElem_cons_zero,List.getElem_cons_succ,List.setIfInBounds_toArray,List.set_cons_zero,List.set_cons_succ]
        refine wpAnyH_done (by kernel_rfl) ?_ _;go_wp2;go_roundw
        case rel=>exact⟨q+1,_,_,by omega,by go_num,hNew.out⟩
        case measure=>refine qD ?_ ?_<;>simp only[intOf]<;>omega
       exact AllReadyH.nil
      exact AllReadyH.nil
     exact AllReadyH.nil
    refine AllReadyH.cons rfl (fun K hK=>?_) ?_
    ·go_simp;refine hK.out _ _ hT2 (fun hS2=>?_);clear hK K;try simp only[Act.put,List.getElem_toArray,List.getElem_cons_zero,List.getElem_cons_succ,List.setIfInBounds_toArray,List.set_cons_zero,List.set_cons_succ]
     refine wpAnyH_ready (rs:= [4]) (by kernel_rfl) (by simp) ?_;refine AllReadyH.cons rfl (fun K hK=>?_) ?_
     ·go_simp;refine hK.out _ _ hS2 (fun hS3=>?_);clear hK K;try simp only[Act.put,List.getElem_toArray,List.getElem_cons_zero,List.getElem_cons_succ,List.setIfInBounds_toArray,List.set_cons_zero,List.set_cons_succ]
      refine wpAnyH_ready (rs:= [12]) (by kernel_rfl) (by simp) ?_;refine AllReadyH.cons rfl (fun K hK=>?_) ?_
      ·refine ite_take rfl ?_;refine wp_append_run (.tmp 32) (.tmp 39) 34 _ _ _ rfl rfl rfl hrun ?_;refine hK.out _ _ hT3 (fun hS4=>?_);clear hK K;try simp only[Act.put,List.getElem_toArray,List.getElem_cons_zero,List.getElem_cons_succ,List.setIfInBounds_toArray,List.set_cons_zero,List.set_cons_succ]
       refine wpAnyH_take (i:=13) (v:=?v14) rfl (by kernel_rfl) (by kernel_rfl) (by kernel_rfl) (fun _ _ _ h=>h) (Or.inl ⟨by rfl,?hy14⟩) (by assumption) ?rest14
       case hy14=>(intro wz hSw;go_simp;try (with_reducible rfl))
       try simp only[Act.put,List.getElem_toArray,List.getElem_cons_zero,List.getElem_cons_succ,List.setIfInBounds_toArray,List.set_cons_zero,List.set_cons_succ]
       refine wpAnyH_take (i:=14) (v:=?v15) rfl (by kernel_rfl) (by kernel_rfl) (by kernel_rfl) (fun _ _ _ h=>h) (Or.inl ⟨by rfl,?hy15⟩) (by assumption) ?rest15
       case hy15=>(intro wz hSw;go_simp;try (with_reducible rfl))
       try simp only[Act.put,List.getElem_toArray,List.getElem_cons_zero,List.getElem_cons_succ,List.setIfInBounds_toArray,List.set_cons_zero,List.set_cons_succ]
       refine wpAnyH_ready (rs:= [15]) (by kernel_rfl) (by simp) ?_;refine AllReadyH.cons rfl (fun K hK=>?_) ?_
       ·go_simp;refine hK.out _ _ hT4 (fun hS5=>?_);clear hK K;try simp only[Act.put,List.getElem_toArray,List.getElem_cons_zero,List.getElem_cons_succ,List.setIfInBounds_toArray,List.set_cons_zero,List.set_cons_succ]
        refine wpAnyH_done (by kernel_rfl) ?_ _;go_wp2;go_roundw
        case rel=>exact⟨q+1,_,_,by omega,by go_num,hNew.out⟩
        case measure=>refine qD ?_ ?_<;>simp only[intOf]<;>omega
       exact AllReadyH.nil
      exact AllReadyH.nil
     exact AllReadyH.nil
    exact AllReadyH.nil
   exact AllReadyH.nil
  ·have e:q=N:=by omega
   subst e;have hHI:=hide hI;clear hI;go_wp2;go_ret;exact⟨g,vB,pb,rfl,hHI.out⟩
end Go.Proofs.Ytmfpiodlecapiaa
