import Derived.Test.YtmfpiodlecapiaaGreatDoorJ43
set_option maxHeartbeats 16000000
set_option maxRecDepth 100000
namespace Go.Proofs.YtmfpiodlecapiaaGreatDoor
open Go.Conc Go.ConcN Go.RowKit Go.bB Go.Ren Go.eO Go.Deep Go.iw
attribute [local go_sem↓] Go.wp_at_zero Go.wp_at_succ
theorem any_l{ni:Nat->Prop}{Post:(Nat->Prop)->Goroutine->World->Prop}{pe:World}{ks:List Item}{cs:List Frame}{B lb mr id gl cl hr gp gb cb gn cn nw cw:Nat}{aw:Option Addr}{wr:Bool}{S:Oj}{m:Int}{wv:Nat->Int}(ok:S.Ok)(hid:id<65536)(ha:Alpha pe)(hm:pe.cell? ⟨1,0,none⟩=some (.int .i64 m))(hnw:nw<=maxLen)(DC:∀i,i<nw->∃b off,aw=some ⟨b,off,none⟩/\pe.cell? ⟨b,off+i,none⟩=some (.int .i64 (wv i))/\(Lit.int .i64 (wv i)).wf=true){cc:Code}(hc:Hid (cc=dP [1,1,1,1,1,1,1,1,1,1,1,1,0,1,0,0] (Tryz.f4.body.getD .skip)))
  (hend:∀(sS:Nat->Prop) q hd l A i t1 t2 t3 t4 t7 t8 t9 o2 d9 q8 h7 s1 b2 p6 n3 p9 o7 n5 f6 q9 d5 o9 p0 b1 r8 s0 r5 e7 c4 c3 i1 k4 c7 h4 g5 d2 o0 j9 e8 f2 m9 a8 d6 e9 l3 f7 f8 f5 g8 l6 f9 b5 i4 e0 g7 o6 j2 i2 o1 f0 b8 c5 g2 h3 d8 o5 n6 b6 i8 h5 l9 h0 g0 a9 i9 g3 m0 r9 n0 j0 n2 j6 n1 m8 m1 d3 q5 j5 r6 a3 m4 h9 j4 c8 k0 k6 i7 k5 k1 m2 i3 j8 m3 j1 i6 n9 c6 j7 a1 o3 g9 b0 p5 h6 p7 k7 b7 n4 d1 b3 m5 k8 b9 l1 g1 n7 p2 c9 f1 r4 d7 a4 n8 i5 h2 d0 a5 k3 m7 k2 k9 l4 r7 b4 h8 g6 p4 f3 i0 q0 p8 a7 o8 o4 m6 j3 q4 l7 e6 l8 a6 p3 l0 g4 d4 l5 a2,i=nw->AN ni sS pe q B lb mr id gl hr gp gb gn S hd l A->(nw=0\/∃ob,getM l id=some ob)->aj Tryz.prog sS (G ((base 4).at ⟨#[.int .i64 (id:Nat),t1,t2,t3,t4,.slice aw nw cw,.bool wr,t7,t8,t9,o2,d9,q8,h7,.bool false,s1,.pointer (some ⟨gp,0,none⟩),.slice (some ⟨gb,0,none⟩) S.len cb,.slice (some ⟨gl,0,none⟩) S.T cl,b2,.slice (some ⟨gn,0,none⟩) S.N cn,p6,.pointer (some ⟨lb,0,none⟩),n3,.slice (some ⟨hr,0,none⟩) S.T S.T,.int .i64 (i:Nat),p9,o7,n5,f6,q9,d5,o9,p0,b1,r8,s0,r5,e7,c4,c3,i1,k4,c7,h4,g5,d2,o0,j9,e8,f2,m9,a8,d6,e9,l3,f7,f8,f5,g8,l6,f9,b5,i4,e0,g7,o6,j2,i2,o1,f0,b8,c5,g2,h3,d8,o5,n6,b6,i8,h5,l9,h0,g0,a9,i9,g3,m0,r9,n0,j0,n2,j6,n1,m8,m1,d3,q5,j5,r6,a3,m4,h9,j4,c8,k0,k6,i7,k5,k1,m2,i3,j8,m3,j1,i6,n9,c6,j7,a1,o3,g9,b0,p5,h6,p7,k7,b7,n4,d1,b3,m5,k8,b9,l1,g1,n7,p2,c9,f1,r4,d7,a4,n8,i5,h2,d0,a5,k3,m7,k2,k9,l4,r7,b4,h8,g6,p4,f3,i0,q0,p8,a7,o8,o4,m6,j3,q4,l7,e6,l8,a6,p3,l0,g4,d4,l5,a2],[]⟩ ks) cs) q Post):
  ∀(r i:Nat),i+r=nw->∀(Sh:Nat->Prop) (q:World) (hd:Nat->Nat->Bool) (l:List (Nat×Nat)) (A:Nat->OD) (t1 t2 t3 t4 t7 t8 t9 o2 d9 q8 h7 s1 b2 p6 n3 p9 o7 n5 f6 q9 d5 o9 p0 b1 r8 s0 r5 e7 c4 c3 i1 k4 c7 h4 g5 d2 o0 j9 e8 f2 m9 a8 d6 e9 l3 f7 f8 f5 g8 l6 f9 b5 i4 e0 g7 o6 j2 i2 o1 f0 b8 c5 g2 h3 d8 o5 n6 b6 i8 h5 l9 h0 g0 a9 i9 g3 m0 r9 n0 j0 n2 j6 n1 m8 m1 d3 q5 j5 r6 a3 m4 h9 j4 c8 k0 k6 i7 k5 k1 m2 i3 j8 m3 j1 i6 n9 c6 j7 a1 o3 g9 b0 p5 h6 p7 k7 b7 n4 d1 b3 m5 k8 b9 l1 g1 n7 p2 c9 f1 r4 d7 a4 n8 i5 h2 d0 a5 k3 m7 k2 k9 l4 r7 b4 h8 g6 p4 f3 i0 q0 p8 a7 o8 o4 m6 j3 q4 l7 e6 l8 a6 p3 l0 g4 d4 l5 a2:Value),AN ni Sh pe q B lb mr id gl hr gp gb gn S hd l A->(i=0\/∃ob,getM l id=some ob)->
   aj Tryz.prog Sh (G ((base 4).at ⟨#[.int .i64 (id:Nat),t1,t2,t3,t4,.slice aw nw cw,.bool wr,t7,t8,t9,o2,d9,q8,h7,.bool false,s1,.pointer (some ⟨gp,0,none⟩),.slice (some ⟨gb,0,none⟩) S.len cb,.slice (some ⟨gl,0,none⟩) S.T cl,b2,.slice (some ⟨gn,0,none⟩) S.N cn,p6,.pointer (some ⟨lb,0,none⟩),n3,.slice (some ⟨hr,0,none⟩) S.T S.T,.int .i64 (i:Nat),p9,o7,n5,f6,q9,d5,o9,p0,b1,r8,s0,r5,e7,c4,c3,i1,k4,c7,h4,g5,d2,o0,j9,e8,f2,m9,a8,d6,e9,l3,f7,f8,f5,g8,l6,f9,b5,i4,e0,g7,o6,j2,i2,o1,f0,b8,c5,g2,h3,d8,o5,n6,b6,i8,h5,l9,h0,g0,a9,i9,g3,m0,r9,n0,j0,n2,j6,n1,m8,m1,d3,q5,j5,r6,a3,m4,h9,j4,c8,k0,k6,i7,k5,k1,m2,i3,j8,m3,j1,i6,n9,c6,j7,a1,o3,g9,b0,p5,h6,p7,k7,b7,n4,d1,b3,m5,k8,b9,l1,g1,n7,p2,c9,f1,r4,d7,a4,n8,i5,h2,d0,a5,k3,m7,k2,k9,l4,r7,b4,h8,g6,p4,f3,i0,q0,p8,a7,o8,o4,m6,j3,q4,l7,e6,l8,a6,p3,l0,g4,d4,l5,a2],[]⟩ (.code cc:: .inLoop cc:: .inBlock 0::ks)) cs) q Post:=by
 have HE:=hide hend;have HWh:=hide DC;have HNW:=hide hnw
 clear hend DC hnw;have hTp:=ok.Xk;have hTl:=ok.T_le;intro r;induction r with
 |zero=>
  intro i hir Sh q hd l A t1 t2 t3 t4 t7 t8 t9 o2 d9 q8 h7 s1 b2 p6 n3 p9 o7 n5 f6 q9 d5 o9 p0 b1 r8 s0 r5 e7 c4 c3 i1 k4 c7 h4 g5 d2 o0 j9 e8 f2 m9 a8 d6 e9 l3 f7 f8 f5 g8 l6 f9 b5 i4 e0 g7 o6 j2 i2 o1 f0 b8 c5 g2 h3 d8 o5 n6 b6 i8 h5 l9 h0 g0 a9 i9 g3 m0 r9 n0 j0 n2 j6 n1 m8 m1 d3 q5 j5 r6 a3 m4 h9 j4 c8 k0 k6 i7 k5 k1 m2 i3 j8 m3 j1 i6 n9 c6 j7 a1 o3 g9 b0 p5 h6 p7 k7 b7 n4 d1 b3 m5 k8 b9 l1 g1 n7 p2 c9 f1 r4 d7 a4 n8 i5 h2 d0 a5 k3 m7 k2 k9 l4 r7 b4 h8 g6 p4 f3 i0 q0 p8 a7 o8 o4 m6 j3 q4 l7 e6 l8 a6 p3 l0 g4 d4 l5 a2 hA jJ;have hin:i=nw:=by omega
  have q1:¬(i:Int)<(nw:Int):=by omega
  have HIN:=hide hin;have HA:=hide hA
  clear hin hA;refine aj.Xt hc.out ?_;conv=>arg 3;simp only[Tryz.f4,Option.getD_some,dP]
  refine aj.seq (aj.seq ?_);refine aj.aX fun kk hkk=>?_;replace hkk:=hide hkk;refine aj.bC ak (by kernel_rfl) fun τ d=>?_;go_wp2
  first|(refine Or.inl ⟨rfl,?_⟩;dsimp only;refine aj.re ?_ _ _)|refine aj.re ?_ _ _
  rw[hkk.out];clear hkk kk τ d;refine aj.no rfl ?_;refine aj.exit rfl ?_;exact HE.out Sh q hd l A i _ _ _ _ _ _ _ _ _ _ _ _ _ _ _ _ _ _ _ _ _ _ _ _ _ _ _ _ _ _ _ _ _ _ _ _ _ _ _ _ _ _ _ _ _ _ _ _ _ _ _ _ _ _ _ _ _ _ _ _ _ _ _ _ _ _ _ _ _ _ _ _ _ _ _ _ _ _ _ _ _ _ _ _ _ _ _ _ _ _ _ _ _ _ _ _ _ _ _ _ _ _ _ _ _ _ _ _ _ _ _ _ _ _ _ _ _ _ _ _ _ _ _ _ _ _ _ _ _ _ _ _ _ _ _ _ _ _ _ _ _ _ _ _ _ _ _ _ _ _ _ _ _ _ _ _ _ _ _ _ _ _ _ _ _ _ _ HIN.out HA.out (jJ.imp (fun h=>by have:=HIN.out;omega) (fun h=>h))
 |succ r ih=>
  intro i hir Sh q hd l A t1 t2 t3 t4 t7 t8 t9 o2 d9 q8 h7 s1 b2 p6 n3 p9 o7 n5 f6 q9 d5 o9 p0 b1 r8 s0 r5 e7 c4 c3 i1 k4 c7 h4 g5 d2 o0 j9 e8 f2 m9 a8 d6 e9 l3 f7 f8 f5 g8 l6 f9 b5 i4 e0 g7 o6 j2 i2 o1 f0 b8 c5 g2 h3 d8 o5 n6 b6 i8 h5 l9 h0 g0 a9 i9 g3 m0 r9 n0 j0 n2 j6 n1 m8 m1 d3 q5 j5 r6 a3 m4 h9 j4 c8 k0 k6 i7 k5 k1 m2 i3 j8 m3 j1 i6 n9 c6 j7 a1 o3 g9 b0 p5 h6 p7 k7 b7 n4 d1 b3 m5 k8 b9 l1 g1 n7 p2 c9 f1 r4 d7 a4 n8 i5 h2 d0 a5 k3 m7 k2 k9 l4 r7 b4 h8 g6 p4 f3 i0 q0 p8 a7 o8 o4 m6 j3 q4 l7 e6 l8 a6 p3 l0 g4 d4 l5 a2 hA _;have hi:i<nw:=by omega
  obtain⟨bw,ow,haw,hwc,hwf⟩:=HWh.out i hi;have hwq:q.cell? ⟨bw,ow+i,none⟩=some (.int .i64 (wv i)):=hA.num hwc;obtain⟨k,hke⟩:∃k,k=cO (wv i) S.T:=⟨_,rfl⟩;have hkT:k<S.T:=by rw[hke];exact fA _ hTp
  obtain⟨z,n,hz,hn,hkz⟩:=S.split hkT;have hhc:q.cell? ⟨hr,k,none⟩=some (.bool (hd id k)):=hA.hb.cell _ _ (pX hkT);have q1:(i:Int)<(nw:Int):=by omega
  have q2:(0:Int)<=(i:Int):=by omega
  have q3:(0:Int)<(S.T:Int):=by omega
  have q6:(k:Int)<(S.T:Int):=by omega
  have q7:(0:Int)<=(k:Int):=by omega
  have HA:=hide hA;have HKE:=hide hke;have HIH:=hide ih;have HKZ:=hide hkz
  clear hA hke ih hkz;have cont:∀(sS:Nat->Prop) q2 hd2 l2 A2 t1 t2 t3 t4 t7 t8 t9 o2 d9 q8 h7 s1 b2 p6 n3 p9 o7 n5 f6 q9 d5 o9 p0 b1 r8 s0 r5 e7 c4 c3 i1 k4 c7 h4 g5 d2 o0 j9 e8 f2 m9 a8 d6 e9 l3 f7 f8 f5 g8 l6 f9 b5 i4 e0 g7 o6 j2 i2 o1 f0 b8 c5 g2 h3 d8 o5 n6 b6 i8 h5 l9 h0 g0 a9 i9 g3 m0 r9 n0 j0 n2 j6 n1 m8 m1 d3 q5 j5 r6 a3 m4 h9 j4 c8 k0 k6 i7 k5 k1 m2 i3 j8 m3 j1 i6 n9 c6 j7 a1 o3 g9 b0 p5 h6 p7 k7 b7 n4 d1 b3 m5 k8 b9 l1 g1 n7 p2 c9 f1 r4 d7 a4 n8 i5 h2 d0 a5 k3 m7 k2 k9 l4 r7 b4 h8 g6 p4 f3 i0 q0 p8 a7 o8 o4 m6 j3 q4 l7 e6 l8 a6 p3 l0 g4 d4 l5 a2,AN ni sS pe q2 B lb mr id gl hr gp gb gn S hd2 l2 A2->(∃ob,getM l2 id=some ob)->aj Tryz.prog sS (G ((base 4).at ⟨#[.int .i64 (id:Nat),t1,t2,t3,t4,.slice aw nw cw,.bool wr,t7,t8,t9,o2,d9,q8,h7,.bool false,s1,.pointer (some ⟨gp,0,none⟩),.slice (some ⟨gb,0,none⟩) S.len cb,.slice (some ⟨gl,0,none⟩) S.T cl,b2,.slice (some ⟨gn,0,none⟩) S.N cn,p6,.pointer (some ⟨lb,0,none⟩),n3,.slice (some ⟨hr,0,none⟩) S.T S.T,.int .i64 ((i+1:Nat):Int),p9,o7,n5,f6,q9,d5,o9,p0,b1,r8,s0,r5,e7,c4,c3,i1,k4,c7,h4,g5,d2,o0,j9,e8,f2,m9,a8,d6,e9,l3,f7,f8,f5,g8,l6,f9,b5,i4,e0,g7,o6,j2,i2,o1,f0,b8,c5,g2,h3,d8,o5,n6,b6,i8,h5,l9,h0,g0,a9,i9,g3,m0,r9,n0,j0,n2,j6,n1,m8,m1,d3,q5,j5,r6,a3,m4,h9,j4,c8,k0,k6,i7,k5,k1,m2,i3,j8,m3,j1,i6,n9,c6,j7,a1,o3,g9,b0,p5,h6,p7,k7,b7,n4,d1,b3,m5,k8,b9,l1,g1,n7,p2,c9,f1,r4,d7,a4,n8,i5,h2,d0,a5,k3,m7,k2,k9,l4,r7,b4,h8,g6,p4,f3,i0,q0,p8,a7,o8,o4,m6,j3,q4,l7,e6,l8,a6,p3,l0,g4,d4,l5,a2],[]⟩ (.inLoop cc:: .inBlock 0::ks)) cs) q2 Post:=by
   intro sS q2 hd2 l2 A2 t1 t2 t3 t4 t7 t8 t9 o2 d9 q8 h7 s1 b2 p6 n3 p9 o7 n5 f6 q9 d5 o9 p0 b1 r8 s0 r5 e7 c4 c3 i1 k4 c7 h4 g5 d2 o0 j9 e8 f2 m9 a8 d6 e9 l3 f7 f8 f5 g8 l6 f9 b5 i4 e0 g7 o6 j2 i2 o1 f0 b8 c5 g2 h3 d8 o5 n6 b6 i8 h5 l9 h0 g0 a9 i9 g3 m0 r9 n0 j0 n2 j6 n1 m8 m1 d3 q5 j5 r6 a3 m4 h9 j4 c8 k0 k6 i7 k5 k1 m2 i3 j8 m3 j1 i6 n9 c6 j7 a1 o3 g9 b0 p5 h6 p7 k7 b7 n4 d1 b3 m5 k8 b9 l1 g1 n7 p2 c9 f1 r4 d7 a4 n8 i5 h2 d0 a5 k3 m7 k2 k9 l4 r7 b4 h8 g6 p4 f3 i0 q0 p8 a7 o8 o4 m6 j3 q4 l7 e6 l8 a6 p3 l0 g4 d4 l5 a2 hA2 Ju;refine aj.inLoop ?_;exact HIH.out (i+1) (by omega) sS q2 hd2 l2 A2 _ _ _ _ _ _ _ _ _ _ _ _ _ _ _ _ _ _ _ _ _ _ _ _ _ _ _ _ _ _ _ _ _ _ _ _ _ _ _ _ _ _ _ _ _ _ _ _ _ _ _ _ _ _ _ _ _ _ _ _ _ _ _ _ _ _ _ _ _ _ _ _ _ _ _ _ _ _ _ _ _ _ _ _ _ _ _ _ _ _ _ _ _ _ _ _ _ _ _ _ _ _ _ _ _ _ _ _ _ _ _ _ _ _ _ _ _ _ _ _ _ _ _ _ _ _ _ _ _ _ _ _ _ _ _ _ _ _ _ _ _ _ _ _ _ _ _ _ _ _ _ _ _ _ _ _ _ _ _ _ _ _ _ _ _ _ _ hA2 (.inr Ju)
  have HCO:=hide cont;clear cont HIH;subst haw;refine aj.Xt hc.out ?_;conv=>arg 3;simp only[Tryz.f4,Option.getD_some,dP]
  refine aj.seq (aj.seq ?_);refine aj.aX fun kk hkk=>?_;replace hkk:=hide hkk;refine aj.bC ak (by kernel_rfl) fun τ d=>?_;go_wp2
  first|(refine Or.inl ⟨rfl,?_⟩;dsimp only;refine aj.re ?_ _ _)|refine aj.re ?_ _ _
  rw[hkk.out];clear hkk kk τ d;refine aj.yes (by first|rfl|(simp[Act.eval];done)|(simp[Act.eval];omega)) (aj.skip ?_);refine aj.seq (aj.block (aj.seq ?_));refine aj.aX fun kk hkk=>?_;replace hkk:=hide hkk;refine aj.reg (todo:= [0,1,2,3,4,5,6,7]) rfl ?_;refine aj.pv ak fun τ d K hK=>?_;go_simp;refine hK _ ?_;clear hK;try walk_nrm
  iterate 2 (refine aj.pv ak fun τ d K hK=>?_;go_simp;refine hK _ ?_;clear hK;try walk_nrm)
  refine aj.o ak (by kernel_rfl) rfl rfl (fun τ d K hK=>?_);have a0:(q.re τ d).cell? ⟨bw,ow+i,none⟩=some (.int .i64 (wv i)):=hwq;go_simp;refine hK _ _ ?_;clear hK a0;refine aj.re ?_ _ _;try walk_nrm
  iterate 2 (refine aj.pv ak fun τ d K hK=>?_;go_simp;refine hK _ ?_;clear hK;try walk_nrm)
  refine aj.jk ak (by kernel_rfl) rfl rfl rfl Tryz.func13 rfl rfl (xs:=#[.int .i64 (wv i),.int .i64 (S.T:Int)]) (by simp[Act.eval]) (fun τ d=>?_);refine(nW (wv i) S.T (S.T:Int) rfl hwf (by omega) (by omega) (q.re τ d)).mono ?_;rintro e w' ⟨rfl,rfl⟩;refine⟨_,rfl,aj.re ?_ τ d⟩;rw[<-HKE.out];try walk_nrm
  refine aj.pv ak fun τ d K hK=>?_;go_simp;refine hK _ ?_;clear hK;try walk_nrm
  refine aj.aR ?_;rw[hkk.out];clear hkk kk;refine aj.seq ?_;refine aj.aX fun kk hkk=>?_;replace hkk:=hide hkk;refine aj.bC ak (by kernel_rfl) fun τ d=>?_;go_wp2
  first|(refine Or.inl ⟨rfl,?_⟩;dsimp only;refine aj.re ?_ _ _)|refine aj.re ?_ _ _
  rw[hkk.out];clear hkk kk τ d;refine aj.seq (aj.seq ?_);refine aj.aX fun kk hkk=>?_;replace hkk:=hide hkk;refine aj.bC ak (by kernel_rfl) fun τ d=>?_;have a0:(q.re τ d).cell? ⟨hr,k,none⟩=some (.bool (hd id k)):=hhc;go_wp2
  first|(refine Or.inl ⟨rfl,?_⟩;dsimp only;refine aj.re ?_ _ _)|refine aj.re ?_ _ _
  rw[hkk.out];clear hkk kk a0 τ d hhc;cases hbk:hd id k with
  |true=>
   refine aj.yes rfl ?_;refine aj.aX fun kk hkk=>?_;replace hkk:=hide hkk;refine aj.bC ak (by kernel_rfl) fun τ d=>?_;go_wp2
   first|(refine Or.inl ⟨rfl,?_⟩;dsimp only;refine aj.re ?_ _ _)|refine aj.re ?_ _ _
   rw[hkk.out];clear hkk kk τ d;exact L6 ok hid ha hm (v:=0) HNW.out hi hz hn HKZ.out hkT (by rw[hbk];rfl) HA.out HCO.out _ _ _ _ _ _ _ _ _ _ _ _ _ _ _ _ _ _ _ _ _ _ _ _ _ _ _ _ _ _ _ _ _ _ _ _ _ _ _ _ _ _ _ _ _ _ _ _ _ _ _ _ _ _ _ _ _ _ _ _ _ _ _ _ _ _ _ _ _ _ _ _ _ _ _ _ _ _ _ _ _ _ _ _ _ _ _ _ _ _ _ _ _ _ _ _ _ _ _ _ _ _ _ _ _ _ _ _ _ _ _ _ _ _ _ _ _ _ _ _ _ _ _ _ _ _ _ _ _ _ _ _ _ _ _ _ _ _ _ _ _ _ _ _ _ _ _ _ _ _ _ _ _ _ _ _ _ _ _ _ _ _ _ _ _
  |false=>
   refine aj.no rfl (aj.skip ?_);exact L6 ok hid ha hm (v:=1) HNW.out hi hz hn HKZ.out hkT (by rw[hbk];rfl) HA.out HCO.out _ _ _ _ _ _ _ _ _ _ _ _ _ _ _ _ _ _ _ _ _ _ _ _ _ _ _ _ _ _ _ _ _ _ _ _ _ _ _ _ _ _ _ _ _ _ _ _ _ _ _ _ _ _ _ _ _ _ _ _ _ _ _ _ _ _ _ _ _ _ _ _ _ _ _ _ _ _ _ _ _ _ _ _ _ _ _ _ _ _ _ _ _ _ _ _ _ _ _ _ _ _ _ _ _ _ _ _ _ _ _ _ _ _ _ _ _ _ _ _ _ _ _ _ _ _ _ _ _ _ _ _ _ _ _ _ _ _ _ _ _ _ _ _ _ _ _ _ _ _ _ _ _ _ _ _ _ _ _ _ _ _ _ _ _
theorem FP{P:Program}{t:TypeId}{z:Value}{n b:Nat}(h:(P.info? t).map (fun i=>(i.zero,i.size,i.bytes))=some (some z,n,b)):∃i,P.info? t=some i/\i.zero=some z/\i.size=n/\i.bytes=b:=by
 cases hi:P.info? t with
 |none=>rw[hi]at h;cases h
 |some i=>
  rw[hi]at h;simp only[Option.map_some,Option.some.injEq,Prod.mk.injEq]at h;exact⟨i,rfl,h.1,h.2.1,h.2.2⟩
end Go.Proofs.YtmfpiodlecapiaaGreatDoor
namespace Go.eO
open Go.Ren Go.bB Go.Conc Go.RowKit
variable {P:Program} {Sh:Nat->Prop} {Post:(Nat->Prop)->Goroutine->World->Prop} {b:Frame} {a:Act} {k:List Item} {cs:List Frame} {p:World} {ops:Array Oper}
theorem aj.make{i:Nat}{rest:List Nat}{o:Oper}(ho:ops[i]? =some o)(hgd:o.guard=none)(hk:b.kind≠.early)(hT:Tm P (execOp a.eval o)){l c:Operand}{t e:TypeId}(hop:o.op= .makeSlice t l c)
  {n:Nat}{ti:TypeInfo}{z:Value}(ht:P.underlying t=some (.slice e))(hi:P.info? e=some ti)(hz:ti.zero=some z)(hsize:ti.size=1)(hzs:z.cells=#[z])(hl:a.eval l= .int .i64 (n:Int))(hc:a.eval c= .int .i64 (n:Int))(hbytes:ti.bytes*n<=281474976710656)(h63:n<=9223372036854775807)
  (hn:∀p',Go.Proofs.YtmfpiodlecapiaaGreatDoor.dZ p p'->p'.heap.size=p.heap.size+1->Go.Proofs.YtmfpiodlecapiaaGreatDoor.aB p' p.heap.size e (List.replicate n z)->aj P Sh (G (b.at (a.put o.dst (.slice (some ⟨p.heap.size,0,none⟩) n n)) (.inRegion ops rest::k)) cs) p' Post):
  aj P Sh (G (b.at a (.inRegion ops (i::rest)::k)) cs) p Post:=by
 refine aj.op hT ho (by simp[Region.wanted,hgd]) hk (fun τ d K hK=>?_);have hb':(ti.bytes:Int)*(n:Int)<=281474976710656:=by
  have h:((ti.bytes*n:Nat):Int)<=281474976710656:=by omega
  rwa [Int.natCast_mul]at h
 have hr:=run_make (P:=P) (p.re τ d) t e ti z ht hi hz .i64 .i64 n n (by omega) (Int.le_refl _) hb' (by omega);simp only[Int.toNat_natCast,hsize,Nat.mul_one,hzs]at hr;have hrun:(execOp a.eval o).run P (p.re τ d)= .ok (.value (.slice (some ⟨p.heap.size,0,none⟩) n n)) ((p.re τ d).alloc (.cells (madeCells #[z] n) e)):=by
  unfold execOp;simp[hop,hl,hc,hr,Result.andThen];rfl
 rw[hrun];refine hK _ _ (hn _ (((Go.Proofs.YtmfpiodlecapiaaGreatDoor.dZ.refl p).re τ d).alloc _) (by rw[Go.Ren.size_alloc];rfl) ?_);exact Go.Proofs.YtmfpiodlecapiaaGreatDoor.gF (p.re τ d) z n e
end Go.eO
namespace Go.Proofs.YtmfpiodlecapiaaGreatDoor
open Go.Conc Go.ConcN Go.RowKit Go.bB Go.Ren Go.eO Go.Deep Go.iw
attribute [local go_sem↓] Go.wp_at_zero Go.wp_at_succ
theorem Tryz.infoBool:(Tryz.prog.info? 4).map (fun i=>(i.zero,i.size,i.bytes))=some (some (.bool false),1,1):=by kernel_rfl
def Fb(_:FuncId):Bool:=false
def wG(f:FuncId):Bool:= [17].contains f
theorem ZA:SY Tryz.prog Fb wG Tryz.f17=true:=by kernel_rfl
theorem LY:bK Tryz.prog Fb wG:=by
 refine⟨fun f hf=>(by cases hf),fun f hf=>(by cases hf),fun f hf fn hfn=>?_,fun f hf=>?_,by kernel_rfl,nO⟩
 ·simp only[wG,List.contains_eq_mem,List.mem_cons,List.not_mem_nil,or_false,decide_eq_true_eq]at hf;subst hf;rw[Tryz.func17]at hfn;obtain rfl:=Option.some.inj hfn;exact ZA
 ·simp only[wG,List.contains_eq_mem,List.mem_cons,List.not_mem_nil,or_false,decide_eq_true_eq]at hf;subst hf;exact⟨_,Tryz.func17⟩
def sK(x y z:Int)(s:ByteArray):Oj:=⟨min s.size 600,1+cO x 16,1+cO y 20,cO z 21,(bytesOf s).take (min s.size 600)⟩
theorem TY(x y z:Int)(s:ByteArray)(hm:manyN (sK x y z s).len (sK x y z s).sz (sK x y z s).ms=false):(sK x y z s).Ok:=by
 have ha:=fA x (n:=16) (by omega);have hb:=fA y (n:=20) (by omega);have hc:=fA z (n:=21) (by omega);have h1:1<=(sK x y z s).ms:=Nat.le_add_right _ _;rw[ou h1]at hm;refine⟨?_,?_,?_,h1,?_,?_,by simpa using hm,?_,fun x hx=>yV s x (List.mem_of_mem_take hx)⟩
 ·show min s.size 600<=2000;omega
 ·show 1<=1+cO x 16;omega
 ·show 1+cO x 16<=16;omega
 ·show 1+cO y 20<=20;omega
 ·show cO z 21<=20;omega
 ·show((bytesOf s).take (min s.size 600)).length=min s.size 600;rw[List.length_take,bytesOf_length];omega
theorem TW{ni:Nat->Prop}{Post:(Nat->Prop)->Goroutine->World->Prop}{pe:World}{cs:List Frame}{nw cw:Nat}{aw:Option Addr}{wr:Bool}{x0 x y zz:Int}{st:ByteArray}{S:Oj}{id:Nat}(w0:(Lit.int .i64 x0).wf=true)(wx:(Lit.int .i64 x).wf=true)(wy:(Lit.int .i64 y).wf=true)(wz:(Lit.int .i64 zz).wf=true)(hst:st.size<=maxLen)(hS:Hid (S=sK x y zz st))(hid:Hid (id=cO x0 65536))
  (hend:∀(Sh:Nat->Prop) q gp gb cb t1 t2 t3 t4 t7 t8 t9 o2 d9 q8 h7 s3 b2 s4 p6 s5 n3 s2 s6 p9 o7 n5 f6 q9 d5 o9 p0 b1 r8 s0 r5 e7 c4 c3 i1 k4 c7 h4 g5 d2 o0 j9 e8 f2 m9 a8 d6 e9 l3 f7 f8 f5 g8 l6 f9 b5 i4 e0 g7 o6 j2 i2 o1 f0 b8 c5 g2 h3 d8 o5 n6 b6 i8 h5 l9 h0 g0 a9 i9 g3 m0 r9 n0 j0 n2 j6 n1 m8 m1 d3 q5 j5 r6 a3 m4 h9 j4 c8 k0 k6 i7 k5 k1 m2 i3 j8 m3 j1 i6 n9 c6 j7 a1 o3 g9 b0 p5 h6 p7 k7 b7 n4 d1 b3 m5 k8 b9 l1 g1 n7 p2 c9 f1 r4 d7 a4 n8 i5 h2 d0 a5 k3 m7 k2 k9 l4 r7 b4 h8 g6 p4 f3 i0 q0 p8 a7 o8 o4 m6 j3 q4 l7 e6 l8 a6 p3 l0 g4 d4 l5 a2,bR ni Sh pe q->pe.heap.size<=gp->aB q gp 35 [.int .i64 (S.sz:Nat),.int .i64 (S.ms:Nat),.int .i64 (S.V:Nat)]->kr q (some ⟨gb,0,none⟩) S.len S.obj->aj Tryz.prog Sh (G ((base 4).at ⟨#[.int .i64 (id:Nat),t1,t2,t3,t4,.slice aw nw cw,.bool wr,t7,t8,t9,o2,d9,q8,h7,.bool false,.bool true,.pointer (some ⟨gp,0,none⟩),.slice (some ⟨gb,0,none⟩) S.len cb,s3,b2,s4,p6,s5,n3,s2,s6,p9,o7,n5,f6,q9,d5,o9,p0,b1,r8,s0,r5,e7,c4,c3,i1,k4,c7,h4,g5,d2,o0,j9,e8,f2,m9,a8,d6,e9,l3,f7,f8,f5,g8,l6,f9,b5,i4,e0,g7,o6,j2,i2,o1,f0,b8,c5,g2,h3,d8,o5,n6,b6,i8,h5,l9,h0,g0,a9,i9,g3,m0,r9,n0,j0,n2,j6,n1,m8,m1,d3,q5,j5,r6,a3,m4,h9,j4,c8,k0,k6,i7,k5,k1,m2,i3,j8,m3,j1,i6,n9,c6,j7,a1,o3,g9,b0,p5,h6,p7,k7,b7,n4,d1,b3,m5,k8,b9,l1,g1,n7,p2,c9,f1,r4,d7,a4,n8,i5,h2,d0,a5,k3,m7,k2,k9,l4,r7,b4,h8,g6,p4,f3,i0,q0,p8,a7,o8,o4,m6,j3,q4,l7,e6,l8,a6,p3,l0,g4,d4,l5,a2],[]⟩ [.code (dP [1,1,1,1,1] (Tryz.f4.body.getD .skip))]) cs) q Post):
  aj Tryz.prog ni (G ((base 4).at ⟨#[.int .i64 x0,.string st,.int .i64 x,.int .i64 y,.int .i64 zz,.slice aw nw cw,.bool wr,undef,undef,undef,undef,undef,undef,undef,undef,undef,undef,undef,undef,undef,undef,undef,undef,undef,undef,undef,undef,undef,undef,undef,undef,undef,undef,undef,undef,undef,undef,undef,undef,undef,undef,undef,undef,undef,undef,undef,undef,undef,undef,undef,undef,undef,undef,undef,undef,undef,undef,undef,undef,undef,undef,undef,undef,undef,undef,undef,undef,undef,undef,undef,undef,undef,undef,undef,undef,undef,undef,undef,undef,undef,undef,undef,undef,undef,undef,undef,undef,undef,undef,undef,undef,undef,undef,undef,undef,undef,undef,undef,undef,undef,undef,undef,undef,undef,undef,undef,undef,undef,undef,undef,undef,undef,undef,undef,undef,undef,undef,undef,undef,undef,undef,undef,undef,undef,undef,undef,undef,undef,undef,undef,undef,undef,undef,undef,undef,undef,undef,undef,undef,undef,undef,undef,undef,undef,undef,undef,undef,undef,undef,undef,undef,undef,undef,undef,undef,undef,undef,undef,undef,undef,undef,undef,undef,undef,undef,undef,undef,undef,undef,undef,undef,undef,undef,undef,undef,undef,undef,undef],[]⟩ [.code (Tryz.f4.body.getD .skip)]) cs) pe Post:=by
 have HE:=hide hend;clear hend;have FT:=hide (fun w=>Tc x y zz (hide wx) (hide wy) (hide wz) w);have e1:S.sz=1+cO x 16:=by rw[hS.out];rfl
 have e2:S.ms=1+cO y 20:=by rw[hS.out];rfl
 have e3:S.V=cO zz 21:=by rw[hS.out];rfl
 have e4:S.len=min st.size 600:=by rw[hS.out];rfl
 have e5:(bytesOf st).take S.len=S.obj:=by rw[hS.out];rfl
 rw[<-e1,<-e2,<-e3]at FT;have HE4:=hide e4;have HE5:=hide e5
 clear e1 e2 e3 e4 e5;conv=>arg 3;simp only[Tryz.f4,Option.getD_some]
 refine aj.seq ?_;refine aj.aX fun kk hkk=>?_;replace hkk:=hide hkk;refine aj.bC ak (by kernel_rfl) fun τ d=>?_;go_wp2
 first|(refine Or.inl ⟨rfl,?_⟩;dsimp only;refine aj.re ?_ _ _)|refine aj.re ?_ _ _
 rw[hkk.out];clear hkk kk τ d;refine aj.seq (aj.aX fun kk hkk=>?_);replace hkk:=hide hkk;refine aj.reg (todo:= [0,1]) rfl ?_;refine aj.dM rfl rfl (by decide) rfl Tryz.func10 rfl rfl (T':=#[undef,undef,undef,undef,undef,undef,undef,undef,undef,undef,undef,undef,undef,undef,undef,undef,undef,undef,undef,undef,undef,undef,undef,undef,undef,undef,undef,undef,undef,undef,undef,undef,undef,undef,undef,undef,undef,undef,undef,undef,undef,undef,undef]) (by simp only[List.map_toArray,List.map_nil];rfl) ?_;refine FJ (o:=?oo1) ?hoo1 (fun Sh p1 hA1=>?hend1)
 case hoo1=>rfl
 case hend1=>
 try walk_nrm
 refine aj.pv ak fun τ d K hK=>?_;go_simp;refine hK _ ?_;clear hK;try walk_nrm
 refine aj.aR ?_;rw[hkk.out];clear hkk kk;refine aj.seq (aj.aX fun kk hkk=>?_);replace hkk:=hide hkk;refine aj.reg (todo:= [0,1,2,3,4,5]) rfl ?_;refine aj.pv ak fun τ d K hK=>?_;go_simp;refine hK _ ?_;clear hK;try walk_nrm
 iterate 2 (refine aj.pv ak fun τ d K hK=>?_;go_simp;refine hK _ ?_;clear hK;try walk_nrm)
 refine aj.jk ak (by kernel_rfl) rfl rfl rfl Tryz.func11 rfl rfl (xs:=#[.int .i64 x,.int .i64 y,.int .i64 zz]) (by simp[Act.eval]) (fun τ d=>?_);refine(FT.out _).mono ?_;rintro _ w1 ⟨rfl,hb1⟩;refine⟨_,rfl,?_⟩;have hg1:dZ p1 w1:=dZ.below hb1;clear hb1 τ d;try walk_nrm
 refine aj.o ak (by kernel_rfl) rfl rfl (fun τ d K hK=>?_);go_simp;refine hK _ _ ?_;clear hK;try walk_nrm
 rw[show(w1.re τ d).heap.size=w1.heap.size from rfl];obtain⟨gp,hgp⟩:∃gp,gp=w1.heap.size:=⟨_,rfl⟩;rw[<-hgp];have hgpq:p1.heap.size<=gp:=by rw[hgp];exact hg1.size
 refine aj.world (fun q2=>dZ p1 q2/\aB q2 gp 35 [.int .i64 0,.int .i64 0,.int .i64 0]) ⟨((hg1.re τ d).alloc _),by rw[hgp];exact gy (w1.re τ d) _ _⟩ fun q2 hq2=>?_;obtain⟨hg2,r0⟩:=hq2;clear hg1 hgp τ d w1;refine aj.o ak (by kernel_rfl) rfl rfl (fun τ d K hK=>?_);have c0:(q2.re τ d).cell? ⟨gp,0,none⟩=some (.int .i64 0):=r0.cell 0 _ rfl;have z0:(q2.re τ d).frozen? ⟨gp,0,none⟩=false:=r0.frozen 0;have r1:=aB.set (w:=q2.re τ d) r0 0 (.int .i64 (S.sz:Int));have c1:=r1.cell 1 _ rfl;have z1:=r1.frozen 1;have r2:=r1.set 1 (.int .i64 (S.ms:Int));have c2:=r2.cell 2 _ rfl;have z2:=r2.frozen 2;have r3:=hide (r2.set 2 (.int .i64 (S.V:Int)));clear r1 r2;go_simp;refine hK _ _ ?_;clear hK c0 z0 c1 z1 c2 z2;try walk_nrm
 have hlt:gp<q2.heap.size:=r0.lt;refine aj.world (fun q1=>q2.heap.size<=q1.heap.size/\(∀b,b<q2.heap.size->b≠gp->q1.heap[b]? =q2.heap[b]?)/\q1.os=q2.os/\q1.output=q2.output/\aB q1 gp 35 [.int .i64 (S.sz:Int),.int .i64 (S.ms:Int),.int .i64 (S.V:Int)]) ?_ fun q1 hq1=>?_
 ·refine⟨?_,fun b hb hne=>?_,rfl,rfl,r3.out⟩
  ·simp[World.setCell,World.re]
  ·simp[World.setCell,World.re,Array.getElem?_modify,Ne.symm hne]
 have hg1:dZ p1 q1:=⟨Nat.le_trans hg2.size hq1.1,fun b hb=>(hq1.2.1 b (Nat.lt_of_lt_of_le hb hg2.size) (by omega)).trans (hg2.row b hb),hq1.2.2.1.trans hg2.os,hq1.2.2.2.1.trans hg2.output⟩;have hrow:=hq1.2.2.2.2;clear hq1 r3 hlt hg2 r0 q2 τ d;refine aj.aR ?_;rw[hkk.out];clear hkk kk;refine aj.seq (aj.aX fun kk hkk=>?_);replace hkk:=hide hkk;refine aj.reg (todo:= [0,1,2]) rfl ?_;refine aj.pv ak fun τ d K hK=>?_;go_simp;refine hK _ ?_;clear hK;try walk_nrm
 refine aj.jk ak (by kernel_rfl) rfl rfl rfl Tryz.func12 rfl rfl (xs:=#[.string st,.int .i64 600]) (by simp[Act.eval]) (fun τ d=>?_);have hsh:=IQ st 600 S.len (by omega) hst HE4.out (q1.re τ d);rw[HE5.out]at hsh;refine hsh.mono ?_;rintro e w' ⟨cb,rfl,_,_,jJ,hbw⟩;refine⟨_,rfl,?_⟩;rw[show(q1.re τ d).heap.size=q1.heap.size from rfl]at jJ⊢;have hg3:dZ q1 w':=dZ.below hbw;clear hsh hbw τ d;try walk_nrm
 refine aj.pv ak fun τ d K hK=>?_;go_simp;refine hK _ ?_;clear hK;try walk_nrm
 refine aj.aR ?_;rw[hkk.out];clear hkk kk;refine aj.seq (aj.aX fun kk hkk=>?_);replace hkk:=hide hkk;refine aj.reg (todo:= [0,1,2]) rfl ?_;refine aj.pv ak fun τ d K hK=>?_;go_simp;refine hK _ ?_;clear hK;try walk_nrm
 refine aj.jk ak (by kernel_rfl) rfl rfl rfl Tryz.func13 rfl rfl (xs:=#[.int .i64 x0,.int .i64 65536]) (by simp[Act.eval]) (fun τ d=>?_);refine(nW x0 65536 65536 rfl w0 (by omega) (by omega) (w'.re τ d)).mono ?_;rintro e w2 ⟨rfl,rfl⟩;refine⟨_,rfl,aj.re ?_ τ d⟩;rw[<-hid.out];try walk_nrm
 refine aj.pv ak fun τ d K hK=>?_;go_simp;refine hK _ ?_;clear hK;try walk_nrm
 refine aj.aR ?_;rw[hkk.out];clear hkk kk;have hgg:=hg1.trans hg3;exact HE.out Sh w' gp q1.heap.size cb _ _ _ _ _ _ _ _ _ _ _ _ _ _ _ _ _ _ _ _ _ _ _ _ _ _ _ _ _ _ _ _ _ _ _ _ _ _ _ _ _ _ _ _ _ _ _ _ _ _ _ _ _ _ _ _ _ _ _ _ _ _ _ _ _ _ _ _ _ _ _ _ _ _ _ _ _ _ _ _ _ _ _ _ _ _ _ _ _ _ _ _ _ _ _ _ _ _ _ _ _ _ _ _ _ _ _ _ _ _ _ _ _ _ _ _ _ _ _ _ _ _ _ _ _ _ _ _ _ _ _ _ _ _ _ _ _ _ _ _ _ _ _ _ _ _ _ _ _ _ _ _ _ _ _ _ _ _ _ _ _ _ _ _ _ _ _ _ _ _ _ (hA1.trans (bR.iG hgg)) (Nat.le_trans hA1.grown hgpq) (hrow.of_block (hg3.row _ hrow.lt)) jJ
end Go.Proofs.YtmfpiodlecapiaaGreatDoor
