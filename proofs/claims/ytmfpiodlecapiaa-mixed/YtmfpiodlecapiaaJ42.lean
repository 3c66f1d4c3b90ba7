import Derived.Test.YtmfpiodlecapiaaJ41
namespace Go.Proofs.Ytmfpiodlecapiaa
open Go.Conc Go.ConcN Go.RowKit Go.Frag Go.Ren Go.Poi Go.Deep Go.Grp
attribute [local go_sem↓] Go.wp_at_zero Go.wp_at_succ
structure M3(Sh0 Sh:Nat->Prop)(pe q:World)(B m lb mr ga gp gh:Nat)(S:Nat->Oj)(gl cp hr:Nat->Nat)(hd:Nat->Nat->Bool)(l:List (Nat×Nat))(A:Nat->OD):Prop where
 mb:MB q B m S ga gp gl cp
 hb:HB q B m S gh hr hd
 ls:LSt q B lb mr (List.range m) S hd l A
 af:AfterT Sh0 Sh pe q
 bq:B<=q.heap.size
 pm:pe.heap.size<=mr
 mB:mr<B
 hn:∀i,i<m->pe.heap.size<=hr i
theorem M3.heard{Sh0 Sh:Nat->Prop}{pe q q1 q':World}{B m lb mr ga gp gh o k:Nat}{S:Nat->Oj}{gl cp hr:Nat->Nat}{hd:Nat->Nat->Bool}{l l':List (Nat×Nat)}{A A':Nat->OD}(h:M3 Sh0 Sh pe q B m lb mr ga gp gh S gl cp hr hd l A)(hg:Grw q q1)(ho:o<m)
  (hL:LSt q' B lb mr (List.range m) S (upd2 hd o k) l' A')(hlow:∀b,b<B->b≠mr->q'.heap[b]? =q1.heap[b]?)(hsz:q1.heap.size<=q'.heap.size)(hos:q'.os=q1.os)(hout:q'.output=q1.output):HB q' B m S gh hr hd/\M3 Sh0 Sh pe (q'.setCell ⟨hr o,k,none⟩ (.bool true)) B m lb mr ga gp gh S gl cp hr (upd2 hd o k) l' A':=by
 obtain⟨es,clock,hm,_⟩:=h.ls.map;have hm1:q1.heap[mr]? =some (.map es clock):=by rw[hg.row _ (Array.getElem?_eq_some_iff.1 hm).1];exact hm
 have hkc:KC B q q':=(KC.of_grw hg).trans (KC.of_low hm1 hlow);have hrm:∀i,i<m->hr i≠mr:=fun i hi=>map_ne hm (h.hb.row i hi);have hrr:∀i,i<m->q'.heap[hr i]? =q.heap[hr i]? :=fun i hi=>by
  rw[hlow _ (h.hb.low i hi) (hrm i hi),hg.row _ (h.hb.row i hi).lt]
 have hb':=h.hb.keep hkc hrr;have rw':=hb'.row o ho;have hset:∀b,b≠hr o->(q'.setCell ⟨hr o,k,none⟩ (.bool true)).heap[b]? =q'.heap[b]? :=fun b hb=>by
  simp[World.setCell,Array.getElem?_modify,Ne.symm hb]
 have hss:(q'.setCell ⟨hr o,k,none⟩ (.bool true)).heap.size=q'.heap.size:=by simp[World.setCell]
 have s1:=hg.size;have s2:=h.bq;have s3:=h.pm;have s4:=h.mB;have s5:=h.hn o ho;have hold:∀b,b<pe.heap.size->(q'.setCell ⟨hr o,k,none⟩ (.bool true)).heap[b]? =q.heap[b]? :=fun b hb=>by
  rw[hset b (by omega),hlow b (by omega) (by omega),hg.row b (by omega)]
 refine⟨hb',(h.mb.keep hkc).keep (KC.setB rw' boolsL_bool _),hb'.set ho k,hL.keep (CK.setB rw' _) (hset _ (Ne.symm (hrm o ho))),⟨?_,fun b ob h1 h2=>?_,fun b h1 h2=>?_,?_,?_⟩,?_,h.pm,h.mB,h.hn⟩
 ·have:=h.af.grown;omega
 ·have:=h.af.keep b ob h1 h2;rw[hold b (Array.getElem?_eq_some_iff.1 h1).1];exact this
 ·have:=h.af.old b h1 h2;exact⟨this.1,(hold b h1).trans this.2⟩
 ·exact hos.trans (hg.os.trans h.af.os)
 ·exact hout.trans (hg.output.trans h.af.output)
 ·omega
set_option maxRecDepth 100000 in
set_option maxHeartbeats 16000000 in
theorem mix_l3{Sh0 Sh:Nat->Prop}{Post:(Nat->Prop)->Goroutine->World->Prop}{pe:World}{ks:List Item}{cs:List Frame}{B lb mr m ga ca gp cq gh nw cw:Nat}{aw:Option Addr}{v0:Value}{x y zz:Int}{S:Nat->Oj}{gl cp hr:Nat->Nat}{wv:Nat->Int}(hm1:1<=m)(hm:m<=8)(ok:∀i,i<m->(S i).Ok)(hnw:nw<=maxLen)(hwh:∀i,i<nw->∃b off,aw=some ⟨b,off,none⟩/\pe.cell? ⟨b,off+i,none⟩=some (.int .i64 (wv i))/\(Lit.int .i64 (wv i)).wf=true){c:Code}(hc:Hid (c=pth [1,1,1,1,1,1,1,1,1,0,1,0,0] (Try.f9.body.getD .skip)))
  (hend:∀q hd l A t5 t6 t7 t8 t9 a4 a9 i7 c7 u4 d7 c5 p0 f4 g9 t0 k7 b4 q0 k1 w2 l3 a5 w3 u2 o2 e6 f8 c2 t4 n0 r9 s8 i3 w1 h4 e8 v2 v6 x3 n2 n7 m7 i0 b0 l6 n8 m1 e0 s7 u5 h6 l7 t2 d4 o6 g7 l0 l8 w4 x1 p1 h0 n5 s0 m6 c3 n3 a3 a8 i9 n6 o8 g8 j5 k3 q9 h8 x4 g4 r5 n9 b5 k6 m4 v7 b3 p3 k5 u7 e3 v4 g5 t1 j1 e2 d2 c1 l1 n4 h5 j4 c9 b7 l2 v8 u6 i4 e4 f0 o0 c8 b2 o1 x0 i1 l9 r8 w9 w7 r4 r1 e9 b8 g3 j9 o4 v3 p9 h7 r7 p2 j3 u3 r2 i2 m3 j6 m2 w5 r6 e1 d5 j0 o7 a2 o9 x2 f5 g2 d1 u8 d0 d6 k2 i5 a6 f3 b1 j7 p8 w6 k0 i6 d3 w0 w8 b6 b9 c4 n1 p7 k8 j2 m8 f6 v1 p4 c0 f1 s9 h3 o5 d9 e5 h9 s6 f7 l4 m5 k4 f2 u1 p6 k9 m0 u9 v5 c6 a7 e7 m9 d8 j8 g6 g0 g1 u0 t3 r3 o3 i8 v9 r0,M3 Sh0 Sh pe q B m lb mr ga gp gh S gl cp hr hd l A->qR Try.prog Sh (G ((base 9).at ⟨#[v0,.int .i64 x,.int .i64 y,.int .i64 zz,.slice aw nw cw,t5,t6,t7,t8,t9,.bool false,.bool true,.pointer (some ⟨lb,0,none⟩),.slice (some ⟨ga,0,none⟩) m ca,.slice (some ⟨gp,0,none⟩) m cq,a4,a9,i7,c7,.slice (some ⟨gh,0,none⟩) m m,u4,.int .i64 (nw:Int),d7,c5,p0,f4,g9,t0,k7,b4,q0,k1,w2,l3,a5,w3,u2,o2,e6,f8,c2,t4,n0,r9,s8,i3,w1,h4,e8,v2,v6,x3,n2,n7,m7,i0,b0,l6,n8,m1,e0,s7,u5,h6,l7,t2,d4,o6,g7,l0,l8,w4,x1,p1,h0,n5,s0,m6,c3,n3,a3,a8,i9,n6,o8,g8,j5,k3,q9,h8,x4,g4,r5,n9,b5,k6,m4,v7,b3,p3,k5,u7,e3,v4,g5,t1,j1,e2,d2,c1,l1,n4,h5,j4,c9,b7,l2,v8,u6,i4,e4,f0,o0,c8,b2,o1,x0,i1,l9,r8,w9,w7,r4,r1,e9,b8,g3,j9,o4,v3,p9,h7,r7,p2,j3,u3,r2,i2,m3,j6,m2,w5,r6,e1,d5,j0,o7,a2,o9,x2,f5,g2,d1,u8,d0,d6,k2,i5,a6,f3,b1,j7,p8,w6,k0,i6,d3,w0,w8,b6,b9,c4,n1,p7,k8,j2,m8,f6,v1,p4,c0,f1,s9,h3,o5,d9,e5,h9,s6,f7,l4,m5,k4,f2,u1,p6,k9,m0,u9,v5,c6,a7,e7,m9,d8,j8,g6,g0,g1,u0,t3,r3,o3,i8,v9,r0],[]⟩ ks) cs) q Post):
  ∀(r i:Nat),i+r=nw->∀(q:World) (hd:Nat->Nat->Bool) (l:List (Nat×Nat)) (A:Nat->OD) (t5 t6 t7 t8 t9 a4 a9 i7 c7 u4 d7 c5 p0 f4 g9 t0 k7 b4 q0 k1 w2 l3 a5 w3 u2 o2 e6 f8 c2 t4 n0 r9 s8 i3 w1 h4 e8 v2 v6 x3 n2 n7 m7 i0 b0 l6 n8 m1 e0 s7 u5 h6 l7 t2 d4 o6 g7 l0 l8 w4 x1 p1 h0 n5 s0 m6 c3 n3 a3 a8 i9 n6 o8 g8 j5 k3 q9 h8 x4 g4 r5 n9 b5 k6 m4 v7 b3 p3 k5 u7 e3 v4 g5 t1 j1 e2 d2 c1 l1 n4 h5 j4 c9 b7 l2 v8 u6 i4 e4 f0 o0 c8 b2 o1 x0 i1 l9 r8 w9 w7 r4 r1 e9 b8 g3 j9 o4 v3 p9 h7 r7 p2 j3 u3 r2 i2 m3 j6 m2 w5 r6 e1 d5 j0 o7 a2 o9 x2 f5 g2 d1 u8 d0 d6 k2 i5 a6 f3 b1 j7 p8 w6 k0 i6 d3 w0 w8 b6 b9 c4 n1 p7 k8 j2 m8 f6 v1 p4 c0 f1 s9 h3 o5 d9 e5 h9 s6 f7 l4 m5 k4 f2 u1 p6 k9 m0 u9 v5 c6 a7 e7 m9 d8 j8 g6 g0 g1 u0 t3 r3 o3 i8 v9 r0:Value),M3 Sh0 Sh pe q B m lb mr ga gp gh S gl cp hr hd l A->
   qR Try.prog Sh (G ((base 9).at ⟨#[v0,.int .i64 x,.int .i64 y,.int .i64 zz,.slice aw nw cw,t5,t6,t7,t8,t9,.bool false,.bool true,.pointer (some ⟨lb,0,none⟩),.slice (some ⟨ga,0,none⟩) m ca,.slice (some ⟨gp,0,none⟩) m cq,a4,a9,i7,c7,.slice (some ⟨gh,0,none⟩) m m,u4,.int .i64 (i:Int),d7,c5,p0,f4,g9,t0,k7,b4,q0,k1,w2,l3,a5,w3,u2,o2,e6,f8,c2,t4,n0,r9,s8,i3,w1,h4,e8,v2,v6,x3,n2,n7,m7,i0,b0,l6,n8,m1,e0,s7,u5,h6,l7,t2,d4,o6,g7,l0,l8,w4,x1,p1,h0,n5,s0,m6,c3,n3,a3,a8,i9,n6,o8,g8,j5,k3,q9,h8,x4,g4,r5,n9,b5,k6,m4,v7,b3,p3,k5,u7,e3,v4,g5,t1,j1,e2,d2,c1,l1,n4,h5,j4,c9,b7,l2,v8,u6,i4,e4,f0,o0,c8,b2,o1,x0,i1,l9,r8,w9,w7,r4,r1,e9,b8,g3,j9,o4,v3,p9,h7,r7,p2,j3,u3,r2,i2,m3,j6,m2,w5,r6,e1,d5,j0,o7,a2,o9,x2,f5,g2,d1,u8,d0,d6,k2,i5,a6,f3,b1,j7,p8,w6,k0,i6,d3,w0,w8,b6,b9,c4,n1,p7,k8,j2,m8,f6,v1,p4,c0,f1,s9,h3,o5,d9,e5,h9,s6,f7,l4,m5,k4,f2,u1,p6,k9,m0,u9,v5,c6,a7,e7,m9,d8,j8,g6,g0,g1,u0,t3,r3,o3,i8,v9,r0],[]⟩ (.code c:: .inLoop c:: .inBlock 4::ks)) cs) q Post:=by
 have HE:=hide hend;have HOk:=hide ok;have HWh:=hide hwh;have HNW:=hide hnw
 clear hend ok hwh hnw;intro r;induction r with
 |zero=>
  intro i hkr q hd l A t5 t6 t7 t8 t9 a4 a9 i7 c7 u4 d7 c5 p0 f4 g9 t0 k7 b4 q0 k1 w2 l3 a5 w3 u2 o2 e6 f8 c2 t4 n0 r9 s8 i3 w1 h4 e8 v2 v6 x3 n2 n7 m7 i0 b0 l6 n8 m1 e0 s7 u5 h6 l7 t2 d4 o6 g7 l0 l8 w4 x1 p1 h0 n5 s0 m6 c3 n3 a3 a8 i9 n6 o8 g8 j5 k3 q9 h8 x4 g4 r5 n9 b5 k6 m4 v7 b3 p3 k5 u7 e3 v4 g5 t1 j1 e2 d2 c1 l1 n4 h5 j4 c9 b7 l2 v8 u6 i4 e4 f0 o0 c8 b2 o1 x0 i1 l9 r8 w9 w7 r4 r1 e9 b8 g3 j9 o4 v3 p9 h7 r7 p2 j3 u3 r2 i2 m3 j6 m2 w5 r6 e1 d5 j0 o7 a2 o9 x2 f5 g2 d1 u8 d0 d6 k2 i5 a6 f3 b1 j7 p8 w6 k0 i6 d3 w0 w8 b6 b9 c4 n1 p7 k8 j2 m8 f6 v1 p4 c0 f1 s9 h3 o5 d9 e5 h9 s6 f7 l4 m5 k4 f2 u1 p6 k9 m0 u9 v5 c6 a7 e7 m9 d8 j8 g6 g0 g1 u0 t3 r3 o3 i8 v9 r0 hM;have hkm:i=nw:=by omega
  replace hkm:=hide hkm;refine qR.unc hc.out ?_;conv=>arg 3;simp only[Try.f9,Option.getD_some,pth]
  refine qR.seq (qR.seq ?_);have q1:¬(i:Int)<(nw:Int):=by have:=hkm.out;omega
  refine qR.hideK fun kk hkk=>?_;replace hkk:=hide hkk;refine qR.runV qJ (by kernel_rfl) fun τ d=>?_;go_wp2
  first|(refine Or.inl ⟨rfl,?_⟩;dsimp only;refine qR.re ?_ _ _)|refine qR.re ?_ _ _
  rw[hkk.out];clear hkk kk τ d;refine qR.no rfl ?_;refine qR.exit rfl ?_;have hkm:=hkm.out;subst hkm;exact HE.out q hd l A _ _ _ _ _ _ _ _ _ _ _ _ _ _ _ _ _ _ _ _ _ _ _ _ _ _ _ _ _ _ _ _ _ _ _ _ _ _ _ _ _ _ _ _ _ _ _ _ _ _ _ _ _ _ _ _ _ _ _ _ _ _ _ _ _ _ _ _ _ _ _ _ _ _ _ _ _ _ _ _ _ _ _ _ _ _ _ _ _ _ _ _ _ _ _ _ _ _ _ _ _ _ _ _ _ _ _ _ _ _ _ _ _ _ _ _ _ _ _ _ _ _ _ _ _ _ _ _ _ _ _ _ _ _ _ _ _ _ _ _ _ _ _ _ _ _ _ _ _ _ _ _ _ _ _ _ _ _ _ _ _ _ _ _ _ _ _ _ _ _ _ _ _ _ _ _ _ _ _ _ _ _ _ _ _ _ _ _ _ _ _ _ _ _ _ _ _ _ _ _ _ _ _ _ _ _ _ _ _ _ _ _ _ _ hM
 |succ r ih=>
  intro i hkr q hd l A t5 t6 t7 t8 t9 a4 a9 i7 c7 u4 d7 c5 p0 f4 g9 t0 k7 b4 q0 k1 w2 l3 a5 w3 u2 o2 e6 f8 c2 t4 n0 r9 s8 i3 w1 h4 e8 v2 v6 x3 n2 n7 m7 i0 b0 l6 n8 m1 e0 s7 u5 h6 l7 t2 d4 o6 g7 l0 l8 w4 x1 p1 h0 n5 s0 m6 c3 n3 a3 a8 i9 n6 o8 g8 j5 k3 q9 h8 x4 g4 r5 n9 b5 k6 m4 v7 b3 p3 k5 u7 e3 v4 g5 t1 j1 e2 d2 c1 l1 n4 h5 j4 c9 b7 l2 v8 u6 i4 e4 f0 o0 c8 b2 o1 x0 i1 l9 r8 w9 w7 r4 r1 e9 b8 g3 j9 o4 v3 p9 h7 r7 p2 j3 u3 r2 i2 m3 j6 m2 w5 r6 e1 d5 j0 o7 a2 o9 x2 f5 g2 d1 u8 d0 d6 k2 i5 a6 f3 b1 j7 p8 w6 k0 i6 d3 w0 w8 b6 b9 c4 n1 p7 k8 j2 m8 f6 v1 p4 c0 f1 s9 h3 o5 d9 e5 h9 s6 f7 l4 m5 k4 f2 u1 p6 k9 m0 u9 v5 c6 a7 e7 m9 d8 j8 g6 g0 g1 u0 t3 r3 o3 i8 v9 r0 hM;have hi:i<nw:=by omega
  obtain⟨bw,ow,rfl,hwc,hwf⟩:=HWh.out i hi;have hwq:q.cell? ⟨bw,ow+i,none⟩=some (.int .i64 (wv i)):=KC.of_afterT (B:=bw+1) hM.af _ _ _ hwc (by simp) (by omega);obtain⟨o,hoe⟩:∃o,o=pickN (wv i) m:=⟨_,rfl⟩;have hom:o<m:=by rw[hoe];exact pickN_lt _ (by omega)
  have oko:=HOk.out o hom;have hTp:=oko.T_pos;have hTl:=oko.T_le;obtain⟨kk0,hke⟩:∃k,k=pickN (IntKind.wrap .i64 ((wv i).tdiv 8)) (S o).T:=⟨_,rfl⟩;have hkT:kk0<(S o).T:=by rw[hke];exact pickN_lt _ hTp
  obtain⟨z,n,hz,hn,hkz⟩:=(S o).split hkT;obtain⟨gpk,hgB,hpkc,hpkb⟩:=hM.mb.pk o hom z n hz hn;rw[<-hkz]at hpkc;have hallo:=hM.mb.all o hom;have q1:(i:Int)<(nw:Int):=by omega
  have q2:(0:Int)<=(i:Int):=by omega
  have q3:(0:Int)<(m:Int):=by omega
  have q4:(o:Int)<(m:Int):=by omega
  have q5:(0:Int)<=(o:Int):=by omega
  have q6:(kk0:Int)<((S o).T:Int):=by omega
  have q7:(0:Int)<=(kk0:Int):=by omega
  have HKZ:=hide hkz;have HPB:=hide hpkb
  clear hkz hpkb;replace hoe:=hide hoe;replace hke:=hide hke;refine qR.unc hc.out ?_;conv=>arg 3;simp only[Try.f9,Option.getD_some,pth]
  refine qR.seq (qR.seq ?_);refine qR.hideK fun kk hkk=>?_;replace hkk:=hide hkk;refine qR.runV qJ (by kernel_rfl) fun τ d=>?_;go_wp2
  first|(refine Or.inl ⟨rfl,?_⟩;dsimp only;refine qR.re ?_ _ _)|refine qR.re ?_ _ _
  rw[hkk.out];clear hkk kk τ d;refine qR.yes (by first|rfl|(simp[Act.eval];done)|(simp[Act.eval];omega)) (qR.skip ?_);refine qR.seq (qR.block (qR.seq ?_));refine qR.hideK fun kk hkk=>?_;replace hkk:=hide hkk;refine qR.reg (todo:= [0,1,2,3,4,5,6,7]) rfl ?_;refine qR.o qJ (by kernel_rfl) rfl rfl (fun τ d K hK=>?_);go_simp;refine hK _ _ ?_;clear hK;refine qR.re ?_ _ _;try walk_nrm
  refine qR.o qJ (by kernel_rfl) rfl rfl (fun τ d K hK=>?_);go_simp;refine hK _ _ ?_;clear hK;refine qR.re ?_ _ _;try walk_nrm
  refine qR.o qJ (by kernel_rfl) rfl rfl (fun τ d K hK=>?_);go_simp;refine hK _ _ ?_;clear hK;refine qR.re ?_ _ _;try walk_nrm
  refine qR.o qJ (by kernel_rfl) rfl rfl (fun τ d K hK=>?_);have a0:(q.re τ d).cell? ⟨bw,ow+i,none⟩=some (.int .i64 (wv i)):=hwq;go_simp;refine hK _ _ ?_;clear hK a0;refine qR.re ?_ _ _;try walk_nrm
  refine qR.o qJ (by kernel_rfl) rfl rfl (fun τ d K hK=>?_);go_simp;refine hK _ _ ?_;clear hK;refine qR.re ?_ _ _;try walk_nrm
  refine qR.o qJ (by kernel_rfl) rfl rfl (fun τ d K hK=>?_);go_simp;refine hK _ _ ?_;clear hK;refine qR.re ?_ _ _;try walk_nrm
  refine qR.callsA qJ (by kernel_rfl) rfl rfl rfl Try.func18 rfl rfl (xs:=#[.int .i64 (wv i),.int .i64 (m:Int)]) (by simp[Act.eval]) (fun τ d=>?_);refine(pick_lit (wv i) m (m:Int) rfl hwf (by omega) (by omega) (q.re τ d)).mono ?_;rintro e w' ⟨rfl,rfl⟩;refine⟨_,rfl,qR.re ?_ τ d⟩;rw[<-hoe.out];try walk_nrm
  refine qR.o qJ (by kernel_rfl) rfl rfl (fun τ d K hK=>?_);go_simp;refine hK _ _ ?_;clear hK;refine qR.re ?_ _ _;try walk_nrm
  refine qR.regEnd ?_;rw[hkk.out];clear hkk kk;refine qR.seq (qR.hideK fun kk hkk=>?_);replace hkk:=hide hkk;refine mix_r25 (i:=i) (o:=o) (ga:=ga) (m:=m) (ca:=ca) (gl:=gl o) (T1:=(S o).T) (cp:=cp o) (wv:=wv i) (by rfl) rfl rfl rfl rfl hi hom hTp (by omega) hwq hallo (by kernel_rfl) ?_;rw[hkk.out];clear hkk kk;simp only[mixT,d25,v25,if_true,List.setIfInBounds_toArray,List.set_cons_zero,List.set_cons_succ];rw[<-hke.out];refine qR.seq (qR.hideK fun kk hkk=>?_);replace hkk:=hide hkk;refine qR.reg (todo:= [0,1,2,3,4,5,6,7,8,9,10,11,12,13,14]) rfl ?_;refine qR.o qJ (by kernel_rfl) rfl rfl (fun τ d K hK=>?_);go_simp;refine hK _ _ ?_;clear hK;refine qR.re ?_ _ _;try walk_nrm
  refine qR.o qJ (by kernel_rfl) rfl rfl (fun τ d K hK=>?_);go_simp;refine hK _ _ ?_;clear hK;refine qR.re ?_ _ _;try walk_nrm
  refine qR.o qJ (by kernel_rfl) rfl rfl (fun τ d K hK=>?_);go_simp;refine hK _ _ ?_;clear hK;refine qR.re ?_ _ _;try walk_nrm
  refine qR.o qJ (by kernel_rfl) rfl rfl (fun τ d K hK=>?_);go_simp;refine hK _ _ ?_;clear hK;refine qR.re ?_ _ _;try walk_nrm
  refine qR.o qJ (by kernel_rfl) rfl rfl (fun τ d K hK=>?_);have a0:(q.re τ d).cell? ⟨ga,o,none⟩=some (.slice (some ⟨gl o,0,none⟩) (S o).T (cp o)):=hallo;go_simp;refine hK _ _ ?_;clear hK a0;refine qR.re ?_ _ _;try walk_nrm
  refine qR.o qJ (by kernel_rfl) rfl rfl (fun τ d K hK=>?_);go_simp;refine hK _ _ ?_;clear hK;refine qR.re ?_ _ _;try walk_nrm
  refine qR.o qJ (by kernel_rfl) rfl rfl (fun τ d K hK=>?_);go_simp;refine hK _ _ ?_;clear hK;refine qR.re ?_ _ _;try walk_nrm
  refine qR.o qJ (by kernel_rfl) rfl rfl (fun τ d K hK=>?_);have a0:(q.re τ d).cell? ⟨gl o,kk0,none⟩=some (.slice (some ⟨gpk,0,none⟩) (10+(S o).sz) (10+(S o).sz)):=hpkc;go_simp;refine hK _ _ ?_;clear hK a0;refine qR.re ?_ _ _;try walk_nrm
  refine qR.o qJ (by kernel_rfl) rfl rfl (fun τ d K hK=>?_);go_simp;refine hK _ _ ?_;clear hK;try walk_nrm
  rw[show(q.re τ d).heap.size=q.heap.size from rfl];refine qR.re (p:=q.alloc (.cells #[.slice (some ⟨gpk,0,none⟩) (10+(S o).sz) (10+(S o).sz)] 36)) ?_ τ d;clear τ d;have hg1:Grw q (q.alloc (.cells #[.slice (some ⟨gpk,0,none⟩) (10+(S o).sz) (10+(S o).sz)] 36)):=(Grw.refl q).alloc _;have hc1:(q.alloc (.cells #[.slice (some ⟨gpk,0,none⟩) (10+(S o).sz) (10+(S o).sz)] 36)).cell? ⟨q.heap.size,0,none⟩=some (.slice (some ⟨gpk,0,none⟩) (10+(S o).sz) (10+(S o).sz)):=cell_alloc_any _ _ _ _ _ _ rfl;obtain⟨qa,hqa⟩:∃qa,qa=q.alloc (.cells #[.slice (some ⟨gpk,0,none⟩) (10+(S o).sz) (10+(S o).sz)] 36):=⟨_,rfl⟩;rw[<-hqa]at hg1 hc1⊢;obtain⟨es,clock,hmap,hmi⟩:=hM.ls.map;have hLa:LSt qa B lb mr (List.range m) S hd l A:=hM.ls.keep hg1.ck (hg1.row _ (Array.getElem?_eq_some_iff.1 hmap).1);have HLa:=hide hLa;have HMM:=hide hM;have HC1:=hide hc1
  clear hLa hM hc1 hqa hmap hmi;refine qR.callT rfl rfl (by decide) rfl Try.func28 rfl rfl (T':=#[.pointer (some ⟨lb,0,none⟩),.slice (some ⟨q.heap.size,0,none⟩) 1 1,undef,undef,undef,undef,undef,undef,undef,undef,undef,undef,undef,undef,undef,undef,undef,undef,undef,undef,undef,undef,undef,undef,undef,undef,undef,undef]) (by simp[Act.eval,Try.f28]) ?_;refine hear_lst (o:=?o) (i:=o) (z:=z) (q:=n) (gb:=gpk) (cap:=10+(S o).sz) ?ho HLa.out oko (by simpa using hm) (List.mem_range.2 hom) (by omega) hz hn (Nat.le_trans HMM.out.bq hg1.size) HC1.out (Nat.le_refl _) (fun j hj=>hg1.cell (HPB.out j hj)) (fun b p5 l5 A5 hb5 hL5 hlow5 hsz5 hos5 hout5=>?hend)
  case ho=>rfl
  case hend=>
  rw[<-HKZ.out]at hL5;have hM5:=HMM.out.heard hg1 hom hL5 hlow5 hsz5 hos5 hout5;clear hb5 HLa HC1 hlow5 hsz5 hos5 hout5 hL5;generalize (if b=true then(1:Int)else 0)=bi;try walk_nrm
  refine qR.o qJ (by kernel_rfl) rfl rfl (fun τ d K hK=>?_);go_simp;refine hK _ _ ?_;clear hK;refine qR.re ?_ _ _;try walk_nrm
  refine qR.o qJ (by kernel_rfl) rfl rfl (fun τ d K hK=>?_);go_simp;refine hK _ _ ?_;clear hK;refine qR.re ?_ _ _;try walk_nrm
  refine qR.o qJ (by kernel_rfl) rfl rfl (fun τ d K hK=>?_);go_simp;refine hK _ _ ?_;clear hK;refine qR.re ?_ _ _;try walk_nrm
  refine qR.o qJ (by kernel_rfl) rfl rfl (fun τ d K hK=>?_);go_simp;refine hK _ _ ?_;clear hK;refine qR.re ?_ _ _;try walk_nrm
  refine qR.o qJ (by kernel_rfl) rfl rfl (fun τ d K hK=>?_);go_simp;refine hK _ _ ?_;clear hK;refine qR.re ?_ _ _;try walk_nrm
  refine qR.regEnd ?_;rw[hkk.out];clear hkk kk;refine qR.seq (qR.seq ?_);refine qR.hideK fun kk hkk=>?_;replace hkk:=hide hkk;refine qR.runV qJ (by kernel_rfl) fun τ d=>?_;go_wp2
  first|(refine Or.inl ⟨rfl,?_⟩;dsimp only;refine qR.re ?_ _ _)|refine qR.re ?_ _ _
  rw[hkk.out];clear hkk kk τ d;refine qR.no rfl (qR.skip ?_);have htop:=hM5.1.top o hom;have hrow5:=hM5.1.row o hom;have hM6:=hide hM5.2;clear hM5;refine qR.hideK fun kk hkk=>?_;replace hkk:=hide hkk;refine qR.reg (todo:= [0,1,2,3,4,5,6]) rfl ?_;refine qR.o qJ (by kernel_rfl) rfl rfl (fun τ d K hK=>?_);go_simp;refine hK _ _ ?_;clear hK;refine qR.re ?_ _ _;try walk_nrm
  refine qR.o qJ (by kernel_rfl) rfl rfl (fun τ d K hK=>?_);go_simp;refine hK _ _ ?_;clear hK;refine qR.re ?_ _ _;try walk_nrm
  refine qR.o qJ (by kernel_rfl) rfl rfl (fun τ d K hK=>?_);go_simp;refine hK _ _ ?_;clear hK;refine qR.re ?_ _ _;try walk_nrm
  refine qR.o qJ (by kernel_rfl) rfl rfl (fun τ d K hK=>?_);have a0:(p5.re τ d).cell? ⟨gh,o,none⟩=some (.slice (some ⟨hr o,0,none⟩) (S o).T (S o).T):=htop;go_simp;refine hK _ _ ?_;clear hK a0;refine qR.re ?_ _ _;try walk_nrm
  refine qR.o qJ (by kernel_rfl) rfl rfl (fun τ d K hK=>?_);go_simp;refine hK _ _ ?_;clear hK;refine qR.re ?_ _ _;try walk_nrm
  refine qR.o qJ (by kernel_rfl) rfl rfl (fun τ d K hK=>?_);go_simp;refine hK _ _ ?_;clear hK;refine qR.re ?_ _ _;try walk_nrm
  refine qR.o qJ (by kernel_rfl) rfl rfl (fun τ d K hK=>?_);have a0:(p5.re τ d).cell? ⟨hr o,kk0,none⟩=some (.bool (hd o kk0)):=hrow5.cell _ _ (boolsL_at hkT);have a1:(p5.re τ d).frozen? ⟨hr o,kk0,none⟩=false:=hrow5.frozen _;go_simp;refine hK _ _ ?_;clear hK a0 a1;refine qR.re (p:=p5.setCell ⟨hr o,kk0,none⟩ (.bool true)) ?_ τ d;try walk_nrm
  refine qR.regEnd ?_;rw[hkk.out];clear hkk kk τ d htop hrow5;refine qR.inBlock ?_;have q8:(i:Int)<9223372036854775807:=by have:=HNW.out;simp only[maxLen]at this;omega
  refine qR.hideK fun kk hkk=>?_;replace hkk:=hide hkk;refine qR.runV qJ (by kernel_rfl) fun τ d=>?_;go_wp2
  first|(refine Or.inl ⟨rfl,?_⟩;dsimp only;refine qR.re ?_ _ _)|refine qR.re ?_ _ _
  rw[hkk.out];clear hkk kk τ d;refine qR.inLoop ?_;exact ih (i+1) (by omega) _ _ _ _ _ _ _ _ _ _ _ _ _ _ _ _ _ _ _ _ _ _ _ _ _ _ _ _ _ _ _ _ _ _ _ _ _ _ _ _ _ _ _ _ _ _ _ _ _ _ _ _ _ _ _ _ _ _ _ _ _ _ _ _ _ _ _ _ _ _ _ _ _ _ _ _ _ _ _ _ _ _ _ _ _ _ _ _ _ _ _ _ _ _ _ _ _ _ _ _ _ _ _ _ _ _ _ _ _ _ _ _ _ _ _ _ _ _ _ _ _ _ _ _ _ _ _ _ _ _ _ _ _ _ _ _ _ _ _ _ _ _ _ _ _ _ _ _ _ _ _ _ _ _ _ _ _ _ _ _ _ _ _ _ _ _ _ _ _ _ _ _ _ _ _ _ _ _ _ _ _ _ _ _ _ _ _ _ _ _ _ _ _ _ _ _ _ _ _ _ _ _ _ _ _ _ _ _ _ _ _ _ _ _ _ _ _ _ hM6.out
end Go.Proofs.Ytmfpiodlecapiaa
