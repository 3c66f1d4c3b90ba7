import Derived.Test.YtmfpiodlecapiaaJ44
namespace Go.Proofs.Ytmfpiodlecapiaa
open Go.Conc Go.ConcN Go.RowKit Go.Frag Go.Ren Go.Poi Go.Deep Go.Grp
attribute [local go_sem↓] Go.wp_at_zero Go.wp_at_succ
def MixEnd(Sh0:Nat->Prop)(pe:World)(Sh:Nat->Prop)(g:Goroutine)(p:World):Prop:=∃T todo,g=Gr 9 T todo []/\T[10]? =some (.bool true)/\AfterT Sh0 Sh pe p
theorem MB.up{q:World}{B B' m:Nat}{S:Nat->Oj}{ga gp:Nat}{gl cp:Nat->Nat}(h:MB q B m S ga gp gl cp)(hB:B<=B'):MB q B' m S ga gp gl cp:=by
 have hl:=h.lo;refine⟨⟨by omega,by omega⟩,h.all,h.p0,h.p1,h.p2,fun i hi=>Nat.lt_of_lt_of_le (h.glo i hi) hB,fun i hi z n hz hn=>?_⟩;obtain⟨g,h1,h2⟩:=h.pk i hi z n hz hn;exact⟨g,by omega,h2⟩
theorem hslot_zero(m:Nat)(S:Nat->Oj)(hr:Nat->Nat):List.replicate m (Value.slice none 0 0)=hslot m 0 S hr:=by
 unfold hslot;have:(List.range m).map (fun i=>if i<0 then Value.slice (some ⟨hr i,0,none⟩) (S i).T (S i).T else .slice none 0 0)=(List.range m).map fun _=>Value.slice none 0 0:=List.map_congr_left fun i _=>by simp
 rw[this,List.map_const',List.length_range]
theorem M3.start{Sh0 Sh:Nat->Prop}{pe p2 q qh q2:World}{m mr gh ga gp:Nat}{S:Nat->Oj}{gl cp hr:Nat->Nat}(hA:AfterT Sh0 Sh pe p2)(hpe:pe.heap.size<=mr)(hs:p2.heap.size=mr+2)(hlis:qS p2 (mr+1) 91 [.map (some mr)])(hmap:p2.heap[mr]? =some (.map #[] 0))(hg:Grw p2 q)(hmb:MB q q.heap.size m S ga gp gl cp)(hgh:gh=q.heap.size)(hqh:Grw q qh)(hsh:qh.heap.size=q.heap.size+1)(hL:L2 qh q2 m m gh S hr)(A:Nat->OD):
  M3 Sh0 Sh pe q2 q2.heap.size m (mr+1) mr ga gp gh S gl cp hr (fun _ _=>false) [] A:=by
 have hlow:∀b,b<q.heap.size->q2.heap[b]? =q.heap[b]? :=fun b hb=>by
  rw[hL.low b (by omega) (by omega),hqh.row b hb]
 have s1:=hg.size;have s2:=hL.size;have hk:KC q.heap.size q q2:=fun b i v hc _ hb=>by
  rw[<-hc];exact World.cell?_of_block (hlow b hb)
 have hp2:∀b,b<p2.heap.size->q2.heap[b]? =p2.heap[b]? :=fun b hb=>(hlow b (by omega)).trans (hg.row b hb);refine⟨(hmb.keep hk).up (by omega),⟨hL.top.lt,fun i hi=>hL.top.cell _ _ (by simp[hslot,hi]),fun i hi=>hL.row i hi,hL.inj,fun i hi=>(hL.row i hi).lt⟩,LSt.start (hlis.of_block (hp2 _ (by omega))) ((hp2 _ (by omega)).trans hmap) A,?_,Nat.le_refl _,hpe,by omega,fun i hi=>by have:=hL.new i hi;omega⟩;refine hA.trans (AfterT.of_grw ⟨by omega,hp2,?_,?_⟩)
 ·rw[hL.os,hqh.os,hg.os]
 ·rw[hL.output,hqh.output,hg.output]
set_option linter.unusedSimpArgs false in
set_option maxRecDepth 100000 in
set_option maxHeartbeats 32000000 in
theorem mixed_bto{Sh0:Nat->Prop}{pe:World}{gs os no co nw cw:Nat}{ao aw:Option Addr}{x y zz:Int}{st:Nat->ByteArray}{wv:Nat->Int}(hao:ao=some ⟨gs,os,none⟩)(hno:1<=no)(wy:(Lit.int .i64 y).wf=true)(wz:(Lit.int .i64 zz).wf=true)(hst:∀i,i<min no 8->pe.cell? ⟨gs,os+i,none⟩=some (.string (st i))/\(st i).size<=maxLen)(hnw:nw<=maxLen)(hwh:∀i,i<nw->∃b off,aw=some ⟨b,off,none⟩/\pe.cell? ⟨b,off+i,none⟩=some (.int .i64 (wv i))/\(Lit.int .i64 (wv i)).wf=true):
  qR Try.prog Sh0 (G ((base 9).at ⟨#[.slice ao no co,.int .i64 x,.int .i64 y,.int .i64 zz,.slice aw nw cw,undef,undef,undef,undef,undef,undef,undef,undef,undef,undef,undef,undef,undef,undef,undef,undef,undef,undef,undef,undef,undef,undef,undef,undef,undef,undef,undef,undef,undef,undef,undef,undef,undef,undef,undef,undef,undef,undef,undef,undef,undef,undef,undef,undef,undef,undef,undef,undef,undef,undef,undef,undef,undef,undef,undef,undef,undef,undef,undef,undef,undef,undef,undef,undef,undef,undef,undef,undef,undef,undef,undef,undef,undef,undef,undef,undef,undef,undef,undef,undef,undef,undef,undef,undef,undef,undef,undef,undef,undef,undef,undef,undef,undef,undef,undef,undef,undef,undef,undef,undef,undef,undef,undef,undef,undef,undef,undef,undef,undef,undef,undef,undef,undef,undef,undef,undef,undef,undef,undef,undef,undef,undef,undef,undef,undef,undef,undef,undef,undef,undef,undef,undef,undef,undef,undef,undef,undef,undef,undef,undef,undef,undef,undef,undef,undef,undef,undef,undef,undef,undef,undef,undef,undef,undef,undef,undef,undef,undef,undef,undef,undef,undef,undef,undef,undef,undef,undef,undef,undef,undef,undef,undef,undef,undef,undef,undef,undef,undef,undef,undef,undef,undef,undef,undef,undef,undef,undef,undef,undef,undef,undef,undef,undef,undef,undef,undef,undef,undef,undef,undef,undef,undef,undef,undef,undef,undef,undef,undef,undef,undef,undef,undef,undef,undef,undef,undef,undef,undef,undef,undef,undef],[]⟩ [.code (Try.f9.body.getD .skip)]) []) pe (MixEnd Sh0 pe):=by
 subst hao;have HSt:=hide hst;have HWh:=hide hwh;have HNW:=hide hnw;have HWY:=hide wy;have HWZ:=hide wz
 clear hst hwh hnw wy wz;obtain⟨m,hme⟩:∃m,m=min no 8:=⟨_,rfl⟩;rw[<-hme]at HSt;have hm1:1<=m:=by omega
 have hm8:m<=8:=by omega
 have hmno:m<=no:=by omega
 obtain⟨S,hSe⟩:∃S:Nat->Oj,S=fun(i:Nat)=>mixOj (IntKind.wrap .i64 (x+(i:Int))) y zz (st i):=⟨_,rfl⟩;have HS:Hid (∀i,i<m->S i=mixOj (IntKind.wrap .i64 (x+(i:Int))) y zz (st i)):=fun i _=>by rw[hSe]
 have HOk:Hid (∀i,i<m->(S i).Ok):=fun i hi=>by rw[HS.out i hi];exact mixOj_ok _ _ _ _
 clear hSe;replace hme:=hide hme;conv=>arg 3;simp only[Try.f9,Option.getD_some]
 refine qR.seq ?_;refine qR.hideK fun kk hkk=>?_;replace hkk:=hide hkk;refine qR.runV qJ (by kernel_rfl) fun τ d=>?_;go_wp2
 first|(refine Or.inl ⟨rfl,?_⟩;dsimp only;refine qR.re ?_ _ _)|refine qR.re ?_ _ _
 rw[hkk.out];clear hkk kk τ d;refine qR.seq (qR.hideK fun kk hkk=>?_);replace hkk:=hide hkk;refine qR.reg (todo:= [0,1]) rfl ?_;refine qR.callT rfl rfl (by decide) rfl Try.func26 rfl rfl (T':=#[undef,undef,undef,undef,undef,undef,undef,undef,undef,undef,undef,undef,undef,undef,undef,undef,undef,undef,undef,undef,undef,undef,undef,undef,undef,undef,undef,undef,undef,undef,undef,undef,undef,undef,undef,undef,undef,undef,undef,undef,undef,undef,undef]) (by simp only[List.map_toArray,List.map_nil,Array.empty_append,List.size_toArray,List.length_nil,Nat.sub_zero];rfl) ?_;refine listens_bto (o:=?o) ?ho (fun Sh p1 hA1=>?hend)
 case ho=>rfl
 case hend=>
 try walk_nrm
 refine qR.o qJ (by kernel_rfl) rfl rfl (fun τ d K hK=>?_);go_simp;refine hK _ _ ?_;clear hK;refine qR.re ?_ _ _;try walk_nrm
 refine qR.regEnd ?_;rw[hkk.out];clear hkk kk;refine qR.seq (qR.hideK fun kk hkk=>?_);replace hkk:=hide hkk;refine qR.reg (todo:= [0,1]) rfl ?_;refine qR.callsA qJ (by kernel_rfl) rfl rfl rfl Try.func27 rfl rfl (xs:=#[]) (by simp) (fun τ d=>?_);refine(new_walk (p1.re τ d)).mono ?_;rintro _ w2 ⟨rfl,hw2⟩;refine⟨_,rfl,?_⟩;rw[show(p1.re τ d).heap.size=p1.heap.size from rfl];refine qR.world (fun q=>Grw p1 q/\q.heap.size=p1.heap.size+2/\qS q (p1.heap.size+1) 91 [.map (some p1.heap.size)]/\q.heap[p1.heap.size]? =some (.map #[] 0)) ?_ fun p2 h2=>?_
 ·subst hw2;have hs:((p1.re τ d).alloc (.map #[] 0)).heap.size=p1.heap.size+1:=by rw[Go.Ren.size_alloc];rfl
  refine⟨(((Grw.refl p1).re τ d).alloc _).alloc _,by rw[Go.Ren.size_alloc,hs],?_,?_⟩
  ·have:=rowL_alloc ((p1.re τ d).alloc (.map #[] 0)) [.map (some p1.heap.size)] 91;rw[hs]at this;exact this
  ·rw[blk_alloc_lt _ _ _ (by rw[hs];omega)];exact blk_alloc_new (p1.re τ d) _
 obtain⟨h2,hs2,hlis2,hmap2⟩:=h2;clear hw2 w2 τ d;try walk_nrm
 refine qR.o qJ (by kernel_rfl) rfl rfl (fun τ d K hK=>?_);go_simp;refine hK _ _ ?_;clear hK;refine qR.re ?_ _ _;try walk_nrm
 refine qR.regEnd ?_;rw[hkk.out];clear hkk kk;have hA2:AfterT Sh0 Sh pe p2:=hA1.trans (AfterT.of_grw h2);have hpe1:pe.heap.size<=p1.heap.size:=hA1.grown;obtain⟨mr,hmre⟩:∃mr,mr=p1.heap.size:=⟨_,rfl⟩;rw[<-hmre]at hs2 hlis2 hmap2 hpe1⊢;clear hmre h2 hA1;have H1:=hide hs2;have H2:=hide hlis2;have H3:=hide hmap2;have H4:=hide hA2;have H5:=hide hpe1
 clear hs2 hlis2 hmap2 hA2 hpe1;refine qR.seq (qR.seq ?_);refine qR.hideK fun kk hkk=>?_;replace hkk:=hide hkk;refine qR.runV qJ (by kernel_rfl) fun τ d=>?_;go_wp2
 first|(refine Or.inl ⟨rfl,?_⟩;dsimp only;refine qR.re ?_ _ _)|refine qR.re ?_ _ _
 rw[hkk.out];clear hkk kk τ d;refine qR.no rfl (qR.skip ?_);refine qR.seq ?_;refine qR.hideK fun kk hkk=>?_;replace hkk:=hide hkk;refine qR.runV qJ (by kernel_rfl) fun τ d=>?_;go_wp2
 first|(refine Or.inl ⟨rfl,?_⟩;dsimp only;refine qR.re ?_ _ _)|refine qR.re ?_ _ _
 rw[hkk.out];clear hkk kk τ d;refine qR.seq ?_;refine qR.hideK fun kk hkk=>?_;replace hkk:=hide hkk;refine qR.runV qJ (by kernel_rfl) fun τ d=>?_;go_wp2
 first|(refine Or.inl ⟨rfl,?_⟩;dsimp only;refine qR.re ?_ _ _)|refine qR.re ?_ _ _
 rw[hkk.out];clear hkk kk τ d;refine qR.seq (qR.seq ?_);refine qR.hideK fun kk hkk=>?_;replace hkk:=hide hkk;refine qR.runV qJ (by kernel_rfl) fun τ d=>?_;go_wp2
 first|(refine Or.inl ⟨rfl,?_⟩;dsimp only;refine qR.re ?_ _ _)|refine qR.re ?_ _ _
 rw[hkk.out];clear hkk kk τ d;refine qR.block (qR.loop ?_);refine mix_l1 (p0:=p2) (m:=m) (S:=S) (st:=st) hme.out HS.out HWY.out HWZ.out (fun i hi=>⟨KC.of_afterT (B:=gs+1) H4.out _ _ _ (HSt.out i hi).1 (by simp) (by omega),(HSt.out i hi).2⟩) (hide (by kernel_rfl)) (fun q vA vP gl cp t5 t6 t7 t8 t9 a6 i4 c4 x7 x6 x4 d4 c2 p4 f1 x5 s6 k8 b1 q7 j8 v8 l5 a2 v9 u0 o3 e3 f5 b9 t0 n1 r8 s4 i0 v7 g9 e5 u8 v2 x1 n3 n8 m8 h7 a7 l7 n9 m2 d7 s3 u2 h3 l8 s8 d1 o7 g5 l1 l9 w0 w9 p5 g7 n6 r9 m7 c0 n4 a1 a5 i6 n7 o9 g6 j2 k0 q8 h5 x2 g2 r4 o0 b2 k7 m5 v3 b0 p7 k6 u4 e0 v0 g3 s7 i8 d9 c9 b8 l2 n5 h0 j1 c6 b4 l4 v4 u3 i1 e1 e7 o1 c5 a9 o2 w8 h8 m0 r7 w7 w5 r3 r0 e6 b5 g1 j6 o5 u9 q6 h4 r6 p6 j0 u1 r1 h9 m4 j3 m3 w3 r5 d8 d2 i7 o8 a0 p3 x0 f2 f8 c8 u5 c7 d3 j9 i2 a3 f0 a8 j4 q5 w4 j7 i3 d0 v6 w6 b3 b6 c1 n2 q1 k9 i9 m9 f3 u7 p8 b7 e8 s5 g8 o6 d6 e2 h6 s0 f4 l6 m6 k5 e9 t4 p9 l0 m1 u6 v1 c3 a4 e4 n0 d5 j5 g4 f6 f7 t3 s9 r2 o4 i5 v5 q9 hL1=>?_) m 0 (by omega) p2 (.slice none 0 0) (.slice none 0 0) (fun _=>0) (fun _=>0) _ _ _ _ _ _ _ _ _ _ _ _ _ _ _ _ _ _ _ _ _ _ _ _ _ _ _ _ _ _ _ _ _ _ _ _ _ _ _ _ _ _ _ _ _ _ _ _ _ _ _ _ _ _ _ _ _ _ _ _ _ _ _ _ _ _ _ _ _ _ _ _ _ _ _ _ _ _ _ _ _ _ _ _ _ _ _ _ _ _ _ _ _ _ _ _ _ _ _ _ _ _ _ _ _ _ _ _ _ _ _ _ _ _ _ _ _ _ _ _ _ _ _ _ _ _ _ _ _ _ _ _ _ _ _ _ _ _ _ _ _ _ _ _ _ _ _ _ _ _ _ _ _ _ _ _ _ _ _ _ _ _ _ _ _ _ _ _ _ _ _ _ _ _ _ _ _ _ _ _ _ _ _ _ _ _ _ _ _ _ _ _ _ _ _ _ _ _ _ _ _ _ _ _ _ _ _ _ _ _ _ _ _ _ _ ⟨Grw.refl _,World.ownsRow_nil _ _ _ _,World.ownsRow_nil _ _ _ _,fun i hi=>by omega⟩;obtain⟨ga,ca,gp,cq,rfl,rfl,hmb⟩:=hL1.opened hm1 HOk.out;have hgr:=hL1.grw;clear hL1;obtain⟨i61,hi61,hz61,hs61,hb61⟩:=info_parts3 Try.infoBools;refine qR.seq (qR.hideK fun kk hkk=>?_);replace hkk:=hide hkk;have HMB:=hide hmb;have HGR:=hide hgr
 clear hmb hgr;refine qR.reg (todo:= [0,1,2,3]) rfl ?_;refine qR.o qJ (by kernel_rfl) rfl rfl (fun τ d K hK=>?_);go_simp;refine hK _ _ ?_;clear hK;refine qR.re ?_ _ _;try walk_nrm
 refine qR.o qJ (by kernel_rfl) rfl rfl (fun τ d K hK=>?_);go_simp;refine hK _ _ ?_;clear hK;refine qR.re ?_ _ _;try walk_nrm
 refine qR.make rfl rfl (by decide) (tm_act qJ (by kernel_rfl)) (l:=.tmp 86) (c:=.tmp 86) rfl (n:=m) Try.underlying60 hi61 hz61 hs61 rfl rfl rfl (by rw[hb61];omega) (by omega) (fun qh hqh hsh hrow=>?_);try walk_nrm
 refine qR.o qJ (by kernel_rfl) rfl rfl (fun τ d K hK=>?_);go_simp;refine hK _ _ ?_;clear hK;refine qR.re ?_ _ _;try walk_nrm
 refine qR.regEnd ?_;rw[hkk.out];clear hkk kk;obtain⟨gh,hgh⟩:∃gh,gh=q.heap.size:=⟨_,rfl⟩;rw[<-hgh]at hrow⊢;have HQ:=hide hqh;have HSH:=hide hsh;have HGH:=hide hgh;have HRW:=hide hrow
 clear hqh hsh hgh hrow hi61 hz61 hs61 hb61 i61;refine qR.seq (qR.seq ?_);refine qR.hideK fun kk hkk=>?_;replace hkk:=hide hkk;refine qR.runV qJ (by kernel_rfl) fun τ d=>?_;go_wp2
 first|(refine Or.inl ⟨rfl,?_⟩;dsimp only;refine qR.re ?_ _ _)|refine qR.re ?_ _ _
 rw[hkk.out];clear hkk kk τ d;refine qR.block (qR.loop ?_);refine mix_l2 (q0:=qh) (m:=m) (S:=S) (gl:=gl) (cp:=cp) hm8 HOk.out (fun i hi=>HQ.out.cell (HMB.out.all i hi)) (by have:=HMB.out.lo.1;have:=HGH.out;omega) (hide (by kernel_rfl)) (fun q2 hr t5 t6 t7 t8 t9 x3 a6 i4 c4 x4 d4 c2 p4 f1 x5 s6 k8 b1 q7 j8 v8 l5 a2 v9 u0 o3 e3 f5 b9 t0 n1 r8 s4 i0 v7 g9 e5 u8 v2 x1 n3 n8 m8 h7 a7 l7 n9 m2 d7 s3 u2 h3 l8 s8 d1 o7 g5 l1 l9 w0 w9 p5 g7 n6 r9 m7 c0 n4 a1 a5 i6 n7 o9 g6 j2 k0 q8 h5 x2 g2 r4 o0 b2 k7 m5 v3 b0 p7 k6 u4 e0 v0 g3 s7 i8 d9 c9 b8 l2 n5 h0 j1 c6 b4 l4 v4 u3 i1 e1 e7 o1 c5 a9 o2 w8 h8 m0 r7 w7 w5 r3 r0 e6 b5 g1 j6 o5 u9 q6 h4 r6 p6 j0 u1 r1 h9 m4 j3 m3 w3 r5 d8 d2 i7 o8 a0 p3 x0 f2 f8 c8 u5 c7 d3 j9 i2 a3 f0 a8 j4 q5 w4 j7 i3 d0 v6 w6 b3 b6 c1 n2 q1 k9 i9 m9 f3 u7 p8 b7 e8 s5 g8 o6 d6 e2 h6 s0 f4 l6 m6 k5 e9 t4 p9 l0 m1 u6 v1 c3 a4 e4 n0 d5 j5 g4 f6 f7 t3 s9 r2 o4 i5 v5 q9 hL2=>?_) m 0 (by omega) qh (fun _=>0) _ _ _ _ _ _ _ _ _ _ _ _ _ _ _ _ _ _ _ _ _ _ _ _ _ _ _ _ _ _ _ _ _ _ _ _ _ _ _ _ _ _ _ _ _ _ _ _ _ _ _ _ _ _ _ _ _ _ _ _ _ _ _ _ _ _ _ _ _ _ _ _ _ _ _ _ _ _ _ _ _ _ _ _ _ _ _ _ _ _ _ _ _ _ _ _ _ _ _ _ _ _ _ _ _ _ _ _ _ _ _ _ _ _ _ _ _ _ _ _ _ _ _ _ _ _ _ _ _ _ _ _ _ _ _ _ _ _ _ _ _ _ _ _ _ _ _ _ _ _ _ _ _ _ _ _ _ _ _ _ _ _ _ _ _ _ _ _ _ _ _ _ _ _ _ _ _ _ _ _ _ _ _ _ _ _ _ _ _ _ _ _ _ _ _ _ _ _ _ _ _ _ _ _ _ _ _ _ _ _ _ _ _ _ ⟨fun _ _ _=>rfl,Nat.le_refl _,rfl,rfl,by rw[<-hslot_zero];exact HRW.out,fun i hi=>by omega,fun i hi=>by omega,fun i j hi=>by omega⟩;have HM:=hide (M3.start H4.out H5.out H1.out H2.out H3.out HGR.out HMB.out HGH.out HQ.out HSH.out hL2 (fun _=>⟨0,0,fun _=>0,fun _ _=>none,fun _ _=>0,fun _ _=>0⟩));clear hL2 HQ HSH HGH HRW HGR HMB H1 H2 H3 H4 H5;refine qR.seq (qR.seq ?_);refine qR.hideK fun kk hkk=>?_;replace hkk:=hide hkk;refine qR.runV qJ (by kernel_rfl) fun τ d=>?_;go_wp2
 first|(refine Or.inl ⟨rfl,?_⟩;dsimp only;refine qR.re ?_ _ _)|refine qR.re ?_ _ _
 rw[hkk.out];clear hkk kk τ d;refine qR.block (qR.loop ?_);refine mix_l3 (Sh0:=Sh0) (pe:=pe) (B:=q2.heap.size) (mr:=mr) (m:=m) (S:=S) (gl:=gl) (cp:=cp) (hr:=hr) (wv:=wv) hm1 hm8 HOk.out HNW.out HWh.out (hide (by kernel_rfl)) (fun q3 hd l3 A3 t5 t6 t7 t8 t9 x3 a6 i4 c4 x6 d4 c2 p4 f1 x5 s6 k8 b1 q7 j8 v8 l5 a2 v9 u0 o3 e3 f5 b9 t0 n1 r8 s4 i0 v7 g9 e5 u8 v2 x1 n3 n8 m8 h7 a7 l7 n9 m2 d7 s3 u2 h3 l8 s8 d1 o7 g5 l1 l9 w0 w9 p5 g7 n6 r9 m7 c0 n4 a1 a5 i6 n7 o9 g6 j2 k0 q8 h5 x2 g2 r4 o0 b2 k7 m5 v3 b0 p7 k6 u4 e0 v0 g3 s7 i8 d9 c9 b8 l2 n5 h0 j1 c6 b4 l4 v4 u3 i1 e1 e7 o1 c5 a9 o2 w8 h8 m0 r7 w7 w5 r3 r0 e6 b5 g1 j6 o5 u9 q6 h4 r6 p6 j0 u1 r1 h9 m4 j3 m3 w3 r5 d8 d2 i7 o8 a0 p3 x0 f2 f8 c8 u5 c7 d3 j9 i2 a3 f0 a8 j4 q5 w4 j7 i3 d0 v6 w6 b3 b6 c1 n2 q1 k9 i9 m9 f3 u7 p8 b7 e8 s5 g8 o6 d6 e2 h6 s0 f4 l6 m6 k5 e9 t4 p9 l0 m1 u6 v1 c3 a4 e4 n0 d5 j5 g4 f6 f7 t3 s9 r2 o4 i5 v5 q9 hM3=>?_) nw 0 (by omega) q2 (fun _ _=>false) [] _ _ _ _ _ _ _ _ _ _ _ _ _ _ _ _ _ _ _ _ _ _ _ _ _ _ _ _ _ _ _ _ _ _ _ _ _ _ _ _ _ _ _ _ _ _ _ _ _ _ _ _ _ _ _ _ _ _ _ _ _ _ _ _ _ _ _ _ _ _ _ _ _ _ _ _ _ _ _ _ _ _ _ _ _ _ _ _ _ _ _ _ _ _ _ _ _ _ _ _ _ _ _ _ _ _ _ _ _ _ _ _ _ _ _ _ _ _ _ _ _ _ _ _ _ _ _ _ _ _ _ _ _ _ _ _ _ _ _ _ _ _ _ _ _ _ _ _ _ _ _ _ _ _ _ _ _ _ _ _ _ _ _ _ _ _ _ _ _ _ _ _ _ _ _ _ _ _ _ _ _ _ _ _ _ _ _ _ _ _ _ _ _ _ _ _ _ _ _ _ _ _ _ _ _ _ _ _ _ _ _ _ _ _ _ HM.out;have HM3:=hide hM3;clear hM3 HM;refine qR.seq (qR.seq ?_);refine qR.hideK fun kk hkk=>?_;replace hkk:=hide hkk;refine qR.runV qJ (by kernel_rfl) fun τ d=>?_;go_wp2
 first|(refine Or.inl ⟨rfl,?_⟩;dsimp only;refine qR.re ?_ _ _)|refine qR.re ?_ _ _
 rw[hkk.out];clear hkk kk τ d;refine qR.block (qR.loop ?_);refine mix_l4 (Sh0:=Sh0) (pe:=pe) (B:=q2.heap.size) (mr:=mr) (m:=m) (S:=S) (gl:=gl) (cp:=cp) (hr:=hr) (hd:=hd) (l:=l3) (A:=A3) (st:=st) hm8 hmno HOk.out HS.out HSt.out (hide (by kernel_rfl)) (fun Sh4 q4 t5 t6 t7 t8 t9 x3 a6 i4 c4 x6 x4 d4 c2 p4 f1 s6 k8 b1 q7 j8 v8 l5 a2 v9 u0 o3 e3 f5 b9 t0 n1 r8 s4 i0 v7 g9 e5 u8 v2 x1 n3 n8 m8 h7 a7 l7 n9 m2 d7 s3 u2 h3 l8 s8 d1 o7 g5 l1 l9 w0 w9 p5 g7 n6 r9 m7 c0 n4 a1 a5 i6 n7 o9 g6 j2 k0 q8 h5 x2 g2 r4 o0 b2 k7 m5 v3 b0 p7 k6 u4 e0 v0 g3 s7 i8 d9 c9 b8 l2 n5 h0 j1 c6 b4 l4 v4 u3 i1 e1 e7 o1 c5 a9 o2 w8 h8 m0 r7 w7 w5 r3 r0 e6 b5 g1 j6 o5 u9 q6 h4 r6 p6 j0 u1 r1 h9 m4 j3 m3 w3 r5 d8 d2 i7 o8 a0 p3 x0 f2 f8 c8 u5 c7 d3 j9 i2 a3 f0 a8 j4 q5 w4 j7 i3 d0 v6 w6 b3 b6 c1 n2 q1 k9 i9 m9 f3 u7 p8 b7 e8 s5 g8 o6 d6 e2 h6 s0 f4 l6 m6 k5 e9 t4 p9 l0 m1 u6 v1 c3 a4 e4 n0 d5 j5 g4 f6 f7 t3 s9 r2 o4 i5 v5 q9 hM4=>?_) m 0 (by omega) Sh q3 _ _ _ _ _ _ _ _ _ _ _ _ _ _ _ _ _ _ _ _ _ _ _ _ _ _ _ _ _ _ _ _ _ _ _ _ _ _ _ _ _ _ _ _ _ _ _ _ _ _ _ _ _ _ _ _ _ _ _ _ _ _ _ _ _ _ _ _ _ _ _ _ _ _ _ _ _ _ _ _ _ _ _ _ _ _ _ _ _ _ _ _ _ _ _ _ _ _ _ _ _ _ _ _ _ _ _ _ _ _ _ _ _ _ _ _ _ _ _ _ _ _ _ _ _ _ _ _ _ _ _ _ _ _ _ _ _ _ _ _ _ _ _ _ _ _ _ _ _ _ _ _ _ _ _ _ _ _ _ _ _ _ _ _ _ _ _ _ _ _ _ _ _ _ _ _ _ _ _ _ _ _ _ _ _ _ _ _ _ _ _ _ _ _ _ _ _ _ _ _ _ _ _ _ _ _ _ _ _ _ _ _ _ _ HM3.out;have HAF:=hide hM4.af;clear hM4 HM3;refine qR.runV qJ (by kernel_rfl) fun τ d=>?_;go_wp2;intro todo;refine qR.re ?_ _ _;exact qR.here ⟨_,todo,rfl,rfl,HAF.out⟩
set_option linter.unusedSimpArgs false in
set_option maxRecDepth 100000 in
set_option maxHeartbeats 32000000 in
theorem mixed_bto0{Sh0:Nat->Prop}{pe:World}{co nw cw:Nat}{ao aw:Option Addr}{x y zz:Int}:
  qR Try.prog Sh0 (G ((base 9).at ⟨#[.slice ao 0 co,.int .i64 x,.int .i64 y,.int .i64 zz,.slice aw nw cw,undef,undef,undef,undef,undef,undef,undef,undef,undef,undef,undef,undef,undef,undef,undef,undef,undef,undef,undef,undef,undef,undef,undef,undef,undef,undef,undef,undef,undef,undef,undef,undef,undef,undef,undef,undef,undef,undef,undef,undef,undef,undef,undef,undef,undef,undef,undef,undef,undef,undef,undef,undef,undef,undef,undef,undef,undef,undef,undef,undef,undef,undef,undef,undef,undef,undef,undef,undef,undef,undef,undef,undef,undef,undef,undef,undef,undef,undef,undef,undef,undef,undef,undef,undef,undef,undef,undef,undef,undef,undef,undef,undef,undef,undef,undef,undef,undef,undef,undef,undef,undef,undef,undef,undef,undef,undef,undef,undef,undef,undef,undef,undef,undef,undef,undef,undef,undef,undef,undef,undef,undef,undef,undef,undef,undef,undef,undef,undef,undef,undef,undef,undef,undef,undef,undef,undef,undef,undef,undef,undef,undef,undef,undef,undef,undef,undef,undef,undef,undef,undef,undef,undef,undef,undef,undef,undef,undef,undef,undef,undef,undef,undef,undef,undef,undef,undef,undef,undef,undef,undef,undef,undef,undef,undef,undef,undef,undef,undef,undef,undef,undef,undef,undef,undef,undef,undef,undef,undef,undef,undef,undef,undef,undef,undef,undef,undef,undef,undef,undef,undef,undef,undef,undef,undef,undef,undef,undef,undef,undef,undef,undef,undef,undef,undef,undef,undef,undef,undef,undef,undef,undef],[]⟩ [.code (Try.f9.body.getD .skip)]) []) pe (MixEnd Sh0 pe):=by
 conv=>arg 3;simp only[Try.f9,Option.getD_some]
 refine qR.seq ?_;refine qR.hideK fun kk hkk=>?_;replace hkk:=hide hkk;refine qR.runV qJ (by kernel_rfl) fun τ d=>?_;go_wp2
 first|(refine Or.inl ⟨rfl,?_⟩;dsimp only;refine qR.re ?_ _ _)|refine qR.re ?_ _ _
 rw[hkk.out];clear hkk kk τ d;refine qR.seq (qR.hideK fun kk hkk=>?_);replace hkk:=hide hkk;refine qR.reg (todo:= [0,1]) rfl ?_;refine qR.callT rfl rfl (by decide) rfl Try.func26 rfl rfl (T':=#[undef,undef,undef,undef,undef,undef,undef,undef,undef,undef,undef,undef,undef,undef,undef,undef,undef,undef,undef,undef,undef,undef,undef,undef,undef,undef,undef,undef,undef,undef,undef,undef,undef,undef,undef,undef,undef,undef,undef,undef,undef,undef,undef]) (by simp only[List.map_toArray,List.map_nil,Array.empty_append,List.size_toArray,List.length_nil,Nat.sub_zero];rfl) ?_;refine listens_bto (o:=?o) ?ho (fun Sh p1 hA1=>?hend)
 case ho=>rfl
 case hend=>
 try walk_nrm
 refine qR.o qJ (by kernel_rfl) rfl rfl (fun τ d K hK=>?_);go_simp;refine hK _ _ ?_;clear hK;refine qR.re ?_ _ _;try walk_nrm
 refine qR.regEnd ?_;rw[hkk.out];clear hkk kk;refine qR.seq (qR.hideK fun kk hkk=>?_);replace hkk:=hide hkk;refine qR.reg (todo:= [0,1]) rfl ?_;refine qR.callsA qJ (by kernel_rfl) rfl rfl rfl Try.func27 rfl rfl (xs:=#[]) (by simp) (fun τ d=>?_);refine(new_walk (p1.re τ d)).mono ?_;rintro _ w2 ⟨rfl,hw2⟩;refine⟨_,rfl,?_⟩;rw[show(p1.re τ d).heap.size=p1.heap.size from rfl];refine qR.world (fun q=>Grw p1 q/\q.heap.size=p1.heap.size+2/\qS q (p1.heap.size+1) 91 [.map (some p1.heap.size)]/\q.heap[p1.heap.size]? =some (.map #[] 0)) ?_ fun p2 h2=>?_
 ·subst hw2;have hs:((p1.re τ d).alloc (.map #[] 0)).heap.size=p1.heap.size+1:=by rw[Go.Ren.size_alloc];rfl
  refine⟨(((Grw.refl p1).re τ d).alloc _).alloc _,by rw[Go.Ren.size_alloc,hs],?_,?_⟩
  ·have:=rowL_alloc ((p1.re τ d).alloc (.map #[] 0)) [.map (some p1.heap.size)] 91;rw[hs]at this;exact this
  ·rw[blk_alloc_lt _ _ _ (by rw[hs];omega)];exact blk_alloc_new (p1.re τ d) _
 obtain⟨h2,hs2,hlis2,hmap2⟩:=h2;clear hw2 w2 τ d;try walk_nrm
 refine qR.o qJ (by kernel_rfl) rfl rfl (fun τ d K hK=>?_);go_simp;refine hK _ _ ?_;clear hK;refine qR.re ?_ _ _;try walk_nrm
 refine qR.regEnd ?_;rw[hkk.out];clear hkk kk;have hA2:AfterT Sh0 Sh pe p2:=hA1.trans (AfterT.of_grw h2);have hpe1:pe.heap.size<=p1.heap.size:=hA1.grown;obtain⟨mr,hmre⟩:∃mr,mr=p1.heap.size:=⟨_,rfl⟩;rw[<-hmre]at hs2 hlis2 hmap2 hpe1⊢;clear hmre h2 hA1;have H1:=hide hs2;have H2:=hide hlis2;have H3:=hide hmap2;have H4:=hide hA2;have H5:=hide hpe1
 clear hs2 hlis2 hmap2 hA2 hpe1;refine qR.seq (qR.seq ?_);refine qR.hideK fun kk hkk=>?_;replace hkk:=hide hkk;refine qR.runV qJ (by kernel_rfl) fun τ d=>?_;go_wp2
 first|(refine Or.inl ⟨rfl,?_⟩;dsimp only;refine qR.re ?_ _ _)|refine qR.re ?_ _ _
 rw[hkk.out];clear hkk kk τ d;refine qR.no rfl (qR.skip ?_);refine qR.seq ?_;refine qR.hideK fun kk hkk=>?_;replace hkk:=hide hkk;refine qR.runV qJ (by kernel_rfl) fun τ d=>?_;go_wp2
 first|(refine Or.inl ⟨rfl,?_⟩;dsimp only;refine qR.re ?_ _ _)|refine qR.re ?_ _ _
 rw[hkk.out];clear hkk kk τ d;refine qR.seq ?_;refine qR.hideK fun kk hkk=>?_;replace hkk:=hide hkk;refine qR.runV qJ (by kernel_rfl) fun τ d=>?_;go_wp2
 first|(refine Or.inl ⟨rfl,?_⟩;dsimp only;refine qR.re ?_ _ _)|refine qR.re ?_ _ _
 rw[hkk.out];clear hkk kk τ d;refine qR.seq (qR.seq ?_);refine qR.hideK fun kk hkk=>?_;replace hkk:=hide hkk;refine qR.runV qJ (by kernel_rfl) fun τ d=>?_;go_wp2
 first|(refine Or.inl ⟨rfl,?_⟩;dsimp only;refine qR.re ?_ _ _)|refine qR.re ?_ _ _
 rw[hkk.out];clear hkk kk τ d;have HAF0:=hide (H4.out);clear H1 H2 H3 H4 H5;refine qR.block (qR.loop ?_);refine qR.seq (qR.seq ?_);refine qR.hideK fun kk hkk=>?_;replace hkk:=hide hkk;refine qR.runV qJ (by kernel_rfl) fun τ d=>?_;go_wp2
 first|(refine Or.inl ⟨rfl,?_⟩;dsimp only;refine qR.re ?_ _ _)|refine qR.re ?_ _ _
 rw[hkk.out];clear hkk kk τ d;refine qR.no (by first|rfl|simp[Act.eval]) ?_;refine qR.exit rfl ?_;obtain⟨i61,hi61,hz61,hs61,hb61⟩:=info_parts3 Try.infoBools;refine qR.seq (qR.hideK fun kk hkk=>?_);replace hkk:=hide hkk;refine qR.reg (todo:= [0,1,2,3]) rfl ?_;refine qR.o qJ (by kernel_rfl) rfl rfl (fun τ d K hK=>?_);go_simp;refine hK _ _ ?_;clear hK;refine qR.re ?_ _ _;try walk_nrm
 refine qR.o qJ (by kernel_rfl) rfl rfl (fun τ d K hK=>?_);go_simp;refine hK _ _ ?_;clear hK;refine qR.re ?_ _ _;try walk_nrm
 refine qR.make rfl rfl (by decide) (tm_act qJ (by kernel_rfl)) (l:=.tmp 86) (c:=.tmp 86) rfl (n:=0) Try.underlying60 hi61 hz61 hs61 rfl rfl rfl (by omega) (by omega) (fun qh hqh hsh hrow=>?_);try walk_nrm
 refine qR.o qJ (by kernel_rfl) rfl rfl (fun τ d K hK=>?_);go_simp;refine hK _ _ ?_;clear hK;refine qR.re ?_ _ _;try walk_nrm
 refine qR.regEnd ?_;rw[hkk.out];have HAF:=hide (HAF0.out.trans (AfterT.of_grw hqh));clear hkk kk hqh hsh hrow HAF0 hi61 hz61 hs61 hb61 i61;refine qR.seq (qR.seq ?_);refine qR.hideK fun kk hkk=>?_;replace hkk:=hide hkk;refine qR.runV qJ (by kernel_rfl) fun τ d=>?_;go_wp2
 first|(refine Or.inl ⟨rfl,?_⟩;dsimp only;refine qR.re ?_ _ _)|refine qR.re ?_ _ _
 rw[hkk.out];clear hkk kk τ d;refine qR.block (qR.loop ?_);refine qR.seq (qR.seq ?_);refine qR.hideK fun kk hkk=>?_;replace hkk:=hide hkk;refine qR.runV qJ (by kernel_rfl) fun τ d=>?_;go_wp2
 first|(refine Or.inl ⟨rfl,?_⟩;dsimp only;refine qR.re ?_ _ _)|refine qR.re ?_ _ _
 rw[hkk.out];clear hkk kk τ d;refine qR.no (by first|rfl|simp[Act.eval]) ?_;refine qR.exit rfl ?_;refine qR.seq (qR.seq ?_);refine qR.hideK fun kk hkk=>?_;replace hkk:=hide hkk;refine qR.runV qJ (by kernel_rfl) fun τ d=>?_;go_wp2
 first|(refine Or.inl ⟨rfl,?_⟩;dsimp only;refine qR.re ?_ _ _)|refine qR.re ?_ _ _
 rw[hkk.out];clear hkk kk τ d;refine qR.block (qR.loop ?_);refine qR.seq (qR.seq ?_);by_cases hnw:(0:Int)<(nw:Int)
 ·skip
  refine qR.hideK fun kk hkk=>?_;replace hkk:=hide hkk;refine qR.runV qJ (by kernel_rfl) fun τ d=>?_;go_wp2
  first|(refine Or.inl ⟨rfl,?_⟩;dsimp only;refine qR.re ?_ _ _)|refine qR.re ?_ _ _
  rw[hkk.out];clear hkk kk τ d;refine qR.no (by first|rfl|simp[Act.eval]) ?_;refine qR.exit rfl ?_;refine qR.seq (qR.seq ?_);refine qR.hideK fun kk hkk=>?_;replace hkk:=hide hkk;refine qR.runV qJ (by kernel_rfl) fun τ d=>?_;go_wp2
  first|(refine Or.inl ⟨rfl,?_⟩;dsimp only;refine qR.re ?_ _ _)|refine qR.re ?_ _ _
  rw[hkk.out];clear hkk kk τ d;refine qR.block (qR.loop ?_);refine qR.seq (qR.seq ?_);refine qR.hideK fun kk hkk=>?_;replace hkk:=hide hkk;refine qR.runV qJ (by kernel_rfl) fun τ d=>?_;go_wp2
  first|(refine Or.inl ⟨rfl,?_⟩;dsimp only;refine qR.re ?_ _ _)|refine qR.re ?_ _ _
  rw[hkk.out];clear hkk kk τ d;refine qR.no (by first|rfl|simp[Act.eval]) ?_;refine qR.exit rfl ?_;refine qR.runV qJ (by kernel_rfl) fun τ d=>?_;go_wp2;intro todo;refine qR.re ?_ _ _;exact qR.here ⟨_,todo,rfl,rfl,HAF.out⟩
 ·skip
  refine qR.hideK fun kk hkk=>?_;replace hkk:=hide hkk;refine qR.runV qJ (by kernel_rfl) fun τ d=>?_;go_wp2
  first|(refine Or.inl ⟨rfl,?_⟩;dsimp only;refine qR.re ?_ _ _)|refine qR.re ?_ _ _
  rw[hkk.out];clear hkk kk τ d;refine qR.no (by first|rfl|simp[Act.eval]) ?_;refine qR.exit rfl ?_;refine qR.seq (qR.seq ?_);refine qR.hideK fun kk hkk=>?_;replace hkk:=hide hkk;refine qR.runV qJ (by kernel_rfl) fun τ d=>?_;go_wp2
  first|(refine Or.inl ⟨rfl,?_⟩;dsimp only;refine qR.re ?_ _ _)|refine qR.re ?_ _ _
  rw[hkk.out];clear hkk kk τ d;refine qR.block (qR.loop ?_);refine qR.seq (qR.seq ?_);refine qR.hideK fun kk hkk=>?_;replace hkk:=hide hkk;refine qR.runV qJ (by kernel_rfl) fun τ d=>?_;go_wp2
  first|(refine Or.inl ⟨rfl,?_⟩;dsimp only;refine qR.re ?_ _ _)|refine qR.re ?_ _ _
  rw[hkk.out];clear hkk kk τ d;refine qR.no (by first|rfl|simp[Act.eval]) ?_;refine qR.exit rfl ?_;refine qR.runV qJ (by kernel_rfl) fun τ d=>?_;go_wp2;intro todo;refine qR.re ?_ _ _;exact qR.here ⟨_,todo,rfl,rfl,HAF.out⟩
end Go.Proofs.Ytmfpiodlecapiaa
namespace Go.Proofs.Ytmfpiodlecapiaa
open Go.Conc Go.ConcN Go.RowKit Go.Frag Go.Ren Go.Poi Go.Deep Go.Grp
theorem mixed_run{W:World}(hv:∀(b:Nat) o,W.heap[b]? =some o->okAt b o){g0:Goroutine}(hB:qR Try.prog (fun _=>False) g0 W (MixEnd (fun _=>False) W)):
  ∃M last o w' t',runNT Try.prog (M+1) (solo g0 W) #[]=(.ended o w',t')/\runN Try.prog M (solo g0 W)= .next last/\step Try.prog last= .ended o w'/\
   Conc.Good Try.prog (fun(v:Value) (w':World)=>v= .bool true/\w'.os=W.os/\w'.output=W.output/\∀b,b<W.heap.size->w'.heap[b]? =W.heap[b]?) last o w' t':=by
 have hSh:ShL (fun _=>False)=fun _=>False:=by
  funext l;cases l<;>rfl
 have hb0:Bst Try.prog (fun _=>False) g0 W #[g0] W #[] (fun _=>0):=
  ⟨rfl,⟨rfl,fun _ _=>rfl,fun _ x=>x.elim,hv,rfl,rfl,rfl,rfl⟩,leavers_one _ _,by rw[hSh];exact past_nil.mono (Nat.zero_le _)⟩
 obtain⟨N,Sh',g',p',gs',u',sl',t1,q',hr,hb,T,todo,rfl,hT10,hA⟩:=hB #[g0] W none #[] (fun _=>0) hb0;have hres:∀w,(results Try.f9 T).run Try.prog w= .ok (.bool true) w:=fun w=>by
  have e:T.getD 10 undef= .bool true:=by rw[Array.getD_eq_getD_getElem?,hT10];rfl
  have e':T[10]?.getD undef= .bool true:=by rw[hT10];rfl
  simp[results,Try.f9,e']
 have hev:∀w,(results Try.f9 T).events Try.prog w #[]=#[]:=fun w=>by
  simp[results,Try.f9]
 have hstep:∀w,stepG Try.prog true (Gr 9 T todo []) w= .ended (.done (.bool true)) w #[]:=fun w=>by
  simp[Gr,G,Frame.at,base,stepG,unwind,doReturn,Try.func9,hres,hev,seen_none];rfl
 have hrow:∀b,b<W.heap.size->u'.heap[b]? =W.heap[b]? :=fun b hbl=>by
  obtain⟨h1,h2⟩:=hA.old b hbl (fun h=>h);exact(hb.ps.same b h1).trans h2
 obtain⟨N2,last,o,w',t2,k1,k2,k3,k4⟩:=beside_ends (P:=Try.prog) (Shun:=ShL Sh') (B:=u'.heap.size) (D:=fun _ _ _=>False) (Post:=fun v w'=>v= .bool true/\w'.os=W.os/\w'.output=W.output/\∀b,b<W.heap.size->w'.heap[b]? =W.heap[b]?) (n:=0) (sl:=sl') (fun _ _ _ h=>h.elim) hb.zero hb.leave hb.past
  (Goes.stop fun w1 hw1=>by
   obtain⟨d,rfl⟩:=hw1;exact⟨rfl,.bool true,#[],hstep _,fun e he=>by simp at he,rfl,hb.ps.os.trans hA.os,hb.ps.output.trans hA.output,hrow⟩)
 have hr1:runN Try.prog N (solo g0 W)= .next (crowd gs' u' sl'):=by
  rw[<-runNT_fst _ _ _ #[]];show(runNT Try.prog N (crowd #[g0] W none) #[]).1=_;rw[hr]
 refine⟨N+N2,last,o,w',t2,?_,?_,k3,k4⟩
 ·rw[Nat.add_assoc,runNT_add];show(match runNT Try.prog N (crowd #[g0] W none) #[]with|(.next m',t)=>runNT Try.prog (N2+1) m' t|x=>x)=_;rw[hr];exact k1
 ·rw[runN_add,hr1];exact k2
end Go.Proofs.Ytmfpiodlecapiaa
