import Derived.Test.YtmfpiodlecapiaaGreatDoorJ28
set_option linter.unusedSimpArgs false
set_option maxHeartbeats 16000000
set_option maxRecDepth 100000
namespace Go.Proofs.YtmfpiodlecapiaaGreatDoor
open Go.Proofs.Tryz
section
open Go.Conc Go.ConcN Go.RowKit Go.bn Go.Ren Go.fE Go.Deep
attribute [local go_sem↓] Go.wp_at_zero Go.wp_at_succ
variable{q0 q q':World}{k lx mx ly my gl:Nat}{Fx Fy:Nat->Prop}{lX lY:List (Nat×Nat)}
structure TS(q0 q:World)(S:Oj)(id k lx mx ly my:Nat)(Fx Fy:Nat->Prop)(lX lY:List (Nat×Nat))(AX AY:Nat->OD):Prop where
 X:LG q Fx lx mx (S.rQ id k) lX AX
 Y:LG q Fy ly my [] lY AY
 dis:∀b,Fx b->¬Fy b
 fx:∀b,Fx b->q0.heap.size<=b
 fy:∀b,Fy b->q0.heap.size<=b
 g:dO q0 q
theorem TS.grw{S:Oj}{id:Nat}{AX AY:Nat->OD}(h:TS q0 q S id k lx mx ly my Fx Fy lX lY AX AY)(hg:dO q q'):TS q0 q' S id k lx mx ly my Fx Fy lX lY AX AY:=
 ⟨h.X.same fun b hb=>hg.row b (h.X.lt b hb),h.Y.same fun b hb=>hg.row b (h.Y.lt b hb),h.dis,h.fx,h.fy,h.g.trans hg⟩
theorem TS.hear{S:Oj}{id:Nat}{F':Nat->Prop}{l':List (Nat×Nat)}{AX AY A':Nat->OD}(h:TS q0 q S id k lx mx ly my Fx Fy lX lY AX AY){k':Nat}(hL:LG q' F' lx mx (S.rQ id k') l' A')(hF:∀b,F' b->Fx b\/q.heap.size<=b)(hs:q.heap.size<=q'.heap.size)(hb:∀b,b<q.heap.size->¬Fx b->q'.heap[b]? =q.heap[b]?)(ho:q'.os=q.os)(hu:q'.output=q.output):TS q0 q' S id k' lx mx ly my F' Fy l' lY A' AY:=by
 have hq:=h.g.size;refine⟨hL,h.Y.same fun b cU=>hb b (h.Y.lt b cU) (fun hx=>h.dis b hx cU),fun b h1 h2=>?_,fun b h1=>?_,h.fy,⟨by omega,fun b h1=>?_,ho.trans h.g.os,hu.trans h.g.output⟩⟩
 .rcases hF b h1 with h3|h3
  .exact h.dis b h3 h2
  .have:=h.Y.lt b h2;omega
 .rcases hF b h1 with h3|h3
  .exact h.fx b h3
  .omega
 .rw[hb b (by omega) (fun h3=>by have:=h.fx b h3;omega),h.g.row b h1]
theorem fF.grw{w w':World}{T c:Nat}{cur:List Value}{ps:List (List Nat)}(h:fF w gl T c cur ps)(hg:dO w w'):fF w' gl T c cur ps:=
 ⟨h.row.of_block (hg.row _ h.row.lt),h.len,fun q bs hq=>by obtain⟨g,h1,h2⟩:=h.at_ q bs hq;exact⟨g,h1,h2.of_block (hg.row _ h2.lt)⟩⟩
theorem V4{all:ByteArray}{ds:List (List Nat)}{d:List Nat}(h:all=⟨(A_ ds).toArray⟩):all++⟨#[32]⟩++strOf (Tx.dh d)++⟨#[32,10]⟩=⟨(A_ (ds++ [d])).toArray⟩:=by
 subst h;apply ByteArray.ext;rw[ByteArray.data_append,ByteArray.data_append,ByteArray.data_append,tL];apply Array.ext';rw[RJ];simp[lV]
theorem SQ{vX Sh:Nat->Prop}{pe:World}{S:Oj}{id cl:Nat}{cur:List Value}{m:Int}(ok:S.Ok)(hid:id<65536)(rS:bQ vX Sh pe q0)(hP:fF q0 gl S.T (10+S.sz) cur (Pk.packets id S.obj S.sz S.ms S.V))(eW:Alpha q0)(hm:q0.cell? ⟨1,0,none⟩=some (.int .i64 m)){cc:Code}{ks:List Item}(hc:Hid (cc=eO [1,1,1,1,1,1,1,1,1,1,1,1,1,1,1,1,1,1,1,1,1,0,1,0,0] (Tryz.f5.body.getD .skip)))(te:Hid (ks= [.code (eO [1,1,1,1,1,1,1,1,1,1,1,1,1,1,1,1,1,1,1,1,1,1] (Tryz.f5.body.getD .skip))])):
  ∀(r k:Nat) (q:World) (Fx Fy:Nat->Prop) (lX lY:List (Nat×Nat)) (AX AY:Nat->OD) (all:ByteArray),k+r=min S.T 20->Hid (all=⟨(A_ ((Pk.packets id S.obj S.sz S.ms S.V).take k)).toArray⟩)->all.size<=1000*k->TS q0 q S id k lx mx ly my Fx Fy lX lY AX AY->
  ∀{t0 t1 t2 t3 t4 t5 t6 t7 t8 t9 x7 s8 v1 q6 F4 F5 F6 v8 C2 G1 G0 n5 a9 z7 F9 F7 a3 e8 y0 A6 p3 l6 E7 k9 C3 y1 s6 F0 u5 m5 c8 l5 B7 a6 a7 a2 B9 s9 d7 y4 C4 c9 D2 v2 w0 k4 E6 q8 d0 p5 d3 B2 g4 z4 f2 y7 m0 b0 A7 g9 u7 c3 p9 E0 e9 D1 l1 n3 d1 s0 B5 E9 g5 j4 j8 q7 d4 E1 r6 u4 k5 d6 u9 w4 m9 o5 o8 D6 B3 D7 i2 p6 B4 v0 j7 b4 b9 w2 A8 i9 l7 n9 l8 E4 w3 w8 r4 D4 D0 l9 C5 A3 r5 n6 k6 g6 p4 x3 p7 B1 o0 w5 b5 A1 c7 d5 r7 m8 s7 y2 y3 a5 c4 l0 f8 x5 l3 j1 a4 B6 v3 C8 A5 F3 d2 a8 q9 j9 o4 d9 u1 z5 C0 p8 b1 x1 n8 j5 s5 m1 m2 n0 c6 A9 E2 q5 j2 w6 b3 n2 u2 i4 o3 e6 w9 m3 f9 z9 x8 f3 x2 i6 F1 C6 o9 v9 g2 C9 y5 y8 u6 o6 q3 g8 g7 b7 f7 b2 i8 b8 u3 z3 i5 d8 i7 y6 u0 q4 g0 k8 s4 w7 e7 D3 c5 i3 f0 o2 v6 s1 v7 E3 z6 j6 x4 D8 m7 f6 m6 C7 g1 s3 b6 k7 y9 l4 k3 A0 v4 j3 r8 n7 f4 A4 f1 o7 g3 m4 B0 B8 E5 x9 E8 v5 D5 n4 j0 C1 r9 e0 p0 x6 z8 D9 n1:Value},aj prog Sh (G ((base 5).at ⟨#[t0,t1,t2,t3,t4,t5,t6,t7,t8,t9,x7,s8,v1,q6,.bool false,F4,F5,F6,.slice (some ⟨gl,0,none⟩) S.T cl,v8,C2,G1,G0,n5,a9,z7,F9,F7,a3,.pointer (some ⟨lx,0,none⟩),.pointer (some ⟨ly,0,none⟩),.string all,.int .i64 (k:Nat),e8,y0,A6,p3,l6,E7,k9,C3,y1,s6,F0,u5,m5,c8,l5,B7,a6,a7,a2,B9,s9,d7,y4,C4,c9,D2,v2,w0,k4,E6,q8,d0,p5,d3,B2,g4,z4,f2,y7,m0,b0,A7,g9,u7,c3,p9,E0,e9,D1,l1,n3,d1,s0,B5,E9,g5,j4,j8,q7,d4,E1,r6,u4,k5,d6,u9,w4,m9,o5,o8,D6,B3,D7,i2,p6,B4,v0,j7,b4,b9,w2,A8,i9,l7,n9,l8,E4,w3,w8,r4,D4,D0,l9,C5,A3,r5,n6,k6,g6,p4,x3,p7,B1,o0,w5,b5,A1,c7,d5,r7,m8,s7,y2,y3,a5,c4,l0,f8,x5,l3,j1,a4,B6,v3,C8,A5,F3,d2,a8,q9,j9,o4,d9,u1,z5,C0,p8,b1,x1,n8,j5,s5,m1,m2,n0,c6,A9,E2,q5,j2,w6,b3,n2,u2,i4,o3,e6,w9,m3,f9,z9,x8,f3,x2,i6,F1,C6,o9,v9,g2,C9,y5,y8,u6,o6,q3,g8,g7,b7,f7,b2,i8,b8,u3,z3,i5,d8,i7,y6,u0,q4,g0,k8,s4,w7,e7,D3,c5,i3,f0,o2,v6,s1,v7,E3,z6,j6,x4,D8,m7,f6,m6,C7,g1,s3,b6,k7,y9,l4,k3,A0,v4,j3,r8,n7,f4,A4,f1,o7,g3,m4,B0,B8,E5,x9,E8,v5,D5,n4,j0,C1,r9,e0,p0,x6,z8,D9,n1],[]⟩ (.code cc:: .inLoop cc:: .inBlock 2::ks)) []) q (mO vX pe):=by
 have hTp:=ok.Zj;have hTl:=ok.T_le;intro r;induction r with
 |zero=>
  intro k q Fx Fy lX lY AX AY all hk cG QS hT;intros;have HT:=hide hT;have It:=hide rS;have WQ:=hide eW;have HM:=hide hm
  clear hT rS eW hm hP;have fin:∀{t0 t1 t2 t3 t4 t5 t6 t7 t8 t9 x7 s8 v1 q6 F4 F5 F6 v8 C2 G1 G0 n5 a9 z7 F9 F7 a3 F8 e8 y0 A6 p3 l6 E7 k9 C3 y1 s6 F0 u5 m5 c8 l5 B7 a6 a7 a2 B9 s9 d7 y4 C4 c9 D2 v2 w0 k4 E6 q8 d0 p5 d3 B2 g4 z4 f2 y7 m0 b0 A7 g9 u7 c3 p9 E0 e9 D1 l1 n3 d1 s0 B5 E9 g5 j4 j8 q7 d4 E1 r6 u4 k5 d6 u9 w4 m9 o5 o8 D6 B3 D7 i2 p6 B4 v0 j7 b4 b9 w2 A8 i9 l7 n9 l8 E4 w3 w8 r4 D4 D0 l9 C5 A3 r5 n6 k6 g6 p4 x3 p7 B1 o0 w5 b5 A1 c7 d5 r7 m8 s7 y2 y3 a5 c4 l0 f8 x5 l3 j1 a4 B6 v3 C8 A5 F3 d2 a8 q9 j9 o4 d9 u1 z5 C0 p8 b1 x1 n8 j5 s5 m1 m2 n0 c6 A9 E2 q5 j2 w6 b3 n2 u2 i4 o3 e6 w9 m3 f9 z9 x8 f3 x2 i6 F1 C6 o9 v9 g2 C9 y5 y8 u6 o6 q3 g8 g7 b7 f7 b2 i8 b8 u3 z3 i5 d8 i7 y6 u0 q4 g0 k8 s4 w7 e7 D3 c5 i3 f0 o2 v6 s1 v7 E3 z6 j6 x4 D8 m7 f6 m6 C7 g1 s3 b6 k7 y9 l4 k3 A0 v4 j3 r8 n7 f4 A4 f1 o7 g3 m4 B0 B8 E5 x9 E8 v5 D5 n4 j0 C1 r9 e0 p0 x6 z8 D9 n1:Value},aj prog Sh (G ((base 5).at ⟨#[t0,t1,t2,t3,t4,t5,t6,t7,t8,t9,x7,s8,v1,q6,.bool false,F4,F5,F6,.slice (some ⟨gl,0,none⟩) S.T cl,v8,C2,G1,G0,n5,a9,z7,F9,F7,a3,.pointer (some ⟨lx,0,none⟩),.pointer (some ⟨ly,0,none⟩),.string all,F8,e8,y0,A6,p3,l6,E7,k9,C3,y1,s6,F0,u5,m5,c8,l5,B7,a6,a7,a2,B9,s9,d7,y4,C4,c9,D2,v2,w0,k4,E6,q8,d0,p5,d3,B2,g4,z4,f2,y7,m0,b0,A7,g9,u7,c3,p9,E0,e9,D1,l1,n3,d1,s0,B5,E9,g5,j4,j8,q7,d4,E1,r6,u4,k5,d6,u9,w4,m9,o5,o8,D6,B3,D7,i2,p6,B4,v0,j7,b4,b9,w2,A8,i9,l7,n9,l8,E4,w3,w8,r4,D4,D0,l9,C5,A3,r5,n6,k6,g6,p4,x3,p7,B1,o0,w5,b5,A1,c7,d5,r7,m8,s7,y2,y3,a5,c4,l0,f8,x5,l3,j1,a4,B6,v3,C8,A5,F3,d2,a8,q9,j9,o4,d9,u1,z5,C0,p8,b1,x1,n8,j5,s5,m1,m2,n0,c6,A9,E2,q5,j2,w6,b3,n2,u2,i4,o3,e6,w9,m3,f9,z9,x8,f3,x2,i6,F1,C6,o9,v9,g2,C9,y5,y8,u6,o6,q3,g8,g7,b7,f7,b2,i8,b8,u3,z3,i5,d8,i7,y6,u0,q4,g0,k8,s4,w7,e7,D3,c5,i3,f0,o2,v6,s1,v7,E3,z6,j6,x4,D8,m7,f6,m6,C7,g1,s3,b6,k7,y9,l4,k3,A0,v4,j3,r8,n7,f4,A4,f1,o7,g3,m4,B0,B8,E5,x9,E8,v5,D5,n4,j0,C1,r9,e0,p0,x6,z8,D9,n1],[]⟩ [.code (eO [1,1,1,1,1,1,1,1,1,1,1,1,1,1,1,1,1,1,1,1,1,1] (Tryz.f5.body.getD .skip))]) []) q (mO vX pe):=by
   intros;have AN:k=min S.T 20:=by omega
   have cg:S.rQ id k= [(id,S.qg k)]:=if_neg (by omega);have hX:=HT.out.X;rw[cg]at hX;have cC:all.size<=100000000:=by omega
   have hal3:all.data.toList=A_ ((Pk.packets id S.obj S.sz S.ms S.V).take k):=by rw[cG.out]
   refine SN hX HT.out.Y HT.out.dis (fun i hi=>HT.out.g.cell (WQ.out i hi)) (fun h0=>?_) (HT.out.g.cell HM.out) cC (n:=k) ?_ AN (by omega) (fun b hb=>Nat.le_trans It.out.grown (HT.out.fy b hb)) (It.out.trans (bQ.pO HT.out.g)) 
   .have:=HT.out.fy 0 h0;have:=WQ.out.size;omega
   .rw[hal3,Dv];have:=ok.Ip hid k 0 0 (by omega);rw[List.drop_zero,Nat.zero_add]at this;rw[<-cg];exact this
  have HF:=@hide _ @fin;clear fin;refine aj.YI hc.out ?_;conv=>arg 3;simp only[Tryz.f5,Option.getD_some,eO]
  refine aj.seq (aj.seq ?_);have qT:¬((k:Int)<(S.T:Int)/\(k:Int)<20):=by omega
  refine aj.bB fun kk ae=>?_;replace ae:=hide ae;by_cases h1:(k:Int)<(S.T:Int)
  .have h2:¬(k:Int)<20:=by omega
   refine aj.bW ak fun τ d=>?_;go_wp2
   first|(refine Or.inl ⟨rfl,?_⟩;dsimp only)|skip
   refine aj.re ?_ _ _;rw[ae.out];clear ae kk τ d;refine aj.no rfl (aj.exit rfl ?_);rw[te.out];exact HF.out 
  .refine aj.bW ak fun τ d=>?_;go_wp2
   first|(refine Or.inl ⟨rfl,?_⟩;dsimp only)|skip
   refine aj.re ?_ _ _;rw[ae.out];clear ae kk τ d;refine aj.no rfl (aj.exit rfl ?_);rw[te.out];exact HF.out 
 |succ r ih=>
  intro k q Fx Fy lX lY AX AY all hk cG QS hT;intros;have Wl:=hide ih;clear ih;obtain⟨z,n,hz,hn,e⟩:=S.split (show k<S.T by omega);have ha:=ok.r_ (id:=id) hz hn;rw[<-e]at ha;have hp:=ok.pX (id:=id) hz hn;have hd:=ok.LK (id:=id) hid hz hn;have hlen:=ok.rZ (id:=id) (n:=n) hz;have fL:=ok.DJ (id:=id) hz hn e;have Ty:=hP.grw hT.g;obtain⟨gk,bw,cj⟩:=Ty.at_ k _ ha;have jz:=Ty.row.cell k _ bw;have Kc:gk<q0.heap.size:=by
   obtain⟨g',h1,h2⟩:=hP.at_ k _ ha;rw[bw]at h1;simp only[Option.some.injEq,uj,Value.slice.injEq,Addr.mk.injEq]at h1;rw[h1.1.1];exact h2.lt
  have sC:(Pk.packets id S.obj S.sz S.ms S.V).take (k+1)=(Pk.packets id S.obj S.sz S.ms S.V).take k++ [S.pkt id z n]:=by rw[List.take_add_one,ha];rfl
  have QT:=hide (V4 (d:=S.pkt id z n) cG.out);rw[<-sC]at QT;obtain⟨pk,gr⟩:∃pk,pk=S.pkt id z n:=⟨_,rfl⟩;rw[<-gr]at hp hd hlen fL cj QT;have cF:∀(w:World),dO q w->∀j,j<10+S.sz->w.cell? ⟨gk,j,none⟩=some (.int .u8 ((pk[j]?.getD 0:Nat):Int)):=fun w hw j hj=>hw.cell (cj.cell j _ (by
   unfold bO;rw[List.getElem?_map,List.getElem?_eq_getElem (by omega)];rfl))
  have Yn:10+S.sz<=26:=by have:=ok.s2;omega
  obtain⟨c,di⟩:∃c,c=10+S.sz:=⟨_,rfl⟩;rw[<-di]at cF hlen jz Yn;have jz:q.cell? ⟨gl,k,none⟩=some (.slice (some ⟨gk,0,none⟩) c c):=by rw[jz,di];rfl
  have HT:=hide hT;have It:=hide rS;have WQ:=hide eW;have HM:=hide hm;have HP:=hide hP;have Wq:=hide cF;have Hp:=hide hp;have Hd:=hide hd;have fj:=hide hlen;have HN:=hide fL;have Hg0:=hide Kc;have Co:=hide jz
  clear hT rS eW hm hP cF hp hd hlen fL Kc gr di cj bw Ty ha sC jz e hz hn;have k0:(0:Int)<=(k:Int):=by omega
  have k1:(k:Int)<(S.T:Int):=by omega
  have k2:(k:Int)<20:=by omega
  refine aj.YI hc.out ?_;conv=>arg 3;simp only[Tryz.f5,Option.getD_some,eO]
  refine aj.seq (aj.seq ?_);refine aj.bB fun kk ae=>?_;replace ae:=hide ae;refine aj.bW ak fun τ d=>?_;go_wp2
  first|(refine Or.inl ⟨rfl,?_⟩;dsimp only)|skip
  refine aj.re ?_ _ _;rw[ae.out];clear ae kk τ d;refine aj.yes rfl (aj.skip (aj.seq (aj.block (aj.seq ?_))));refine aj.bB fun kk ae=>?_;replace ae:=hide ae;refine aj.reg (todo:= [0,1,2,3,4,5,6,7,8,9]) rfl ?_;refine aj.ow ak fun τ d K hK=>?_;go_simp;refine hK _ _ (aj.re ?_ _ _);clear hK τ d;try walk_nrm
  iterate 2 (refine aj.ow ak fun τ d K hK=>?_;go_simp;refine hK _ _ (aj.re ?_ _ _);clear hK τ d;try walk_nrm)
  refine aj.ow ak fun τ d K hK=>?_;have q1:(q.re τ d).cell? ⟨gl,k,none⟩=some (.slice (some ⟨gk,0,none⟩) c c):=Co.out;go_simp;refine hK _ _ (aj.re ?_ _ _);clear hK q1 τ d;try walk_nrm
  refine aj.fB rfl rfl (by decide) rfl func18 rfl rfl (T':=#[.slice (some ⟨gk,0,none⟩) c c,undef,undef,undef,undef,undef,undef,undef,undef]) (by simp[Act.eval,f18]) ?_;refine Hf (o:=?o1) ?gx (dl:=pk) fj.out (by omega) Hd.out (fun i hi=>HT.out.g.cell (WQ.out i hi)) (fun j hj=>by rw[Nat.zero_add];exact Wq.out q (dO.refl q) j hj) (fun w1 dm=>jF gk 0 c c pk w1 ⟨fj.out,Hd.out,fun _=>⟨gk,0,rfl,fun j hj=>?_⟩⟩ (Nat.le_refl _) Hp.out) (fun p1 c_=>?_)
  case gx=>rfl
  .rw[Nat.zero_add];have h5:=Wq.out q (dO.refl q) j hj;exact dz h5 (dm gk (bR h5))
  obtain⟨tx,CN⟩:∃tx,tx=strOf (Tx.dh pk):=⟨_,rfl⟩;have Ml:tx.size<=900:=by
   have h1:=Tx.lu pk ((8*pk.length+5)/6);have h2:tx.size=(Tx.dh pk).length:=by rw[CN,tL];simp[ByteArray.size]
   have h3:(Tx.dh pk).length<=2*((8*pk.length+5)/6):=h1;rw[fj.out]at h3;omega
  rw[<-CN]at QT⊢;clear CN;have cJ:(all++⟨#[32]⟩).size=all.size+1:=by rw[ByteArray.size_append];rfl
  have cW:(all++⟨#[32]⟩++tx).size=all.size+1+tx.size:=by rw[ByteArray.size_append,cJ]
  have tB:(all++⟨#[32]⟩++tx++⟨#[32,10]⟩).size=all.size+1+tx.size+2:=by rw[ByteArray.size_append,cW];rfl
  have sA:(⟨#[32]⟩:ByteArray).size=1:=rfl;have sx:(⟨#[32,10]⟩:ByteArray).size=2:=rfl;have Ck:Hid (∀w,(Op.stringOp .add all ⟨#[32]⟩).run prog w= .ok (.string (all++⟨#[32]⟩)) w):=fun w=>run_string_add_sum w _ _ (by omega);have HS2:Hid (∀w,(Op.stringOp .add (all++⟨#[32]⟩) tx).run prog w= .ok (.string (all++⟨#[32]⟩++tx)) w):=fun w=>run_string_add_sum w _ _ (by omega);have HS3:Hid (∀w,(Op.stringOp .add (all++⟨#[32]⟩++tx) ⟨#[32,10]⟩).run prog w= .ok (.string (all++⟨#[32]⟩++tx++⟨#[32,10]⟩)) w):=fun w=>run_string_add_sum w _ _ (by omega);replace tB:=hide tB;clear cJ cW sA sx;have Ch:=hide (HT.out.grw c_);have Lf:Hid (p1.cell? ⟨gl,k,none⟩=some (.slice (some ⟨gk,0,none⟩) c c)):=c_.cell Co.out;have Lb:Hid (∀j,j<c->p1.cell? ⟨gk,j,none⟩=some (.int .u8 ((pk[j]?.getD 0:Nat):Int))):=fun j hj=>Wq.out p1 c_ j hj;clear c_ HT Co Wq;try walk_nrm
  iterate 5 (refine aj.ow ak fun τ d K hK=>?_;go_simp;refine hK _ _ (aj.re ?_ _ _);clear hK τ d;try walk_nrm)
  refine aj.aJ ?_;rw[ae.out];clear ae kk;have HW:Hid (∀τ d,Calls prog 20 #[.pointer (some ⟨lx,0,none⟩),.slice (some ⟨p1.heap.size,0,none⟩) 1 1] ((p1.re τ d).alloc (.cells #[.slice (some ⟨gk,0,none⟩) c c] 28)) fun e w'=>e= .returned (.tuple #[.int .i64 1,.int .i64 0])/\gF Fx ((p1.re τ d).alloc (.cells #[.slice (some ⟨gk,0,none⟩) c c] 28)) w' lx mx (S.rQ id (k+1))):=by
   intro τ d;have hs:(p1.re τ d).heap.size=p1.heap.size:=rfl;have hb:Below p1.heap.size (p1.re τ d) ((p1.re τ d).alloc (.cells #[.slice (some ⟨gk,0,none⟩) c c] 28)):=(show Below (p1.re τ d).heap.size (p1.re τ d) _ from(Below.refl _ _).alloc (Nat.le_refl _) _);have hL:=((Ch.out.X.re τ d).later hb);have hg:=Hg0.out;have hq:=Ch.out.g.size;have hw:=vK hL (X:=fun b=>b=gk\/b=p1.heap.size) (pa:=some ⟨p1.heap.size,0,none⟩) (L:= [pk]) (np:=1) (g_:=1) ⟨fun i pk' hi=>?_⟩ (fun b cU=>⟨fun hF=>?_,?_⟩) rfl (by decide)
   .rw[bC.uI,HN.out]at hw;exact hw
   .cases i with
    |succ i=>simp at hi
    |zero=>
     simp only[List.getElem?_cons_zero,Option.some.injEq]at hi;subst hi;refine⟨p1.heap.size,0,some ⟨gk,0,none⟩,c,rfl,.inr rfl,?_,by rw[fj.out];exact Nat.le_refl _,Hd.out,fun _=>⟨gk,0,rfl,.inl rfl,fun j hj=>?_⟩⟩
     .rw[fj.out];exact bU (p1.re τ d) _ _ _ _ _ rfl
     .rw[Nat.zero_add];have h5:=Lb.out j (by rw[fj.out]at hj;exact hj);exact dz h5 (hb.block gk (by omega))
   .rcases cU with e1|e1
    .have:=Ch.out.fx b hF;omega
    .have:=Ch.out.X.lt b hF;omega
   .have cC:((p1.re τ d).alloc (.cells #[.slice (some ⟨gk,0,none⟩) c c] 28)).heap.size=p1.heap.size+1:=by rw[Go.Ren.size_alloc];rfl
    rw[cC];rcases cU with e1|e1<;>omega
  refine aj.seq ?_;refine aj.bB fun kk ae=>?_;replace ae:=hide ae;refine aj.reg (todo:= [0,1,2,3,4,5,6,7,8,9,10,11]) rfl ?_;refine aj.ow ak fun τ d K hK=>?_;go_simp;refine hK _ _ (aj.re ?_ _ _);clear hK τ d;try walk_nrm
  iterate 3 (refine aj.ow ak fun τ d K hK=>?_;go_simp;refine hK _ _ (aj.re ?_ _ _);clear hK τ d;try walk_nrm)
  refine aj.ow ak fun τ d K hK=>?_;have q1:(p1.re τ d).cell? ⟨gl,k,none⟩=some (.slice (some ⟨gk,0,none⟩) c c):=Lf.out;go_simp;refine hK _ _ (aj.re ?_ _ _);clear hK q1 τ d;try walk_nrm
  refine aj.ow ak fun τ d K hK=>?_;go_simp;refine hK _ _ ?_;clear hK;rw[show(p1.re τ d).heap.size=p1.heap.size from rfl];refine aj.re (p:=p1.alloc (.cells #[.slice (some ⟨gk,0,none⟩) c c] 28)) ?_ τ d;clear τ d;try walk_nrm
  refine aj.j_ ak (by kernel_rfl) rfl rfl rfl func20 rfl rfl (xs:=#[.pointer (some ⟨lx,0,none⟩),.slice (some ⟨p1.heap.size,0,none⟩) 1 1]) (by simp[Act.eval]) fun τ d=>?_;refine(HW.out τ d).mono ?_;rintro _ p2 ⟨rfl,F2,l2,A2,ki,OR,ss⟩;replace ki:=hide ki;replace OR:=hide OR;replace ss:=hide ss;refine⟨_,rfl,?_⟩;have cC:((p1.re τ d).alloc (.cells #[.slice (some ⟨gk,0,none⟩) c c] 28)).heap.size=p1.heap.size+1:=by rw[Go.Ren.size_alloc];rfl
  have HT2:Hid (TS q0 p2 S id (k+1) lx mx ly my F2 Fy l2 lY A2 AY):=by
   have h1:=ss.out.size;rw[cC]at h1;refine Ch.out.hear ki.out (fun b hb=>(OR.out b hb).imp (fun h=>h) (fun h=>by rw[cC]at h;omega)) (by omega) (fun b hb hF=>?_) ss.out.os ss.out.output;have h2:p2.heap[b]? =((p1.re τ d).alloc (.cells #[.slice (some ⟨gk,0,none⟩) c c] 28)).heap[b]? :=ss.out.block b (by rw[cC];omega) hF;rw[h2];exact blk_alloc_lt (p1.re τ d) _ _ hb
  clear cC ki OR ss Ch HW Lf Lb τ d;try walk_nrm
  iterate 5 (refine aj.ow ak fun τ d K hK=>?_;go_simp;refine hK _ _ (aj.re ?_ _ _);clear hK τ d;try walk_nrm)
  refine aj.aJ ?_;rw[ae.out];clear ae kk;refine aj.seq ?_;refine aj.bB fun kk ae=>?_;replace ae:=hide ae;refine aj.bW ak fun τ d=>?_;go_wp2
  first|(refine Or.inl ⟨rfl,?_⟩;dsimp only)|skip
  refine aj.re ?_ _ _;rw[ae.out];clear ae kk τ d;refine aj.bB fun kk ae=>?_;replace ae:=hide ae;refine aj.reg (todo:= [0,1,2,3,4,5]) rfl ?_;refine aj.ow ak fun τ d K hK=>?_;go_simp;refine hK _ _ (aj.re ?_ _ _);clear hK τ d;try walk_nrm
  refine aj.ow ak fun τ d K hK=>?_;have q1:=Ck.out;go_simp;refine hK _ _ (aj.re ?_ _ _);clear hK q1 τ d;try walk_nrm
  refine aj.ow ak fun τ d K hK=>?_;go_simp;refine hK _ _ (aj.re ?_ _ _);clear hK τ d;try walk_nrm
  refine aj.ow ak fun τ d K hK=>?_;have q1:=HS2.out;go_simp;refine hK _ _ (aj.re ?_ _ _);clear hK q1 τ d;try walk_nrm
  refine aj.ow ak fun τ d K hK=>?_;have q1:=HS3.out;go_simp;refine hK _ _ (aj.re ?_ _ _);clear hK q1 τ d;try walk_nrm
  refine aj.ow ak fun τ d K hK=>?_;go_simp;refine hK _ _ (aj.re ?_ _ _);clear hK τ d;try walk_nrm
  refine aj.aJ ?_;rw[ae.out];clear ae kk Ck HS2 HS3;refine aj.inBlock ?_;refine aj.bB fun kk ae=>?_;replace ae:=hide ae;refine aj.bW ak fun τ d=>?_;go_wp2
  first|(refine Or.inl ⟨rfl,?_⟩;dsimp only)|skip
  refine aj.re ?_ _ _;rw[ae.out];clear ae kk τ d;refine aj.inLoop ?_;exact Wl.out (k+1) p2 F2 Fy l2 lY A2 AY _ (by omega) QT.out (by rw[tB.out];omega) HT2.out 
end
section
open Go.RowKit Go.Deep
variable{j n i v nb cb:Nat}{b s:List Nat}{t:ByteArray}{vX:Nat->Prop}{pe:World}{ab:Option Addr}
def Gone(xs:List Nat)(i:Nat)(s:List Nat):Prop:=∃ps:List (List Nat×Nat),(∀p∈ps,Tx.Blank p.1)/\ps.length<=xs.length/\ps.map Prod.snd=xs.take ps.length/\
 ((i=((xs.take ps.length).flatMap Tx.dM).length/\s=Tx.spread ps [])\/
  (∃b n,Tx.Blank b/\xs[ps.length]? =some n/\52<=n/\i=((xs.take ps.length).flatMap Tx.dM).length+1/\s=Tx.spread ps []++b++ [206]))
theorem Q8(xs:List Nat):Gone xs 0 []:=⟨[],by simp,by simp,by simp,.inl ⟨rfl,rfl⟩⟩
theorem qx{xs:List Nat}(h:xs[j]? =some n)(o:Nat)(ho:o<(Tx.dM n).length):(xs.flatMap Tx.dM)[((xs.take j).flatMap Tx.dM).length+o]? =(Tx.dM n)[o]? :=by
 have hj:j<xs.length:=(List.getElem?_eq_some_iff.1 h).1;have e:xs=xs.take j++n::xs.drop (j+1):=by
  rw[List.getElem?_eq_getElem hj]at h;rw[<-Option.some.inj h,List.getElem_cons_drop,List.take_append_drop]
 conv=>lhs;arg 1;rw[e]
 rw[List.flatMap_append,List.flatMap_cons,List.getElem?_append_right (by omega),Nat.add_sub_cancel_left,List.getElem?_append_left ho]
theorem Da{xs:List Nat}(h:xs[j]? =some n):xs.take (j+1)=xs.take j++ [n]:=by rw[List.take_add_one,h];rfl
theorem I_(h:n<52):∃x,Tx.dM n= [x]/\x<128:=by
 unfold Tx.dM;split
 iterate 2 (·exact⟨_,rfl,by omega⟩)
theorem pW(h:52<=n):Tx.dM n= [206,125+n]:=by
 unfold Tx.dM;rw[if_neg (by omega),if_neg (by omega)]
theorem DR{xs:List Nat}{ps:List (List Nat×Nat)}(h1:∀p∈ps,Tx.Blank p.1)(h2:ps.map Prod.snd=xs.take ps.length)(hb:Tx.Blank b)(hn:xs[ps.length]? =some n):Gone xs (((xs.take ps.length).flatMap Tx.dM).length+(Tx.dM n).length) (Tx.spread ps []++b++Tx.dM n):=by
 have hj:ps.length<xs.length:=(List.getElem?_eq_some_iff.1 hn).1;refine⟨ps++ [(b,n)],fun p hp=>?_,by simp;omega,?_,.inl ⟨?_,?_⟩⟩
 .rcases List.mem_append.1 hp with h|h
  .exact h1 p h
  .rw[List.mem_singleton.1 h];exact hb
 .rw[List.length_append,List.length_singleton,Da hn,List.map_append,h2];rfl
 .rw[List.length_append,List.length_singleton,Da hn,List.flatMap_append];simp
 .unfold Tx.spread;simp
theorem MQ{xs:List Nat}(h:Gone xs i s)(hx:∀n∈xs,n<64)(hv:(xs.flatMap Tx.dM)[i]? =some v)(hl:v<128\/191<v)(hb:Tx.Blank b):Gone xs (i+1) (s++b++ [v]):=by
 obtain⟨ps,h1,h2,h3,h4⟩:=h;rcases h4 with⟨rfl,rfl⟩|⟨b',n,h5,h6,h7,rfl,rfl⟩
 .have hj:ps.length<xs.length:=by
   rcases Nat.lt_or_ge ps.length xs.length with h|h
   .exact h
   .rw[List.take_of_length_le h,List.getElem?_eq_none (Nat.le_refl _)]at hv;cases hv
  have hn:xs[ps.length]? =some xs[ps.length]:=List.getElem?_eq_getElem hj;by_cases hw:xs[ps.length]<52
  .obtain⟨x,ie,_⟩:=I_ hw;have:=qx hn 0 (by rw[ie];simp);rw[Nat.add_zero,hv,ie]at this;obtain rfl:v=x:=by simpa using this
   have:=DR h1 h3 hb hn;rw[ie]at this;exact this
  .have fS:=pW (n:=xs[ps.length]) (by omega);have:=qx hn 0 (by rw[fS];simp);rw[Nat.add_zero,hv,fS]at this;obtain rfl:v=206:=by simpa using this
   exact⟨ps,h1,h2,h3,.inr ⟨b,_,hb,hn,by omega,rfl,rfl⟩⟩
 .exfalso;have fS:=pW h7;have:=qx h6 1 (by rw[fS];simp);rw[hv,fS]at this;obtain rfl:v=125+n:=by simpa using this
  have:=hx n (List.mem_of_getElem? h6);omega
theorem Q9{xs:List Nat}(h:Gone xs i s)(hv:(xs.flatMap Tx.dM)[i]? =some v)(hl:¬(v<128\/191<v)):Gone xs (i+1) (s++ [v]):=by
 obtain⟨ps,h1,h2,h3,h4⟩:=h;rcases h4 with⟨rfl,rfl⟩|⟨b',n,h5,h6,h7,rfl,rfl⟩
 .exfalso;have hj:ps.length<xs.length:=by
   rcases Nat.lt_or_ge ps.length xs.length with h|h
   .exact h
   .rw[List.take_of_length_le h,List.getElem?_eq_none (Nat.le_refl _)]at hv;cases hv
  have hn:xs[ps.length]? =some xs[ps.length]:=List.getElem?_eq_getElem hj;by_cases hw:xs[ps.length]<52
  .obtain⟨x,ie,ir⟩:=I_ hw;have:=qx hn 0 (by rw[ie];simp);rw[Nat.add_zero,hv,ie]at this;obtain rfl:v=x:=by simpa using this
   omega
  .have fS:=pW (n:=xs[ps.length]) (by omega);have:=qx hn 0 (by rw[fS];simp);rw[Nat.add_zero,hv,fS]at this;obtain rfl:v=206:=by simpa using this
   omega
 .have fS:=pW h7;have:=qx h6 1 (by rw[fS];simp);rw[hv,fS]at this;obtain rfl:v=125+n:=by simpa using this
  have hm:=DR h1 h3 h5 h6;rw[fS]at hm;have e:Tx.spread ps []++b'++ [206,125+n]=Tx.spread ps []++b'++ [206]++ [125+n]:=by simp
  rw[e]at hm;exact hm
theorem Vk{xs:List Nat}(h:Gone xs (xs.flatMap Tx.dM).length s):∃ps:List (List Nat×Nat),(∀p∈ps,Tx.Blank p.1)/\ps.map Prod.snd=xs/\s=Tx.spread ps []:=by
 obtain⟨ps,h1,h2,h3,h4⟩:=h;have key:∀j,j<xs.length->((xs.take j).flatMap Tx.dM).length+1<=(xs.flatMap Tx.dM).length:=fun j hj=>by
  have hn:xs[j]? =some xs[j]:=List.getElem?_eq_getElem hj;have h5:0<(Tx.dM xs[j]).length:=by
   unfold Tx.dM;split
   .simp
   .split<;>simp
  have:=qx hn 0 h5;rw[Nat.add_zero,List.getElem?_eq_getElem h5]at this;exact(List.getElem?_eq_some_iff.1 this).1
 rcases h4 with⟨h5,h6⟩|⟨b',n,h5,h6,h7,h8,h9⟩
 .have hl:ps.length=xs.length:=by
   rcases Nat.lt_or_ge ps.length xs.length with h|h
   .have:=key _ h;omega
   .omega
  rw[hl,List.take_length]at h3;exact⟨ps,h1,h3,h6⟩
 .exfalso;have fS:=pW h7;have:=qx h6 1 (by rw[fS];simp);rw[fS]at this;have:=(List.getElem?_eq_some_iff.1 this).1;omega
open Go.Conc Go.ConcN Go.RowKit Go.bn Go.Ren Go.fE Go.Deep
attribute [local go_sem↓] Go.wp_at_zero Go.wp_at_succ
theorem kN(a b:ByteArray):bytesOf (a++b)=bytesOf a++bytesOf b:=by
 unfold bytesOf;rw[ByteArray.data_append];simp
theorem Rt(h:(bytesOf t)[i]? =some v):bytesOf (t.extract i (i+1))= [v]:=by
 unfold bytesOf at h⊢;rw[List.getElem?_map]at h;have hi:i<t.data.toList.length:=by
  rcases Nat.lt_or_ge i t.data.toList.length with h1|h1
  .exact h1
  .rw[List.getElem?_eq_none h1]at h;cases h
 rw[List.getElem?_eq_getElem hi]at h;have e:(t.extract i (i+1)).data.toList= [t.data.toList[i]]:=by
  rw[ByteArray.data_extract,Array.toList_extract];simp only[List.extract,Nat.add_sub_cancel_left];rw[List.drop_eq_getElem_cons hi];rfl
 rw[e];simpa using h
theorem KT{Sh:Nat->Prop}{q:World}{S:Oj}{gl cl gq c:Nat}{pk:List Nat}{wv:Nat->Int}{ks:List Item}(ht:Hid (bytesOf t=Tx.dh pk))(Ml:t.size<=1000)
  (cN:∀i,i<nb->∃b off,ab=some ⟨b,off,none⟩/\q.cell? ⟨b,off+i,none⟩=some (.int .i64 (wv i)))
  (hn:∀s:ByteArray,Gone (Tx.dX pk) t.size (bytesOf s)->s.size<=3000->∀{t0 t1 t2 t3 t4 t5 t7 t8 t9 x7 s8 v1 q6 F4 F5 F6 v8 C2 n5 a9 z7 F7 a3 G2 G4 G3 F8 e8 y0 A6 p3 l6 E7 k9 C3 y1 s6 F0 u5 m5 c8 l5 B7 a6 a7 a2 B9 s9 d7 y4 C4 c9 D2 v2 w0 k4 E6 q8 d0 p5 d3 B2 g4 z4 f2 y7 m0 b0 A7 g9 u7 c3 p9 E0 e9 D1 l1 n3 d1 s0 B5 E9 g5 j4 j8 q7 d4 E1 r6 u4 k5 d6 u9 w4 m9 o5 o8 D6 B3 D7 i2 p6 B4 v0 j7 b4 b9 w2 A8 i9 l7 n9 l8 E4 w3 w8 r4 D4 D0 l9 C5 A3 r5 n6 k6 g6 p4 x3 p7 B1 o0 w5 b5 A1 c7 d5 r7 m8 s7 y2 y3 a5 c4 l0 f8 x5 l3 j1 a4 B6 v3 C8 A5 F3 d2 a8 q9 j9 o4 d9 u1 z5 C0 p8 b1 x1 n8 j5 s5 m1 m2 n0 c6 A9 E2 q5 j2 w6 b3 n2 u2 i4 o3 e6 w9 m3 f9 z9 x8 f3 x2 i6 F1 C6 o9 v9 g2 C9 y5 y8 u6 o6 q3 g8 g7 b7 f7 b2 i8 b8 u3 z3 i5 d8 i7 y6 u0 q4 g0 k8 s4 w7 e7 D3 c5 i3 f0 o2 v6 s1 v7 E3 z6 j6 x4 D8 m7 f6 m6 C7 g1 s3 b6 k7 y9 l4 k3 A0 v4 j3 r8 n7 f4 A4 f1 o7 g3 m4 B0 B8 E5 x9 E8 v5 D5 n4 j0 C1 r9 e0 p0 x6 z8 D9 n1:Value},aj prog Sh (G ((base 5).at ⟨#[t0,t1,t2,t3,t4,t5,.slice ab nb cb,t7,t8,t9,x7,s8,v1,q6,.bool false,F4,F5,F6,.slice (some ⟨gl,0,none⟩) S.T cl,v8,C2,.slice (some ⟨gq,0,none⟩) c c,.string t,n5,a9,z7,.string s,F7,a3,G2,G4,G3,F8,e8,y0,A6,p3,l6,E7,k9,C3,y1,s6,F0,u5,m5,c8,l5,B7,a6,a7,a2,B9,s9,d7,y4,C4,c9,D2,v2,w0,k4,E6,q8,d0,p5,d3,B2,g4,z4,f2,y7,m0,b0,A7,g9,u7,c3,p9,E0,e9,D1,l1,n3,d1,s0,B5,E9,g5,j4,j8,q7,d4,E1,r6,u4,k5,d6,u9,w4,m9,o5,o8,D6,B3,D7,i2,p6,B4,v0,j7,b4,b9,w2,A8,i9,l7,n9,l8,E4,w3,w8,r4,D4,D0,l9,C5,A3,r5,n6,k6,g6,p4,x3,p7,B1,o0,w5,b5,A1,c7,d5,r7,m8,s7,y2,y3,a5,c4,l0,f8,x5,l3,j1,a4,B6,v3,C8,A5,F3,d2,a8,q9,j9,o4,d9,u1,z5,C0,p8,b1,x1,n8,j5,s5,m1,m2,n0,c6,A9,E2,q5,j2,w6,b3,n2,u2,i4,o3,e6,w9,m3,f9,z9,x8,f3,x2,i6,F1,C6,o9,v9,g2,C9,y5,y8,u6,o6,q3,g8,g7,b7,f7,b2,i8,b8,u3,z3,i5,d8,i7,y6,u0,q4,g0,k8,s4,w7,e7,D3,c5,i3,f0,o2,v6,s1,v7,E3,z6,j6,x4,D8,m7,f6,m6,C7,g1,s3,b6,k7,y9,l4,k3,A0,v4,j3,r8,n7,f4,A4,f1,o7,g3,m4,B0,B8,E5,x9,E8,v5,D5,n4,j0,C1,r9,e0,p0,x6,z8,D9,n1],[]⟩ ks) []) q (mO vX pe)):
  ∀{t0 t1 t2 t3 t4 t5 t7 t8 t9 x7 s8 v1 q6 F4 F5 F6 v8 C2 n5 a9 z7 a3 G2 G4 G3 F8 e8 y0 A6 p3 l6 E7 k9 C3 y1 s6 F0 u5 m5 c8 l5 B7 a6 a7 a2 B9 s9 d7 y4 C4 c9 D2 v2 w0 k4 E6 q8 d0 p5 d3 B2 g4 z4 f2 y7 m0 b0 A7 g9 u7 c3 p9 E0 e9 D1 l1 n3 d1 s0 B5 E9 g5 j4 j8 q7 d4 E1 r6 u4 k5 d6 u9 w4 m9 o5 o8 D6 B3 D7 i2 p6 B4 v0 j7 b4 b9 w2 A8 i9 l7 n9 l8 E4 w3 w8 r4 D4 D0 l9 C5 A3 r5 n6 k6 g6 p4 x3 p7 B1 o0 w5 b5 A1 c7 d5 r7 m8 s7 y2 y3 a5 c4 l0 f8 x5 l3 j1 a4 B6 v3 C8 A5 F3 d2 a8 q9 j9 o4 d9 u1 z5 C0 p8 b1 x1 n8 j5 s5 m1 m2 n0 c6 A9 E2 q5 j2 w6 b3 n2 u2 i4 o3 e6 w9 m3 f9 z9 x8 f3 x2 i6 F1 C6 o9 v9 g2 C9 y5 y8 u6 o6 q3 g8 g7 b7 f7 b2 i8 b8 u3 z3 i5 d8 i7 y6 u0 q4 g0 k8 s4 w7 e7 D3 c5 i3 f0 o2 v6 s1 v7 E3 z6 j6 x4 D8 m7 f6 m6 C7 g1 s3 b6 k7 y9 l4 k3 A0 v4 j3 r8 n7 f4 A4 f1 o7 g3 m4 B0 B8 E5 x9 E8 v5 D5 n4 j0 C1 r9 e0 p0 x6 z8 D9 n1:Value},aj prog Sh (G ((base 5).at ⟨#[t0,t1,t2,t3,t4,t5,.slice ab nb cb,t7,t8,t9,x7,s8,v1,q6,.bool false,F4,F5,F6,.slice (some ⟨gl,0,none⟩) S.T cl,v8,C2,.slice (some ⟨gq,0,none⟩) c c,.string t,n5,a9,z7,.string ⟨#[]⟩,.int .i64 0,a3,G2,G4,G3,F8,e8,y0,A6,p3,l6,E7,k9,C3,y1,s6,F0,u5,m5,c8,l5,B7,a6,a7,a2,B9,s9,d7,y4,C4,c9,D2,v2,w0,k4,E6,q8,d0,p5,d3,B2,g4,z4,f2,y7,m0,b0,A7,g9,u7,c3,p9,E0,e9,D1,l1,n3,d1,s0,B5,E9,g5,j4,j8,q7,d4,E1,r6,u4,k5,d6,u9,w4,m9,o5,o8,D6,B3,D7,i2,p6,B4,v0,j7,b4,b9,w2,A8,i9,l7,n9,l8,E4,w3,w8,r4,D4,D0,l9,C5,A3,r5,n6,k6,g6,p4,x3,p7,B1,o0,w5,b5,A1,c7,d5,r7,m8,s7,y2,y3,a5,c4,l0,f8,x5,l3,j1,a4,B6,v3,C8,A5,F3,d2,a8,q9,j9,o4,d9,u1,z5,C0,p8,b1,x1,n8,j5,s5,m1,m2,n0,c6,A9,E2,q5,j2,w6,b3,n2,u2,i4,o3,e6,w9,m3,f9,z9,x8,f3,x2,i6,F1,C6,o9,v9,g2,C9,y5,y8,u6,o6,q3,g8,g7,b7,f7,b2,i8,b8,u3,z3,i5,d8,i7,y6,u0,q4,g0,k8,s4,w7,e7,D3,c5,i3,f0,o2,v6,s1,v7,E3,z6,j6,x4,D8,m7,f6,m6,C7,g1,s3,b6,k7,y9,l4,k3,A0,v4,j3,r8,n7,f4,A4,f1,o7,g3,m4,B0,B8,E5,x9,E8,v5,D5,n4,j0,C1,r9,e0,p0,x6,z8,D9,n1],[]⟩ (.code (eO [1,1,1,1,1,1,1,1,1,1,1,1,1,1,0] (Tryz.f5.body.getD .skip))::ks)) []) q (mO vX pe):=by
 intros;have HN:=hide hn;have Bh:=hide cN
 clear hn cN;conv=>arg 3;simp only[Tryz.f5,Option.getD_some,eO]
 refine aj.bW ak fun τ d=>?_;go_wp2_with fail
 go_loopw [26,27,28] (fun sv av iv wr=>∃(s:ByteArray) (a i:Nat),sv= .string s/\av= .int .i64 a/\iv= .int .i64 i/\i<=t.size/\a<=i/\s.size<=2*i/\Hid (Gone (Tx.dX pk) i (bytesOf s))/\wr=q.re τ d)
  (fun _ _ x _=>leftOf t.size (intOf x).toNat)
 case atStart=>exact⟨⟨#[]⟩,0,0,rfl,rfl,rfl,by omega,by omega,by simp[ByteArray.size],Q8 _,rfl⟩
 case round=>
  obtain⟨s,a,i,rfl,rfl,rfl,hi,hai,cC,hG,rfl⟩:=hrel;by_cases ai:i<t.size
  .have i0:(0:Int)<=(i:Int):=by omega
   have i1:(i:Int)<(t.size:Int):=by omega
   have a0:(0:Int)<=(a:Int):=by omega
   have cN:i<(bytesOf t).length:=by rw[bytesOf_length];exact ai
   obtain⟨v,hv⟩:∃v,(bytesOf t)[i]? =some v:=⟨_,List.getElem?_eq_getElem cN⟩;have hve:t[i].toNat=v:=by
    have h1:=hv;unfold bytesOf at h1;rw[List.getElem?_map,List.getElem?_eq_getElem (by simpa[bytesOf]using cN)]at h1
    first|simpa[ByteArray.getElem_eq_getElem_data]using h1|(simp at h1;exact h1)
   have PR:((Tx.dX pk).flatMap Tx.dM)[i]? =some v:=by rw[<-Tx.iL,<-ht.out];exact hv
   have IA:=Tx.zf pk;have rf:=Rt hv;have eR:(t.extract i (i+1)).size=1:=by rw[<-bytesOf_length,rf];rfl
   have iq:Hid (leftOf t.size (i+1)<leftOf t.size i):=aW (by omega) ai;have cg:∀b:List Nat,Tx.Blank b->(v<128\/191<v)->Gone (Tx.dX pk) (i+1) (bytesOf s++b++ [v]):=fun b hb hl=>MQ hG.out IA PR hl hb;have oy:¬(v<128\/191<v)->Gone (Tx.dX pk) (i+1) (bytesOf s++ [v]):=fun hl=>Q9 hG.out PR hl;have cJ:(s++t.extract i (i+1)).size=s.size+1:=by rw[ByteArray.size_append,eR]
   have cW:(s++⟨#[32]⟩++t.extract i (i+1)).size=s.size+2:=by rw[ByteArray.size_append,eR,ByteArray.size_append];rfl
   have tB:(s++⟨#[10]⟩++t.extract i (i+1)).size=s.size+2:=by rw[ByteArray.size_append,eR,ByteArray.size_append];rfl
   have bp:bytesOf (s++t.extract i (i+1))=bytesOf s++ [v]:=by rw[kN,rf]
   have cq:bytesOf (s++⟨#[32]⟩++t.extract i (i+1))=bytesOf s++ [32]++ [v]:=by rw[kN,rf,kN];rfl
   have cQ:bytesOf (s++⟨#[10]⟩++t.extract i (i+1))=bytesOf s++ [10]++ [v]:=by rw[kN,rf,kN];rfl
   replace cg:=hide cg;replace oy:=hide oy;replace cJ:=hide cJ;replace cW:=hide cW;replace tB:=hide tB;replace bp:=hide bp;replace cq:=hide cq;replace cQ:=hide cQ;clear rf eR IA PR hv cN hG;by_cases hl:v<128\/191<v
   .by_cases Bm:a<nb
    .obtain⟨bb,off,rfl,bm⟩:=Bh.out a Bm;have a1:(a:Int)<(nb:Int):=by omega
     have q1:(q.re τ d).cell? ⟨bb,off+a,none⟩=some (.int .i64 (wv a)):=bm;generalize wv a=wa at q1;rcases Int.lt_trichotomy wa 0 with h0|h0|h0
     .have h1:¬0<wa:=by omega
      rcases hl with hl|hl
      .have ju:¬191<v:=by omega
       go_wp2;exact⟨⟨_,a+1,i+1,rfl,by first|rfl|go_num,by first|rfl|go_num,by omega,by omega,by rw[tB.out];omega,by rw[cQ.out];exact cg.out [10] (fun x hx=>by simp at hx;simp[hx]) (.inl hl),trivial⟩,iq.out⟩
      .have ju:¬v<128:=by omega
       go_wp2;exact⟨⟨_,a+1,i+1,rfl,by first|rfl|go_num,by first|rfl|go_num,by omega,by omega,by rw[tB.out];omega,by rw[cQ.out];exact cg.out [10] (fun x hx=>by simp at hx;simp[hx]) (.inr hl),trivial⟩,iq.out⟩
     .have h1:¬0<wa:=by omega
      have h2:¬wa<0:=by omega
      rcases hl with hl|hl
      .have ju:¬191<v:=by omega
       go_wp2;exact⟨⟨_,a+1,i+1,rfl,by first|rfl|go_num,by first|rfl|go_num,by omega,by omega,by rw[cJ.out];omega,by rw[bp.out];exact(by have:=cg.out [] (fun x hx=>by simp at hx) (.inl hl);rw[List.append_nil]at this;exact this),trivial⟩,iq.out⟩
      .have ju:¬v<128:=by omega
       go_wp2;exact⟨⟨_,a+1,i+1,rfl,by first|rfl|go_num,by first|rfl|go_num,by omega,by omega,by rw[cJ.out];omega,by rw[bp.out];exact(by have:=cg.out [] (fun x hx=>by simp at hx) (.inr hl);rw[List.append_nil]at this;exact this),trivial⟩,iq.out⟩
     .have h2:¬wa<0:=by omega
      rcases hl with hl|hl
      .have ju:¬191<v:=by omega
       go_wp2;exact⟨⟨_,a+1,i+1,rfl,by first|rfl|go_num,by first|rfl|go_num,by omega,by omega,by rw[cW.out];omega,by rw[cq.out];exact cg.out [32] (fun x hx=>by simp at hx;simp[hx]) (.inl hl),trivial⟩,iq.out⟩
      .have ju:¬v<128:=by omega
       go_wp2;exact⟨⟨_,a+1,i+1,rfl,by first|rfl|go_num,by first|rfl|go_num,by omega,by omega,by rw[cW.out];omega,by rw[cq.out];exact cg.out [32] (fun x hx=>by simp at hx;simp[hx]) (.inr hl),trivial⟩,iq.out⟩
    .have a1:¬(a:Int)<(nb:Int):=by omega
     rcases hl with hl|hl
     .have ju:¬191<v:=by omega
      go_wp2;exact⟨⟨_,a+1,i+1,rfl,by first|rfl|go_num,by first|rfl|go_num,by omega,by omega,by rw[cJ.out];omega,by rw[bp.out];exact(by have:=cg.out [] (fun x hx=>by simp at hx) (.inl hl);rw[List.append_nil]at this;exact this),trivial⟩,iq.out⟩
     .have ju:¬v<128:=by omega
      go_wp2;exact⟨⟨_,a+1,i+1,rfl,by first|rfl|go_num,by first|rfl|go_num,by omega,by omega,by rw[cJ.out];omega,by rw[bp.out];exact(by have:=cg.out [] (fun x hx=>by simp at hx) (.inr hl);rw[List.append_nil]at this;exact this),trivial⟩,iq.out⟩
   .have lr:¬v<128:=by omega
    have fS:¬191<v:=by omega
    go_wp2;exact⟨⟨_,a,i+1,rfl,by first|rfl|go_num,by first|rfl|go_num,by omega,by omega,by rw[cJ.out];omega,by rw[bp.out];exact oy.out hl,trivial⟩,iq.out⟩
  .obtain rfl:i=t.size:=by omega
   go_wp2
   first|(refine Or.inl ⟨rfl,?_⟩;dsimp only)|(refine⟨rfl,?_⟩;dsimp only)|skip
   refine aj.re ?_ _ _;exact HN.out s hG.out (by omega) 
def tJ(x y z:Int)(s:ByteArray):Oj:=⟨min s.size 300,1+dn x 16,1+dn y 20,dn z 21,(bytesOf s).take (min s.size 300)⟩
theorem S9(x y z:Int)(s:ByteArray)(hm:manyN (tJ x y z s).len (tJ x y z s).sz (tJ x y z s).ms=false):(tJ x y z s).Ok:=by
 have ha:=fq x (n:=16) (by omega);have hb:=fq y (n:=20) (by omega);have hc:=fq z (n:=21) (by omega);have h1:1<=(tJ x y z s).ms:=Nat.le_add_right _ _;rw[zK h1]at hm;refine⟨?_,?_,?_,h1,?_,?_,by simpa using hm,?_,fun x hx=>AO s x (List.mem_of_mem_take hx)⟩
 .show min s.size 300<=2000;omega
 .show 1<=1+dn x 16;omega
 .show 1+dn x 16<=16;omega
 .show 1+dn y 20<=20;omega
 .show dn z 21<=20;omega
 .show((bytesOf s).take (min s.size 300)).length=min s.size 300;rw[List.length_take,bytesOf_length];omega
theorem SY{Post:(Nat->Prop)->Goroutine->World->Prop}{cs:List Frame}{x0 x y zz xw:Int}{st:ByteArray}{S:Oj}(wx:(Lit.int .i64 x).wf=true)(wy:(Lit.int .i64 y).wf=true)(wz:(Lit.int .i64 zz).wf=true)(cg:st.size<=maxLen)(hS:Hid (S=tJ x y zz st))
  (bc:∀(Sh:Nat->Prop) q gp gb cc {t1 t2 t3 t4 t7 t8 t9 x7 s8 v1 q6 G5 v8 C2 G1 G0 n5 a9 z7 F9 F7 a3 G2 G4 G3 F8 e8 y0 A6 p3 l6 E7 k9 C3 y1 s6 F0 u5 m5 c8 l5 B7 a6 a7 a2 B9 s9 d7 y4 C4 c9 D2 v2 w0 k4 E6 q8 d0 p5 d3 B2 g4 z4 f2 y7 m0 b0 A7 g9 u7 c3 p9 E0 e9 D1 l1 n3 d1 s0 B5 E9 g5 j4 j8 q7 d4 E1 r6 u4 k5 d6 u9 w4 m9 o5 o8 D6 B3 D7 i2 p6 B4 v0 j7 b4 b9 w2 A8 i9 l7 n9 l8 E4 w3 w8 r4 D4 D0 l9 C5 A3 r5 n6 k6 g6 p4 x3 p7 B1 o0 w5 b5 A1 c7 d5 r7 m8 s7 y2 y3 a5 c4 l0 f8 x5 l3 j1 a4 B6 v3 C8 A5 F3 d2 a8 q9 j9 o4 d9 u1 z5 C0 p8 b1 x1 n8 j5 s5 m1 m2 n0 c6 A9 E2 q5 j2 w6 b3 n2 u2 i4 o3 e6 w9 m3 f9 z9 x8 f3 x2 i6 F1 C6 o9 v9 g2 C9 y5 y8 u6 o6 q3 g8 g7 b7 f7 b2 i8 b8 u3 z3 i5 d8 i7 y6 u0 q4 g0 k8 s4 w7 e7 D3 c5 i3 f0 o2 v6 s1 v7 E3 z6 j6 x4 D8 m7 f6 m6 C7 g1 s3 b6 k7 y9 l4 k3 A0 v4 j3 r8 n7 f4 A4 f1 o7 g3 m4 B0 B8 E5 x9 E8 v5 D5 n4 j0 C1 r9 e0 p0 x6 z8 D9 n1:Value},bQ vX Sh pe q->aB q gp 35 [.int .i64 (S.sz:Nat),.int .i64 (S.ms:Nat),.int .i64 (S.V:Nat)]->mF q (some ⟨gb,0,none⟩) S.len S.obj->(∀b,b<pe.heap.size->gp≠b)->aj prog Sh (G ((base 5).at ⟨#[.int .i64 x0,t1,t2,t3,t4,.int .i64 xw,.slice ab nb cb,t7,t8,t9,x7,s8,v1,q6,.bool false,.bool true,.pointer (some ⟨gp,0,none⟩),.slice (some ⟨gb,0,none⟩) S.len cc,G5,v8,C2,G1,G0,n5,a9,z7,F9,F7,a3,G2,G4,G3,F8,e8,y0,A6,p3,l6,E7,k9,C3,y1,s6,F0,u5,m5,c8,l5,B7,a6,a7,a2,B9,s9,d7,y4,C4,c9,D2,v2,w0,k4,E6,q8,d0,p5,d3,B2,g4,z4,f2,y7,m0,b0,A7,g9,u7,c3,p9,E0,e9,D1,l1,n3,d1,s0,B5,E9,g5,j4,j8,q7,d4,E1,r6,u4,k5,d6,u9,w4,m9,o5,o8,D6,B3,D7,i2,p6,B4,v0,j7,b4,b9,w2,A8,i9,l7,n9,l8,E4,w3,w8,r4,D4,D0,l9,C5,A3,r5,n6,k6,g6,p4,x3,p7,B1,o0,w5,b5,A1,c7,d5,r7,m8,s7,y2,y3,a5,c4,l0,f8,x5,l3,j1,a4,B6,v3,C8,A5,F3,d2,a8,q9,j9,o4,d9,u1,z5,C0,p8,b1,x1,n8,j5,s5,m1,m2,n0,c6,A9,E2,q5,j2,w6,b3,n2,u2,i4,o3,e6,w9,m3,f9,z9,x8,f3,x2,i6,F1,C6,o9,v9,g2,C9,y5,y8,u6,o6,q3,g8,g7,b7,f7,b2,i8,b8,u3,z3,i5,d8,i7,y6,u0,q4,g0,k8,s4,w7,e7,D3,c5,i3,f0,o2,v6,s1,v7,E3,z6,j6,x4,D8,m7,f6,m6,C7,g1,s3,b6,k7,y9,l4,k3,A0,v4,j3,r8,n7,f4,A4,f1,o7,g3,m4,B0,B8,E5,x9,E8,v5,D5,n4,j0,C1,r9,e0,p0,x6,z8,D9,n1],[]⟩ [.code (eO [1,1,1,1] (Tryz.f5.body.getD .skip))]) cs) q Post):
  aj prog vX (G ((base 5).at ⟨#[.int .i64 x0,.string st,.int .i64 x,.int .i64 y,.int .i64 zz,.int .i64 xw,.slice ab nb cb,undef,undef,undef,undef,undef,undef,undef,undef,undef,undef,undef,undef,undef,undef,undef,undef,undef,undef,undef,undef,undef,undef,undef,undef,undef,undef,undef,undef,undef,undef,undef,undef,undef,undef,undef,undef,undef,undef,undef,undef,undef,undef,undef,undef,undef,undef,undef,undef,undef,undef,undef,undef,undef,undef,undef,undef,undef,undef,undef,undef,undef,undef,undef,undef,undef,undef,undef,undef,undef,undef,undef,undef,undef,undef,undef,undef,undef,undef,undef,undef,undef,undef,undef,undef,undef,undef,undef,undef,undef,undef,undef,undef,undef,undef,undef,undef,undef,undef,undef,undef,undef,undef,undef,undef,undef,undef,undef,undef,undef,undef,undef,undef,undef,undef,undef,undef,undef,undef,undef,undef,undef,undef,undef,undef,undef,undef,undef,undef,undef,undef,undef,undef,undef,undef,undef,undef,undef,undef,undef,undef,undef,undef,undef,undef,undef,undef,undef,undef,undef,undef,undef,undef,undef,undef,undef,undef,undef,undef,undef,undef,undef,undef,undef,undef,undef,undef,undef,undef,undef,undef,undef,undef,undef,undef,undef,undef,undef,undef,undef,undef,undef,undef,undef,undef,undef,undef,undef,undef,undef,undef,undef,undef,undef,undef,undef,undef,undef,undef,undef,undef,undef,undef,undef,undef,undef,undef,undef,undef,undef,undef,undef,undef,undef,undef,undef,undef,undef,undef,undef,undef,undef,undef,undef,undef,undef,undef,undef,undef,undef,undef,undef,undef,undef,undef,undef,undef,undef,undef,undef,undef,undef,undef,undef,undef,undef,undef,undef,undef,undef,undef,undef,undef,undef,undef,undef,undef,undef,undef,undef,undef,undef,undef,undef,undef,undef,undef,undef,undef,undef,undef,undef,undef,undef,undef],[]⟩ [.code (Tryz.f5.body.getD .skip)]) cs) pe Post:=by
 have HE:=hide bc;clear bc;have FT:=hide (fun w=>Vr x y zz (hide wx) (hide wy) (hide wz) w);have e1:S.sz=1+dn x 16:=by rw[hS.out];rfl
 have e2:S.ms=1+dn y 20:=by rw[hS.out];rfl
 have e3:S.V=dn zz 21:=by rw[hS.out];rfl
 have e4:S.len=min st.size 300:=by rw[hS.out];rfl
 have e5:(bytesOf st).take S.len=S.obj:=by rw[hS.out];rfl
 rw[<-e1,<-e2,<-e3]at FT;have HE4:=hide e4;have HE5:=hide e5
 clear e1 e2 e3 e4 e5;conv=>arg 3;simp only[Tryz.f5,Option.getD_some]
 refine aj.seq ?_;refine aj.bB fun kk ae=>?_;replace ae:=hide ae;refine aj.bW ak fun τ d=>?_;go_wp2
 first|(refine Or.inl ⟨rfl,?_⟩;dsimp only;refine aj.re ?_ _ _)|refine aj.re ?_ _ _
 rw[ae.out];clear ae kk τ d;refine aj.seq (aj.bB fun kk ae=>?_);replace ae:=hide ae;refine aj.reg (todo:= [0,1]) rfl ?_;refine aj.fB rfl rfl (by decide) rfl func10 rfl rfl (T':=#[undef,undef,undef,undef,undef,undef,undef,undef,undef,undef,undef,undef,undef,undef,undef,undef,undef,undef,undef,undef,undef,undef,undef,undef,undef,undef,undef,undef,undef,undef,undef,undef,undef,undef,undef,undef,undef,undef,undef,undef,undef,undef,undef]) (by simp only[List.map_toArray,List.map_nil];rfl) ?_;refine I7 (o:=?oo1) ?hoo1 (fun Sh p1 GB=>?L5)
 case hoo1=>rfl
 case L5=>
 try walk_nrm
 refine aj.pv ak fun τ d K hK=>?_;go_simp;refine hK _ ?_;clear hK;try walk_nrm
 refine aj.aJ ?_;rw[ae.out];clear ae kk;refine aj.seq (aj.bB fun kk ae=>?_);replace ae:=hide ae;refine aj.reg (todo:= [0,1,2,3,4,5]) rfl ?_;refine aj.pv ak fun τ d K hK=>?_;go_simp;refine hK _ ?_;clear hK;try walk_nrm
 iterate 2 (refine aj.pv ak fun τ d K hK=>?_;go_simp;refine hK _ ?_;clear hK;try walk_nrm)
 refine aj.j_ ak (by kernel_rfl) rfl rfl rfl func11 rfl rfl (xs:=#[.int .i64 x,.int .i64 y,.int .i64 zz]) (by simp[Act.eval]) (fun τ d=>?_);refine(FT.out _).mono ?_;rintro _ w1 ⟨rfl,bp⟩;refine⟨_,rfl,?_⟩;have c_:dO p1 w1:=dO.below bp;clear bp τ d;try walk_nrm
 refine aj.ow ak fun τ d K hK=>?_;go_simp;refine hK _ _ ?_;clear hK;try walk_nrm
 rw[show(w1.re τ d).heap.size=w1.heap.size from rfl];obtain⟨gp,MY⟩:∃gp,gp=w1.heap.size:=⟨_,rfl⟩;rw[<-MY];have hgpq:p1.heap.size<=gp:=by rw[MY];exact c_.size
 refine aj.world (fun q2=>dO p1 q2/\aB q2 gp 35 [.int .i64 0,.int .i64 0,.int .i64 0]) ⟨((c_.re τ d).alloc _),by rw[MY];exact iG (w1.re τ d) _ _⟩ fun q2 cI=>?_;obtain⟨eQ,r0⟩:=cI;clear c_ MY τ d w1;refine aj.ow ak fun τ d K hK=>?_;have c0:(q2.re τ d).cell? ⟨gp,0,none⟩=some (.int .i64 0):=r0.cell 0 _ rfl;have z0:(q2.re τ d).frozen? ⟨gp,0,none⟩=false:=r0.frozen 0;have r1:=aB.set (w:=q2.re τ d) r0 0 (.int .i64 (S.sz:Int));have c1:=r1.cell 1 _ rfl;have z1:=r1.frozen 1;have r2:=r1.set 1 (.int .i64 (S.ms:Int));have c2:=r2.cell 2 _ rfl;have z2:=r2.frozen 2;have r3:=hide (r2.set 2 (.int .i64 (S.V:Int)));clear r1 r2;go_simp;refine hK _ _ ?_;clear hK c0 z0 c1 z1 c2 z2;try walk_nrm
 have ai:gp<q2.heap.size:=r0.lt;refine aj.world (fun q1=>q2.heap.size<=q1.heap.size/\(∀b,b<q2.heap.size->b≠gp->q1.heap[b]? =q2.heap[b]?)/\q1.os=q2.os/\q1.output=q2.output/\aB q1 gp 35 [.int .i64 (S.sz:Int),.int .i64 (S.ms:Int),.int .i64 (S.V:Int)]) ?_ fun q1 km=>?_
 .refine⟨?_,fun b hb bd=>?_,rfl,rfl,r3.out⟩
  .simp[World.setCell,World.re]
  .simp[World.setCell,World.re,Array.getElem?_modify,Ne.symm bd]
 have c_:dO p1 q1:=⟨Nat.le_trans eQ.size km.1,fun b hb=>(km.2.1 b (Nat.lt_of_lt_of_le hb eQ.size) (by omega)).trans (eQ.row b hb),km.2.2.1.trans eQ.os,km.2.2.2.1.trans eQ.output⟩;have cj:=km.2.2.2.2;clear km r3 ai eQ r0 q2 τ d;refine aj.aJ ?_;rw[ae.out];clear ae kk;refine aj.seq (aj.bB fun kk ae=>?_);replace ae:=hide ae;refine aj.reg (todo:= [0,1,2]) rfl ?_;refine aj.pv ak fun τ d K hK=>?_;go_simp;refine hK _ ?_;clear hK;try walk_nrm
 refine aj.j_ ak (by kernel_rfl) rfl rfl rfl func12 rfl rfl (xs:=#[.string st,.int .i64 300]) (by simp[Act.eval]) (fun τ d=>?_);have gm:=Lp st 300 S.len (by omega) cg HE4.out (q1.re τ d);rw[HE5.out]at gm;refine gm.mono ?_;rintro e w' ⟨cb,rfl,_,_,fH,cX⟩;refine⟨_,rfl,?_⟩;rw[show(q1.re τ d).heap.size=q1.heap.size from rfl]at fH⊢;have ky:dO q1 w':=dO.below cX;clear gm cX τ d;try walk_nrm
 refine aj.pv ak fun τ d K hK=>?_;go_simp;refine hK _ ?_;clear hK;try walk_nrm
 refine aj.aJ ?_;rw[ae.out];clear ae kk;have Sg:=c_.trans ky;exact HE.out Sh w' gp q1.heap.size cb (GB.trans (bQ.pO Sg)) (cj.of_block (ky.row _ cj.lt)) fH (fun b hb=>by have:=GB.grown;omega)
end
