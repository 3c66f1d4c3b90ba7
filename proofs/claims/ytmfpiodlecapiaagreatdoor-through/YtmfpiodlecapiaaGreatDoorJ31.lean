import Derived.Test.YtmfpiodlecapiaaGreatDoorJ30
set_option maxHeartbeats 16000000
set_option maxRecDepth 100000
namespace Go.Proofs.YtmfpiodlecapiaaGreatDoor
open Go.Proofs.Tryz
section
open Go.Conc Go.ConcN Go.RowKit Go.bn Go.Ren Go.fE Go.Deep
attribute [local go_sem↓] Go.wp_at_zero Go.wp_at_succ
variable{vX Sh:Nat->Prop}{pe q:World}{nb cb:Nat}{ab:Option Addr}{x0 xw:Int}
set_option linter.unusedSimpArgs false in
theorem ZH{S:Oj}{gp gb cc:Nat}(hl:S.len<=2000)(s1:1<=S.sz)(s2:S.sz<=16)(m1:1<=S.ms)(m2:S.ms<=20)(v2:S.V<=20)(w0:(Lit.int .i64 x0).wf=true)(uH:manyN S.len S.sz S.ms=true)(eI:aB q gp 35 [.int .i64 (S.sz:Nat),.int .i64 (S.ms:Nat),.int .i64 (S.V:Nat)])(hA:bQ vX Sh pe q):
  ∀{t1 t2 t3 t4 t7 t8 t9 z6 v0 w5 s6 p3 x5 D8 y4 l5 p6 d6 B3 f4 w6 a5 k6 x3 p2 C0 h7 z9 C2 r4 n5 G3 m9 D9 A0 u8 G6 v8 o4 f7 n4 D3 b6 c5 a0 D5 v1 g7 A3 E0 f8 E8 w7 x7 m4 G2 s8 f9 r6 g3 C8 j1 B0 i0 A6 n9 e0 C3 j6 w2 f1 s0 F6 h8 E7 n1 p4 g1 u3 D1 G5 j2 l4 l9 s7 g4 F7 t6 v7 m5 g6 w3 y0 o8 q8 r1 F2 C9 F3 j7 r7 D0 w4 l8 e4 f0 x8 C4 k9 n6 q0 n7 G0 x9 y5 t0 F0 E6 n8 E1 B8 t5 p7 m6 j3 r5 y9 r8 C7 q4 y1 e5 B7 f6 g5 u0 o7 u9 A1 A2 b5 f2 n0 i5 z4 n2 l1 a6 D2 w8 E4 C1 G8 g2 c6 s9 m0 q7 g9 v4 B1 D6 r9 e1 y7 p9 l6 u7 o0 o1 o9 f3 C5 F8 s5 l2 y2 e3 p1 v5 j9 q6 h4 y6 o2 i6 B5 z7 i1 y8 k5 G7 E2 r2 x6 i9 E5 A4 A7 v9 q9 s3 j5 j4 e7 i4 e2 k8 e8 v6 A9 k0 g8 k7 A5 v3 s4 i7 m8 u6 y3 h5 E9 e9 j8 h6 q5 x2 u4 x4 F9 B2 l7 z3 F4 o6 i3 o5 E3 i8 u5 e6 m7 A8 n3 m3 B6 w9 l3 u1 p8 i2 B9 h9 r0 j0 o3 C6 D4 G1 z8 G4 x1 F1 p5 l0 D7 u2 h0 r3 z5 B4 F5 p0:Value},aj prog Sh (G ((base 5).at ⟨#[.int .i64 x0,t1,t2,t3,t4,.int .i64 xw,.slice ab nb cb,t7,t8,t9,z6,v0,w5,s6,.bool false,.bool true,.pointer (some ⟨gp,0,none⟩),.slice (some ⟨gb,0,none⟩) S.len cc,p3,x5,D8,y4,l5,p6,d6,B3,f4,w6,a5,k6,x3,p2,C0,h7,z9,C2,r4,n5,G3,m9,D9,A0,u8,G6,v8,o4,f7,n4,D3,b6,c5,a0,D5,v1,g7,A3,E0,f8,E8,w7,x7,m4,G2,s8,f9,r6,g3,C8,j1,B0,i0,A6,n9,e0,C3,j6,w2,f1,s0,F6,h8,E7,n1,p4,g1,u3,D1,G5,j2,l4,l9,s7,g4,F7,t6,v7,m5,g6,w3,y0,o8,q8,r1,F2,C9,F3,j7,r7,D0,w4,l8,e4,f0,x8,C4,k9,n6,q0,n7,G0,x9,y5,t0,F0,E6,n8,E1,B8,t5,p7,m6,j3,r5,y9,r8,C7,q4,y1,e5,B7,f6,g5,u0,o7,u9,A1,A2,b5,f2,n0,i5,z4,n2,l1,a6,D2,w8,E4,C1,G8,g2,c6,s9,m0,q7,g9,v4,B1,D6,r9,e1,y7,p9,l6,u7,o0,o1,o9,f3,C5,F8,s5,l2,y2,e3,p1,v5,j9,q6,h4,y6,o2,i6,B5,z7,i1,y8,k5,G7,E2,r2,x6,i9,E5,A4,A7,v9,q9,s3,j5,j4,e7,i4,e2,k8,e8,v6,A9,k0,g8,k7,A5,v3,s4,i7,m8,u6,y3,h5,E9,e9,j8,h6,q5,x2,u4,x4,F9,B2,l7,z3,F4,o6,i3,o5,E3,i8,u5,e6,m7,A8,n3,m3,B6,w9,l3,u1,p8,i2,B9,h9,r0,j0,o3,C6,D4,G1,z8,G4,x1,F1,p5,l0,D7,u2,h0,r3,z5,B4,F5,p0],[]⟩ [.code (eO [1,1,1,1] (Tryz.f5.body.getD .skip))]) []) q (mO vX pe):=by
 intros;have PW:=hide (fun w=>ng x0 65536 65536 rfl w0 (by omega) (by omega) w);have xm:=hide eI;have HA:=hide hA
 have MW:=hide (fun w=>Du S.len S.sz S.ms S.V (by omega) s1 s2 m1 m2 w);rw[uH]at MW;have KW:Hid (∀w,dO q w->Calls prog 14 #[.int .i64 (dn x0 65536:Nat),.slice (some ⟨gb,0,none⟩) S.len cc,.agg #[.int .i64 (S.sz:Nat),.int .i64 (S.ms:Nat),.int .i64 (S.V:Nat)]] w fun e w'=>e= .returned (.tuple #[.slice none 0 0,.int .i64 1])/\dO q w'):=by
  intro w hw;refine(Jz (some ⟨gb,0,none⟩) S.len cc _ S.sz S.ms S.V hl s1 s2 m1 m2 v2 uH w).mono ?_;rintro _ w' ⟨rfl,h2⟩;exact⟨rfl,hw.trans (dO.of_below h2)⟩
 have HC:Hid (∀w,dO q w->w.cell? ⟨gp,0,none⟩=some (.int .i64 (S.sz:Nat))/\w.cell? ⟨gp,1,none⟩=some (.int .i64 (S.ms:Nat))/\w.cell? ⟨gp,2,none⟩=some (.int .i64 (S.V:Nat))):=fun w hw=>⟨hw.cell (eI.cell 0 _ rfl),hw.cell (eI.cell 1 _ rfl),hw.cell (eI.cell 2 _ rfl)⟩;clear eI uH hA;generalize dn x0 65536=id at PW KW;conv=>arg 3;simp only[Tryz.f5,Option.getD_some,eO]
 refine aj.seq ?_;refine aj.bB fun kk ae=>?_;replace ae:=hide ae;refine aj.bW ak fun τ d=>?_;have kh:dO q (q.re τ d).drew:=⟨Nat.le_refl _,fun _ _=>rfl,rfl,rfl⟩;refine wp_region_held_drew (S:=fun w'=>dO q w') (by kernel_rfl) kh (fun kh=>?_);refine wpAnyH_take (i:=0) (v:=?va0) rfl (by kernel_rfl) (by kernel_rfl) (by kernel_rfl) (fun _ _ _ h=>by rcases h with h|h<;>cases h.1) (Or.inl ⟨by rfl,?Tb⟩) (by assumption) ?ra0
 case Tb=>(intro wz bz;go_simp;try (with_reducible rfl))
 try go_frame
 refine wpAnyH_take (i:=2) (v:=?va2) rfl (by kernel_rfl) (by kernel_rfl) (by kernel_rfl) (fun _ _ _ h=>by rcases h with h|h<;>cases h.1) (Or.inl ⟨by rfl,?pN⟩) (by assumption) ?ra2
 case pN=>(intro wz bz;go_simp;try (with_reducible rfl))
 try go_frame
 refine wpAnyH_take (i:=3) (v:=?va3) rfl (by kernel_rfl) (by kernel_rfl) (by kernel_rfl) (fun _ _ _ h=>by rcases h with h|h<;>cases h.1) (Or.inl ⟨by rfl,?pM⟩) (by assumption) ?ra3
 case pM=>(intro wz bz;obtain⟨z0,z1,z2⟩:=HC.out wz bz;go_simp;try (with_reducible rfl))
 try go_frame
 refine wpAnyH_ready (rs:= [1]) (by kernel_rfl) (by simp) ?_;refine AllReadyH.cons rfl (fun K hK=>?_) ?_;rotate_left
 .exact AllReadyH.nil
 go_simp;go_at_call 13
 refine(PW.out _).mono ?_;rintro _ _ ⟨rfl,rfl⟩;refine hK.out _ _ kh (fun oX=>?_);clear hK K;try go_frame
 refine wpAnyH_ready (rs:= [4]) (by kernel_rfl) (by simp) ?_;refine AllReadyH.cons rfl (fun K hK=>?_) ?_;rotate_left
 .exact AllReadyH.nil
 go_simp;go_at_call 14
 refine(KW.out _ kh).mono ?_;rintro _ q1 ⟨rfl,c_⟩;refine hK.out _ _ c_ (fun ur=>?_);clear hK K;try go_frame
 refine wpAnyH_take (i:=5) (v:=?vb5) rfl (by kernel_rfl) (by kernel_rfl) (by kernel_rfl) (fun _ _ _ h=>by rcases h with h|h<;>cases h.1) (Or.inl ⟨by rfl,?Bi⟩) (by assumption) ?rb5
 case Bi=>(intro wz bz;go_simp;try (with_reducible rfl))
 try go_frame
 refine wpAnyH_take (i:=6) (v:=?vb6) rfl (by kernel_rfl) (by kernel_rfl) (by kernel_rfl) (fun _ _ _ h=>by rcases h with h|h<;>cases h.1) (Or.inl ⟨by rfl,?FG⟩) (by assumption) ?rb6
 case FG=>(intro wz bz;go_simp;try (with_reducible rfl))
 try go_frame
 refine wpAnyH_take (i:=7) (v:=?vb7) rfl (by kernel_rfl) (by kernel_rfl) (by kernel_rfl) (fun _ _ _ h=>by rcases h with h|h<;>cases h.1) (Or.inl ⟨by rfl,?SU⟩) (by assumption) ?rb7
 case SU=>(intro wz bz;go_simp;try (with_reducible rfl))
 try go_frame
 refine wpAnyH_take (i:=8) (v:=?vb8) rfl (by kernel_rfl) (by kernel_rfl) (by kernel_rfl) (fun _ _ _ h=>by rcases h with h|h<;>cases h.1) (Or.inl ⟨by rfl,?SP⟩) (by assumption) ?rb8
 case SP=>(intro wz bz;go_simp;try (with_reducible rfl))
 try go_frame
 refine wpAnyH_take (i:=9) (v:=?vb9) rfl (by kernel_rfl) (by kernel_rfl) (by kernel_rfl) (fun _ _ _ h=>by rcases h with h|h<;>cases h.1) (Or.inl ⟨by rfl,?SO⟩) (by assumption) ?rb9
 case SO=>(intro wz bz;go_simp;try (with_reducible rfl))
 try go_frame
 refine wpAnyH_done (by kernel_rfl) ?_ _;refine Or.inl ⟨rfl,?_⟩;try dsimp only
 rw[ae.out];have zg:=hide (xm.out.of_block (c_.row _ xm.out.lt));have Cs:=hide (HA.out.trans (bQ.pO c_));clear ae kk xm HA PW KW HC;refine aj.seq ?_;refine aj.bB fun kk ae=>?_;replace ae:=hide ae;refine aj.reg (todo:= [0,1,2,3,4]) rfl ?_;refine aj.ow ak fun τ d K hK=>?_;go_simp;refine hK _ _ (aj.re ?_ _ _);clear hK τ d;try walk_nrm
 refine aj.ow ak fun τ d K hK=>?_;go_simp;refine hK _ _ (aj.re ?_ _ _);clear hK τ d;try walk_nrm
 refine aj.ow ak fun τ d K hK=>?_;have z0:(q1.re τ d).cell? ⟨gp,0,none⟩=some (.int .i64 (S.sz:Nat)):=zg.out.cell 0 _ rfl;have z1:(q1.re τ d).cell? ⟨gp,1,none⟩=some (.int .i64 (S.ms:Nat)):=zg.out.cell 1 _ rfl;have z2:(q1.re τ d).cell? ⟨gp,2,none⟩=some (.int .i64 (S.V:Nat)):=zg.out.cell 2 _ rfl;go_simp;refine hK _ _ (aj.re ?_ _ _);clear hK z0 z1 z2 τ d;try walk_nrm
 refine aj.j_ ak (by kernel_rfl) rfl rfl rfl func17 rfl rfl (xs:=#[.int .i64 (S.len:Nat),.agg #[.int .i64 (S.sz:Nat),.int .i64 (S.ms:Nat),.int .i64 (S.V:Nat)]]) (by simp[Act.eval]) (fun τ d=>?_);refine(MW.out (q1.re τ d)).mono ?_;rintro _ q2 ⟨rfl,bp⟩;refine⟨_,rfl,?_⟩;have Pr:Hid (bQ vX Sh pe q2):=Cs.out.trans (bQ.pO (dO.below bp));clear bp τ d;try walk_nrm
 refine aj.ow ak fun τ d K hK=>?_;go_simp;refine hK _ _ (aj.re ?_ _ _);clear hK τ d;try walk_nrm
 refine aj.aJ ?_;rw[ae.out];clear ae kk;refine aj.seq ?_;refine aj.bW ak fun τ d=>?_;go_wp2
 first|(refine Or.inr ⟨rfl,fun todo=>?_⟩;dsimp only)|(intro todo)|skip
 refine aj.re ?_ _ _;exact aj.here ⟨_,_,rfl,rfl,Pr.out⟩
theorem bQ.cell{Sh':Nat->Prop}{p:World}(h:bQ Sh Sh' p q){b i:Nat}{v:Value}(hc:p.cell? ⟨b,i,none⟩=some v):q.cell? ⟨b,i,none⟩=some v:=by
 obtain⟨ob,fH⟩:∃ob,p.heap[b]? =some ob:=⟨_,Array.getElem?_eq_getElem (bR hc)⟩;refine dz hc ?_;rw[fH];refine h.keep b ob fH fun e fz he=>?_;subst he;simp[World.cell?,fH]at hc
theorem Xm{x y zz m:Int}{st:ByteArray}{wv:Nat->Int}(w0:(Lit.int .i64 x0).wf=true)(wx:(Lit.int .i64 x).wf=true)(wy:(Lit.int .i64 y).wf=true)(wz:(Lit.int .i64 zz).wf=true)(wW:(Lit.int .i64 xw).wf=true)(cg:st.size<=maxLen)(ha:Alpha pe)(DO:pe.cell? ⟨1,0,none⟩=some (.int .i64 m))
  (cN:∀i,i<nb->∃b off,ab=some ⟨b,off,none⟩/\pe.cell? ⟨b,off+i,none⟩=some (.int .i64 (wv i))):
  aj prog vX (G ((base 5).at ⟨#[.int .i64 x0,.string st,.int .i64 x,.int .i64 y,.int .i64 zz,.int .i64 xw,.slice ab nb cb,undef,undef,undef,undef,undef,undef,undef,undef,undef,undef,undef,undef,undef,undef,undef,undef,undef,undef,undef,undef,undef,undef,undef,undef,undef,undef,undef,undef,undef,undef,undef,undef,undef,undef,undef,undef,undef,undef,undef,undef,undef,undef,undef,undef,undef,undef,undef,undef,undef,undef,undef,undef,undef,undef,undef,undef,undef,undef,undef,undef,undef,undef,undef,undef,undef,undef,undef,undef,undef,undef,undef,undef,undef,undef,undef,undef,undef,undef,undef,undef,undef,undef,undef,undef,undef,undef,undef,undef,undef,undef,undef,undef,undef,undef,undef,undef,undef,undef,undef,undef,undef,undef,undef,undef,undef,undef,undef,undef,undef,undef,undef,undef,undef,undef,undef,undef,undef,undef,undef,undef,undef,undef,undef,undef,undef,undef,undef,undef,undef,undef,undef,undef,undef,undef,undef,undef,undef,undef,undef,undef,undef,undef,undef,undef,undef,undef,undef,undef,undef,undef,undef,undef,undef,undef,undef,undef,undef,undef,undef,undef,undef,undef,undef,undef,undef,undef,undef,undef,undef,undef,undef,undef,undef,undef,undef,undef,undef,undef,undef,undef,undef,undef,undef,undef,undef,undef,undef,undef,undef,undef,undef,undef,undef,undef,undef,undef,undef,undef,undef,undef,undef,undef,undef,undef,undef,undef,undef,undef,undef,undef,undef,undef,undef,undef,undef,undef,undef,undef,undef,undef,undef,undef,undef,undef,undef,undef,undef,undef,undef,undef,undef,undef,undef,undef,undef,undef,undef,undef,undef,undef,undef,undef,undef,undef,undef,undef,undef,undef,undef,undef,undef,undef,undef,undef,undef,undef,undef,undef,undef,undef,undef,undef,undef,undef,undef,undef,undef,undef,undef,undef,undef,undef,undef,undef],[]⟩ [.code (Tryz.f5.body.getD .skip)]) []) pe (mO vX pe):=by
 have hid:dn x0 65536<65536:=fq x0 (by omega);refine SY wx wy wz cg (hide rfl) (fun Sh q gp gb cc=>fun hA eI fH bd=>?_);cases hm:manyN (tJ x y zz st).len (tJ x y zz st).sz (tJ x y zz st).ms with
 |true=>
  have h1:=fq x (n:=16) (by omega);have h2:=fq y (n:=20) (by omega);have h3:=fq zz (n:=21) (by omega);exact ZH (by show min st.size 300<=2000;omega) (by show 1<=1+dn x 16;omega) (by show 1+dn x 16<=16;omega) (by show 1<=1+dn y 20;omega) (by show 1+dn y 20<=20;omega) (by show dn zz 21<=20;omega) w0 hm eI hA 
 |false=>
  have ok:=S9 x y zz st hm;refine ZG ok w0 (hide rfl) hm eI fH (fun q1 gl cl cur=>?_) ;intros;rename_i c_ sX;refine Xl ok hm (eI.of_block (c_.row _ eI.lt)) (fun q2=>?_) ;intros;rename_i eQ;have QT:Alpha q2:=fun i hi=>(c_.trans eQ).cell (hA.cell (ha i hi));refine Xk ok hid wW (sX.grw eQ) QT (fun q3 gq c pk t=>?_) ;intros;rename_i ky hp hd hlen hc cF ht;have hg:=(c_.trans eQ).trans ky;refine Xi (wv:=wv) ok hid (hA.trans (bQ.pO hg)) ((sX.grw eQ).grw ky) (fun i hi=>hg.cell (hA.cell (ha i hi))) (hg.cell (hA.cell DO)) hp hd hlen hc cF ht (fun i hi=>?_) ;obtain⟨b,off,h1,h2⟩:=cN i hi;exact⟨b,off,h1,hg.cell (hA.cell h2)⟩
end
section
open Go.Conc Go.ConcN Go.RowKit Go.bn Go.Ren Go.fE Go.Deep
theorem Xj{W:World}(hv:∀(b:Nat) o,W.heap[b]? =some o->IL b o){g0:Goroutine}(hB:aj prog (fun _=>False) g0 W (mO (fun _=>False) W)):
  ∃M last o w' t',runNT prog (M+1) (solo g0 W) #[]=(.ended o w',t')/\runN prog M (solo g0 W)= .next last/\step prog last= .ended o w'/\
   Conc.Good prog (fun(v:Value) (w':World)=>v= .bool true/\w'.os=W.os/\w'.output=W.output/\∀b,b<W.heap.size->w'.heap[b]? =W.heap[b]?) last o w' t':=by
 have WJ:Wj (fun _=>False)=fun _=>False:=by
  funext l;cases l<;>rfl
 have du:Zn prog (fun _=>False) g0 W #[g0] W #[] (fun _=>0):=
  ⟨rfl,⟨rfl,fun _ _=>rfl,fun _ x=>x.elim,hv,rfl,rfl,rfl,rfl⟩,leavers_one _ _,by rw[WJ];exact past_nil.mono (Nat.zero_le _)⟩
 obtain⟨N,Sh',g',p',gs',u',sl',t1,q',hr,hb,T,todo,rfl,K4,hA⟩:=hB #[g0] W none #[] (fun _=>0) du;have dp:∀w,(results Tryz.f5 T).run prog w= .ok (.bool true) w:=fun w=>by
  have e:T.getD 14 undef= .bool true:=by rw[Array.getD_eq_getD_getElem?,K4];rfl
  have e':T[14]?.getD undef= .bool true:=by rw[K4];rfl
  simp[results,Tryz.f5,e']
 have dt:∀w,(results Tryz.f5 T).events prog w #[]=#[]:=fun w=>by
  simp[results,Tryz.f5]
 have aq:∀w,stepG prog true (Gr 5 T todo []) w= .ended (.done (.bool true)) w #[]:=fun w=>by
  simp[Gr,G,Frame.at,base,stepG,unwind,doReturn,func5,dp,dt,seen_none];rfl
 have cj:∀b,b<W.heap.size->u'.heap[b]? =W.heap[b]? :=fun b cN=>by
  obtain⟨h1,h2⟩:=hA.old b cN (fun h=>h);exact(hb.ps.same b h1).trans h2
 obtain⟨N2,last,o,w',t2,k1,k2,k3,k4⟩:=beside_ends (P:=prog) (Shun:=Wj Sh') (B:=u'.heap.size) (D:=fun _ _ _=>False) (Post:=fun v w'=>v= .bool true/\w'.os=W.os/\w'.output=W.output/\∀b,b<W.heap.size->w'.heap[b]? =W.heap[b]?) (n:=0) (sl:=sl') (fun _ _ _ h=>h.elim) hb.zero hb.leave hb.past
  (Goes.stop fun w1 dm=>by
   obtain⟨d,rfl⟩:=dm;exact⟨rfl,.bool true,#[],aq _,fun e he=>by simp at he,rfl,hb.ps.os.trans hA.os,hb.ps.output.trans hA.output,cj⟩)
 have dg:runN prog N (solo g0 W)= .next (crowd gs' u' sl'):=by
  rw[<-runNT_fst _ _ _ #[]];show(runNT prog N (crowd #[g0] W none) #[]).1=_;rw[hr]
 refine⟨N+N2,last,o,w',t2,?_,?_,k3,k4⟩
 .rw[Nat.add_assoc,runNT_add];show(match runNT prog N (crowd #[g0] W none) #[]with|(.next m',t)=>runNT prog (N2+1) m' t|x=>x)=_;rw[hr];exact k1
 .rw[runN_add,dg];exact k2
end
