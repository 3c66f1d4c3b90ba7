import Derived.Test.YtmfpiodlecapiaaJ33
import Derived.Conc.SmallLaws
namespace Go.Proofs.Ytmfpiodlecapiaa
open Go.Conc Go.RowKit Go.Frag Go.Ren Go.Grp Go.Deep
structure BlkAt(p:World)(K V s n pb:Nat)(pa:Nat->Option Addr)(pl pc:Nat->Nat)(blk:List Nat):Prop where
 num:n=K+V
 row:qS p pb 36 ((List.range n).map fun i=>Value.slice (pa i) (pl i) (pc i))
 nil:∀i,i<n->pa i=none->pl i=0/\pc i=0
 has:∀i,i<n->(pa i).isSome=true->∃g l,pa i=some ⟨g,0,none⟩/\qS p g 5 (u8s l)/\pl i=s/\l.length=pc i/\s<=pc i/\l.take s=Pk.pieceN blk s K i/\∀x∈l,x<256
theorem priv_has{Keep:Nat->Bool}{w:World}{b i:Nat}{v:Value}(hk:Keep b=true)(h:w.cell? ⟨b,i,none⟩=some v):(priv Keep w).cell? ⟨b,i,none⟩=some v:=by
 simp only[World.cell?,priv_row]at h⊢;cases ho:w.heap[b]? with
 |none=>rw[ho]at h;cases h
 |some o=>
  rw[ho]at h;cases o with
  |cells c e fz=>simpa[hk,frz]using h
  |_=>simp at h
theorem priv_self{Keep:Nat->Bool}{w:World}(hk:∀b i v,Keep b=true->w.cell? ⟨b,i,none⟩=some v->SV (Array.range w.heap.size) v v)(hrow:∀b,Keep b=true->b<w.heap.size->∃c e fz,w.heap[b]? =some (.cells c e fz)):WR (Array.range w.heap.size) (priv Keep w) (priv Keep w):=by
 have h:=priv_wr hk hrow;have hs:(priv Keep w).heap.size=w.heap.size:=by simp[priv]
 refine⟨h.size,h.rows,h.inj,fun b c hb=>by rw[hs];exact h.low b c hb,fun b i v hv=>?_,fun b i c h1 h2 h3=>?_,rfl,rfl⟩
 ·obtain⟨k1,k2,_,k4⟩:=priv_cell hv;exact⟨b,v,range_at k4,hv,hk b i v k1 k2⟩
 ·rw[(range_get h3).1];exact h2
theorem blk_bytes{p:World}{K V s n pb:Nat}{pa:Nat->Option Addr}{pl pc:Nat->Nat}{blk:List Nat}(h:BlkAt p K V s n pb pa pl pc blk){i:Nat}(hi:i<n)(hs:(pa i).isSome=true):
  ∃g,pa i=some ⟨g,0,none⟩/\pl i=s/\s<=pc i/\(∀x∈Pk.pieceN blk s K i,x<256)/\∀j,j<s->p.cell? ⟨g,j,none⟩=some (.int .u8 (((Pk.pieceN blk s K i)[j]?.getD 0:Nat):Int)):=by
 obtain⟨g,l,h1,h2,h3,h4,h5,h6,h7⟩:=h.has i hi hs;refine⟨g,h1,h3,h5,fun x hx=>by rw[<-h6]at hx;exact h7 x (List.mem_of_mem_take hx),fun j hj=>?_⟩;have:=h2.cell j _ (u8s_at (by omega));rw[this,<-h6,List.getElem?_take,if_pos hj]
set_option maxRecDepth 100000 in
set_option maxHeartbeats 1000000 in
theorem born_tree{p w:World}{R Dn B0 z cp cD cR cz:Nat}{cSb:Nat}{wz:Nat->Bool}{Dz:Nat->List Nat}{K V s n pb:Nat}{pa:Nat->Option Addr}{pl pc:Nat->Nat}{blk:List Nat}{Wg:Nat}(hB:BlkAt p K V s n pb pa pl pc blk)(hK1:1<=K)(hK:K<=20)(hV:V<=20)(hs1:1<=s)(hs:s<=16)(hblk:blk.length=K*s)(hbl:∀x∈blk,x<256)
  (hRn:R<p.heap.size)(hDn:Dn<p.heap.size)(hWg:Wg<w.heap.size)(hcR:p.heap[cR]? =some (.cells #[.chan (some R)] 123))(hcD:p.heap[cD]? =some (.cells #[.chan (some Dn)] 124))(hcS:p.heap[cSb]? =some (.cells #[.int .i64 V] 3))
  (hwz:wz z=wholeOf pa K V)(hDz:Dz z=blk)(hB0:B0<=w.heap.size)(hpw:p.heap.size<=w.heap.size)
  (hrows:∀b i v,p.cell? ⟨b,i,none⟩=some v->w.heap[b]? =p.heap[b]?)(hcz:w.heap[cz]? =some (.cells #[.int .i64 z] 3))(hcp:w.heap[cp]? =some (.cells #[.slice (some ⟨pb,0,none⟩) n n] 33)):
  ∃Keep:Nat->Bool,Keep cz=true/\(∀b i v,Keep b=true->w.cell? ⟨b,i,none⟩=some v->SV (Array.range w.heap.size) v v)/\(∀b,Keep b=true->b<w.heap.size->∃c e fz,w.heap[b]? =some (.cells c e fz))/\(∀b,Keep b=true->(∃i v,p.cell? ⟨b,i,none⟩=some v)\/b=cz\/b=cp)/\
   WT Try.prog (PollAt Dn (qV (qT 2 (Try.f122.body.getD .skip)))) (SelStop R Dn (qV (selOf Try.f83)) (tailOf Try.f83) (ResP B0 wz Dz) z) ⟨0,⟨wFn,wTmps ⟨Wg,0,none⟩ ⟨cp,0,none⟩ ⟨cSb,0,none⟩ ⟨cD,0,none⟩ ⟨cR,0,none⟩ ⟨cz,0,none⟩,[.code (restOf Try.f83)],false⟩,[],priv Keep w⟩:=by
 classical
 have rowW:∀(b:Nat) (c:Array Value) (e:TypeId) (fz:Nat×Nat),p.heap[b]? =some (.cells c e fz)->0<c.size->w.heap[b]? =some (.cells c e fz):=fun b c e fz h h0=>by
  have hc:p.cell? ⟨b,0,none⟩=some c[0]:=by simp[World.cell?,h,h0]
  rw[hrows b 0 _ hc];exact h
 have cellP:∀(b:Nat) (c:Array Value) (e:TypeId) (fz:Nat×Nat),p.heap[b]? =some (.cells c e fz)->0<c.size->∃i v,p.cell? ⟨b,i,none⟩=some v:=fun b c e fz h h0=>⟨0,c[0],by simp[World.cell?,h,h0]⟩;have hn1:0<n:=by have:=hB.num;omega
 have hsz:((List.range n).map fun i=>Value.slice (pa i) (pl i) (pc i)).toArray.size=n:=by simp
 have wR:=rowW cR _ _ _ hcR (by simp);have wD:=rowW cD _ _ _ hcD (by simp);have wS:=rowW cSb _ _ _ hcS (by simp);have wP:=rowW pb _ _ _ hB.row (by rw[hsz];exact hn1);have ltOf:∀(b:Nat) (o:Obj),w.heap[b]? =some o->b<w.heap.size:=fun b o h=>(Array.getElem?_eq_some_iff.1 h).1;have hear:∀i,i<n->∀a,pa i=some a->∃g l,a=⟨g,0,none⟩/\w.heap[g]? =some (.cells (u8s l).toArray 5 (0,0))/\p.heap[g]? =some (.cells (u8s l).toArray 5 (0,0))/\0<(u8s l).toArray.size:=fun i hi a ha=>by
  obtain⟨g,l,h1,h2,h3,h4,h5,_⟩:=hB.has i hi (by rw[ha];rfl);rw[ha]at h1;have h0:0<(u8s l).toArray.size:=by simp[u8s];omega
  exact⟨g,l,Option.some.inj h1,rowW g _ _ _ h2 h0,h2,h0⟩
 let Kp:Nat->Prop:=fun b=>b=cz\/b=cp\/b=cSb\/b=cD\/b=cR\/b=pb\/∃i,i<n/\pa i=some ⟨b,0,none⟩
 have what:∀b,Kp b->∃c e fz,w.heap[b]? =some (.cells c e fz)/\(∀(i:Nat) v,c[i]? =some v->SV (Array.range w.heap.size) v v)/\((∃i v,p.cell? ⟨b,i,none⟩=some v)\/b=cz\/b=cp):=by
  intro b hb;have one:∀(x:Value),SV (Array.range w.heap.size) x x->∀(i:Nat) v,(#[x]:Array Value)[i]? =some v->SV (Array.range w.heap.size) v v:=fun x hx i v hv=>by
   match i,hv with
   |0,hv=>obtain rfl:=Option.some.inj hv;exact hx
   |i+1,hv=>simp at hv
  rcases hb with rfl|rfl|rfl|rfl|rfl|rfl|⟨i,hi,ha⟩
  ·exact⟨_,_,_,hcz,one _ (.int _ _),.inr (.inl rfl)⟩
  ·exact⟨_,_,_,hcp,one _ (.sl _ _ ⟨range_at (ltOf pb _ wP),rfl,rfl⟩),.inr (.inr rfl)⟩
  ·exact⟨_,_,_,wS,one _ (.int _ _),.inl (cellP _ _ _ _ hcS (by simp))⟩
  ·exact⟨_,_,_,wD,one _ (.chan (range_at (by omega))),.inl (cellP _ _ _ _ hcD (by simp))⟩
  ·exact⟨_,_,_,wR,one _ (.chan (range_at (by omega))),.inl (cellP _ _ _ _ hcR (by simp))⟩
  ·refine⟨_,_,_,wP,fun i v hv=>?_,.inl (cellP _ _ _ _ hB.row (by rw[hsz];exact hn1))⟩;have hi:i<n:=by have:=(Array.getElem?_eq_some_iff.1 hv).1;rw[hsz]at this;exact this
   have e:v= .slice (pa i) (pl i) (pc i):=by simpa[hi]using hv.symm
   subst e;cases hp:pa i with
   |none=>exact .slN _ _
   |some a=>
    obtain⟨g,l,rfl,h2,_⟩:=hear i hi a hp;exact .sl _ _ ⟨range_at (ltOf g _ h2),rfl,rfl⟩
  ·obtain⟨g,l,e,h2,h3,h4⟩:=hear i hi _ ha;simp only[Addr.mk.injEq,and_true]at e;subst e;refine⟨_,_,_,h2,fun j v hv=>?_,.inl (cellP _ _ _ _ h3 h4)⟩;simp only[u8s,List.getElem?_toArray,List.getElem?_map]at hv;cases hl:l[j]? with
   |none=>rw[hl]at hv;cases hv
   |some x=>rw[hl]at hv;obtain rfl:=Option.some.inj hv;exact .int _ _
 have kz:decide (Kp cz)=true:=decide_eq_true (.inl rfl);have hk:∀b i v,decide (Kp b)=true->w.cell? ⟨b,i,none⟩=some v->SV (Array.range w.heap.size) v v:=fun b i v hb hv=>by
  obtain⟨c,e,fz,h1,h2,_⟩:=what b (of_decide_eq_true hb);refine h2 i v ?_;simpa[World.cell?,h1]using hv
 have hrow:∀b,decide (Kp b)=true->b<w.heap.size->∃c e fz,w.heap[b]? =some (.cells c e fz):=fun b hb _=>by
  obtain⟨c,e,fz,h1,_⟩:=what b (of_decide_eq_true hb);exact⟨c,e,fz,h1⟩
 refine⟨fun b=>decide (Kp b),kz,hk,hrow,fun b hb=>?_,?_⟩
 ·obtain⟨_,_,_,_,_,h⟩:=what b (of_decide_eq_true hb);exact h
 have keep:∀b,Kp b->∀i v,w.cell? ⟨b,i,none⟩=some v->(priv (fun b=>decide (Kp b)) w).cell? ⟨b,i,none⟩=some v:=fun b hb i v hv=>priv_has (decide_eq_true hb) hv;have hps:(priv (fun b=>decide (Kp b)) w).heap.size=w.heap.size:=by simp[priv]
 have hpcs:PcsAt (priv (fun b=>decide (Kp b)) w) pb 0 K V s pa pl pc blk:=by
  refine⟨fun i hi=>?_,fun i hi=>hB.nil i (by have:=hB.num;omega),fun i hi hso=>?_⟩
  ·refine keep pb (.inr (.inr (.inr (.inr (.inr (.inl rfl)))))) _ _ ?_;have hi':i<n:=by have:=hB.num;omega
   simp[World.cell?,wP,hi']
  ·have hi':i<n:=by have:=hB.num;omega
   obtain⟨g,h1,h2,h3,h4,h5⟩:=blk_bytes hB hi' hso;have hl:=Pk.pieceN_length (n:=i) hblk;rw[h1,h2];refine⟨g,0,pc i,by rw[hl],by rw[hl];exact h3,h4,fun j hj=>?_⟩;rw[hl]at hj;refine keep g (.inr (.inr (.inr (.inr (.inr (.inr ⟨i,hi',h1⟩)))))) _ _ ?_;rw[Nat.zero_add];have h6:=h5 j hj;have e:=hrows g j _ h6;unfold World.cell? at h6⊢;rw[e];exact h6
 have hti:=worker_wti (R:=R) (Dn:=Dn) (B0:=B0) (z:=z) (cp:=cp) (cD:=cD) (cR:=cR) (cz:=cz) (Wg:=Wg) (cS:=⟨cSb,0,none⟩) (wz:=wz) (Dz:=Dz) (n:=n) (cpp:=n) (w:=priv (fun b=>decide (Kp b)) w) hB.num hK1 hK hV hs1 hs (Nat.le_refl _) (by have:=hB.num;omega) hblk hbl hpcs (by rw[hps];exact hB0)
  (keep cp (.inr (.inl rfl)) _ _ (by simp[World.cell?,hcp])) (keep cSb (.inr (.inr (.inl rfl))) _ _ (by simp[World.cell?,wS])) (keep cD (.inr (.inr (.inr (.inl rfl)))) _ _ (by simp[World.cell?,wD])) (keep cR (.inr (.inr (.inr (.inr (.inl rfl))))) _ _ (by simp[World.cell?,wR])) (keep cz (.inl rfl) _ _ (by simp[World.cell?,hcz])) hwz hDz
 refine hti ⟨Array.range w.heap.size,.one ⟨rfl,rfl,rfl,?_,?_⟩,priv_self hk hrow⟩
 ·exact tr_born hWg (ltOf cp _ hcp) (ltOf cSb _ wS) (ltOf cD _ wD) (ltOf cR _ wR) (ltOf cz _ hcz)
 ·intro x hx;simp only[List.mem_singleton]at hx;subst hx;kernel_rfl
end Go.Proofs.Ytmfpiodlecapiaa
namespace Go.Poi
open Go.Ren Go.Frag Go.Conc
variable {P:Program}
theorem tm_makeChan(t:TypeId)(x:Value):Tm P (Instr.makeChan t x):=by
 unfold Instr.makeChan;repeat' first
  |exact qY _
  |exact qX
  |exact tm_runtimePanic _
  |exact tm_newObj trivial
  |exact tm_typeInfo _
  |exact qK _
  |exact tm_asInt _
  |refine qZ ?_ fun _=>?_
  |split
theorem tm_op_chan{ρ:Operand->Value}{o:Oper}{t:TypeId}{x:Operand}(h:o.op= .makeChan t x):Tm P (execOp ρ o):=by
 unfold execOp;rw[h];exact tm_value (tm_makeChan t (ρ x))
theorem tm_act{X A:FuncId->Bool}(hC:ClosedT P X A){a:Act}{o:Oper}(h:opT P X o=true):Tm P (execOp a.eval o):=tm_op hC.ext (fun _=>rfl) (fun _=>rfl) h
variable {Sh:Nat->Prop} {Post:(Nat->Prop)->Goroutine->World->Prop} {b:Frame} {a:Act} {k:List Item} {cs:List Frame} {p:World}
theorem qR.o{X A:FuncId->Bool}(hC:ClosedT P X A){f:FuncId}{ops:Array Oper}{i:Nat}{rest:List Nat}{o:Oper}(hT:opT P X o=true)(ho:ops[i]? =some o)(hw:Region.wanted o (yielded ops a.tmps)=true)
 (h:∀τ d,∀K':Act->World->Prop,(∀a' p',qR P Sh (G ((base f).at a' (.inRegion ops rest::k)) cs) p' Post->K' a' p')->uponK o a K' ((execOp a.eval o).run P (p.re τ d))):
 qR P Sh (G ((base f).at a (.inRegion ops (i::rest)::k)) cs) p Post:=qR.op (tm_act hC hT) ho hw (by simp[base]) h
theorem qR.reg{id:Nat}{ops:Array Oper}{todo:List Nat}(ht:List.range ops.size=todo)(hn:qR P Sh (G (b.at a (.inRegion ops todo::k)) cs) p Post):qR P Sh (G (b.at a (.code (.region id ops false)::k)) cs) p Post:=
 .ctl rfl (fun _=>stepG_region) (ht▸hn)
theorem qR.seq{x y:Code}(hn:qR P Sh (G (b.at a (.code x:: .code y::k)) cs) p Post):qR P Sh (G (b.at a (.code (.seq x y)::k)) cs) p Post:=.ctl rfl (fun _=>stepG_seq) hn
theorem qR.regEnd{ops:Array Oper}(hn:qR P Sh (G (b.at a k) cs) p Post):qR P Sh (G (b.at a (.inRegion ops []::k)) cs) p Post:=.ctl rfl (fun _=>stepG_region_end) hn
theorem qR.skip(hn:qR P Sh (G (b.at a k) cs) p Post):qR P Sh (G (b.at a (.code .skip::k)) cs) p Post:=.ctl rfl (fun _=>stepG_skip) hn
theorem qR.block{id:Nat}{c:Code}(hn:qR P Sh (G (b.at a (.code c:: .inBlock id::k)) cs) p Post):qR P Sh (G (b.at a (.code (.block id c)::k)) cs) p Post:=.ctl rfl (fun _=>stepG_block) hn
theorem qR.inBlock{id:Nat}(hn:qR P Sh (G (b.at a k) cs) p Post):qR P Sh (G (b.at a (.inBlock id::k)) cs) p Post:=.ctl rfl (fun _=>stepG_inBlock) hn
theorem qR.loop{c:Code}(hn:qR P Sh (G (b.at a (.code c:: .inLoop c::k)) cs) p Post):qR P Sh (G (b.at a (.code (.loop c)::k)) cs) p Post:=.ctl rfl (fun _=>stepG_loop) hn
theorem qR.inLoop{c:Code}(hn:qR P Sh (G (b.at a (.code c:: .inLoop c::k)) cs) p Post):qR P Sh (G (b.at a (.inLoop c::k)) cs) p Post:=.ctl rfl (fun _=>stepG_inLoop) hn
theorem qR.yes{c:Operand}{x y:Code}(hc:a.eval c= .bool true)(hn:qR P Sh (G (b.at a (.code x::k)) cs) p Post):qR P Sh (G (b.at a (.code (.cond c x y)::k)) cs) p Post:=.ctl rfl (fun _=>stepG_cond hc) hn
theorem qR.no{c:Operand}{x y:Code}(hc:a.eval c= .bool false)(hn:qR P Sh (G (b.at a (.code y::k)) cs) p Post):qR P Sh (G (b.at a (.code (.cond c x y)::k)) cs) p Post:=.ctl rfl (fun _=>stepG_cond hc) hn
theorem qR.exit{id:Nat}{k':List Item}(he:exitTo id k=some k')(hn:qR P Sh (G (b.at a k') cs) p Post):qR P Sh (G (b.at a (.code (.exit id)::k)) cs) p Post:=.ctl rfl (fun _=>stepG_exit he) hn
end Go.Poi
namespace Go.Proofs.Ytmfpiodlecapiaa
open Go.Conc Go.ConcN Go.RowKit Go.Conc.Lib Go.ConcR.Gen Go.ConcN.Gen Go.Grp Go.Frag Go.Ren Go.Poi Go.Deep
open Go.ConcR (KK wgBlock WgAt stA smA rd wr mk Payload Aside2 DC0)
attribute [local go_sem↓] Go.wp_at_zero Go.wp_at_succ
structure ObjB(p:World)(bb N V s:Nat)(Kz:Nat->Nat)(pb:Nat->Nat)(pa:Nat->Nat->Option Addr)(pl pc:Nat->Nat->Nat)(blk:Nat->List Nat):Prop where
 N1:1<=N
 N2:N<=256
 V2:V<=20
 s1:1<=s
 s2:s<=16
 K1:∀z,z<N->1<=Kz z
 K2:∀z,z<N->Kz z<=20
 len:∀z,z<N->(blk z).length=Kz z*s
 lt:∀z,z<N->∀x∈blk z,x<256
 cell:∀z,z<N->p.cell? ⟨bb,z,none⟩=some (.slice (some ⟨pb z,0,none⟩) (Kz z+V) (Kz z+V))
 at_:∀z,z<N->BlkAt p (Kz z) V s (Kz z+V) (pb z) (pa z) (pl z) (pc z) (blk z)
structure AfterO(Sh Sh':Nat->Prop)(p p':World)(N V:Nat)(Kz:Nat->Nat)(pa:Nat->Nat->Option Addr)(blk:Nat->List Nat)(v:Value)(ok:Bool):Prop where
 grown:p.heap.size<=p'.heap.size
 keep:∀(b:Nat) o,p.heap[b]? =some o->Live o->p'.heap[b]? =some o
 old:∀b,b<p.heap.size->¬Sh b->¬Sh' b/\p'.heap[b]? =p.heap[b]?
 os:p'.os=p.os
 output:p'.output=p.output
 whole:ok=true↔∀z,z<N->wholeOf (pa z) (Kz z) V=true
 bytes:ok=true->∃g cap,v= .slice (some ⟨g,0,none⟩) ((List.range N).map blk).flatten.length cap/\p.heap.size<=g/\((List.range N).map blk).flatten.length<=cap/\cap<=maxLen/\∀j,j<((List.range N).map blk).flatten.length->p'.cell? ⟨g,j,none⟩=some (.int .u8 ((((List.range N).map blk).flatten[j]?.getD 0:Nat):Int))
theorem lit37(T:Array Value)(h:T.size=37):∃x0 x1 x2 x3 x4 x5 x6 x7 x8 x9 x10 x11 x12 x13 x14 x15 x16 x17 x18 x19 x20 x21 x22 x23 x24 x25 x26 x27 x28 x29 x30 x31 x32 x33 x34 x35 x36,T=#[x0,x1,x2,x3,x4,x5,x6,x7,x8,x9,x10,x11,x12,x13,x14,x15,x16,x17,x18,x19,x20,x21,x22,x23,x24,x25,x26,x27,x28,x29,x30,x31,x32,x33,x34,x35,x36]:=by
 refine⟨T[0],T[1],T[2],T[3],T[4],T[5],T[6],T[7],T[8],T[9],T[10],T[11],T[12],T[13],T[14],T[15],T[16],T[17],T[18],T[19],T[20],T[21],T[22],T[23],T[24],T[25],T[26],T[27],T[28],T[29],T[30],T[31],T[32],T[33],T[34],T[35],T[36],?_⟩;apply Array.ext
 ·simp[h]
 ·intro i h1 h2;match i,h1 with
  |0,_=>rfl
  |1,_=>rfl
  |2,_=>rfl
  |3,_=>rfl
  |4,_=>rfl
  |5,_=>rfl
  |6,_=>rfl
  |7,_=>rfl
  |8,_=>rfl
  |9,_=>rfl
  |10,_=>rfl
  |11,_=>rfl
  |12,_=>rfl
  |13,_=>rfl
  |14,_=>rfl
  |15,_=>rfl
  |16,_=>rfl
  |17,_=>rfl
  |18,_=>rfl
  |19,_=>rfl
  |20,_=>rfl
  |21,_=>rfl
  |22,_=>rfl
  |23,_=>rfl
  |24,_=>rfl
  |25,_=>rfl
  |26,_=>rfl
  |27,_=>rfl
  |28,_=>rfl
  |29,_=>rfl
  |30,_=>rfl
  |31,_=>rfl
  |32,_=>rfl
  |33,_=>rfl
  |34,_=>rfl
  |35,_=>rfl
  |36,_=>rfl
  |n+37,h1=>omega
structure Hd(p:World)(L:List Obj)(q:World):Prop where
 size:q.heap.size=p.heap.size+L.length
 old:∀b,b<p.heap.size->q.heap[b]? =p.heap[b]?
 new:∀(i:Nat) o,L[i]? =some o->q.heap[p.heap.size+i]? =some o
 os:q.os=p.os
 output:q.output=p.output
theorem Hd.start(p:World)(τ:Nat->Question->Nat)(d:Nat):Hd p [] (p.re τ d):=⟨rfl,fun _ _=>rfl,fun i o h=>by simp at h,rfl,rfl⟩
theorem Hd.re{p q:World}{L:List Obj}(h:Hd p L q)(τ:Nat->Question->Nat)(d:Nat):Hd p L (q.re τ d):=⟨h.size,h.old,h.new,h.os,h.output⟩
theorem Hd.alloc{p q:World}{L:List Obj}(h:Hd p L q)(o:Obj):Hd p (L++ [o]) (q.alloc o):=by
 have hs:=h.size;refine⟨by rw[Go.Ren.size_alloc,hs,List.length_append];rfl,fun b hb=>by rw[Go.Ren.heap_alloc_old (by omega)];exact h.old b hb,fun i x hx=>?_,h.os,h.output⟩;rcases Nat.lt_or_ge i L.length with hi|hi
 ·rw[List.getElem?_append_left hi]at hx;rw[Go.Ren.heap_alloc_old (by omega)];exact h.new i x hx
 ·rw[List.getElem?_append_right hi]at hx;have:i-L.length=0:=by
   rcases Nat.eq_zero_or_pos (i-L.length)with h0|h0
   ·exact h0
   ·rw[List.getElem?_eq_none (by simp;omega)]at hx;cases hx
  rw[this]at hx;obtain rfl:=Option.some.inj hx;have e:p.heap.size+i=q.heap.size:=by omega
  rw[e];exact Go.Ren.heap_alloc_new
theorem Hd.set{p q:World}{L:List Obj}(h:Hd p L q){i j:Nat}{c:Array Value}{e:TypeId}{fz:Nat×Nat}(hi:L[i]? =some (.cells c e fz))(v:Value):Hd p (L.set i (.cells (c.setIfInBounds j v) e fz)) (q.setCell ⟨p.heap.size+i,j,none⟩ v):=by
 refine⟨by rw[List.length_set];have:=h.size;simpa[World.setCell]using this,fun b hb=>?_,fun k x hx=>?_,h.os,h.output⟩
 ·have:¬p.heap.size+i=b:=by omega
  simp only[World.setCell,Array.getElem?_modify,if_neg this];exact h.old b hb
 ·by_cases ek:i=k
  ·subst ek;rw[List.getElem?_set_self (List.getElem?_eq_some_iff.1 hi).1]at hx;obtain rfl:=Option.some.inj hx;simp[World.setCell,Array.getElem?_modify,h.new i _ hi]
  ·rw[List.getElem?_set_ne ek]at hx;have:¬p.heap.size+i=p.heap.size+k:=by omega
   simp only[World.setCell,Array.getElem?_modify,if_neg this];exact h.new k x hx
set_option maxRecDepth 100000 in
set_option maxHeartbeats 4000000 in
theorem blocks_bto{Sh:Nat->Prop}{Post:(Nat->Prop)->Goroutine->World->Prop}{p:World}{cfn:FuncId}{ca:Act}{cops:Array Oper}{ci:Nat}{crest:List Nat}{ck:List Item}{cs:List Frame}{o:Oper}(ho:cops[ci]? =some o){bb N V s cap:Nat}{Kz:Nat->Nat}{pb:Nat->Nat}{pa:Nat->Nat->Option Addr}{pl pc:Nat->Nat->Nat}{blk:Nat->List Nat}(hO:ObjB p bb N V s Kz pb pa pl pc blk)
  (hend:∀(Sh':Nat->Prop) (p':World) (v:Value) (ok:Bool),AfterO Sh Sh' p p' N V Kz pa blk v ok->qR Try.prog Sh' (G ((base cfn).at (ca.put o.dst (.tuple #[v,.bool ok])) (.inRegion cops crest::ck)) cs) p' Post):
  qR Try.prog Sh (G ((base 67).at ⟨#[.slice (some ⟨bb,0,none⟩) N cap,.int .i64 V,undef,undef,undef,undef,undef,undef,undef,undef,undef,undef,undef,undef,undef,undef,undef,undef,undef,undef,undef,undef,undef,undef,undef,undef,undef,undef,undef,undef,undef,undef,undef,undef,undef,undef,undef],[]⟩ [.code (Try.f67.body.getD .skip)]) ((base cfn).at ca (.inRegion cops (ci::crest)::ck)::cs)) p Post:=by
 refine qR.with fun hSh _ _=>?_;have HO:=hide hO;have Hend:=hide hend;have HSh:=hide hSh
 clear hO hend hSh;conv=>arg 3;simp only[Try.f67,Option.getD_some]
 refine .ctl rfl (fun _=>stepG_seq) ?_;refine qR.runV qJ (by kernel_rfl) fun τ d=>?_;go_wp2;refine qR.world (Hd p [.cells #[.int .i64 V] 3]) ((Hd.start p τ d).alloc _) fun p1 h1=>?_;have ez:(p.re τ d).heap.size=p.heap.size:=rfl;rw[ez];clear ez;obtain⟨iR,hiR⟩:∃i,Try.prog.info? 138=some i:=Option.isSome_iff_exists.1 (by kernel_rfl);obtain⟨iD,hiD⟩:∃i,Try.prog.info? 125=some i:=Option.isSome_iff_exists.1 (by kernel_rfl);have hmR:∀w,(Instr.makeChan 123 (.int .i64 0)).run Try.prog w= .ok (.chan (some w.heap.size)) (w.alloc (.chan 0 #[] false 0 0 false)):=fun w=>run_makeChan (w:=w) Try.underlying123 hiR .i64 0 (by decide) (by simp);have hmD:∀w,(Instr.makeChan 124 (.int .i64 0)).run Try.prog w= .ok (.chan (some w.heap.size)) (w.alloc (.chan 0 #[] false 0 0 false)):=fun w=>run_makeChan (w:=w) Try.underlying124 hiD .i64 0 (by decide) (by simp);refine qR.seq (qR.reg (todo:= [0,1,2]) rfl ?_);refine qR.op (tm_op_chan rfl) rfl rfl (by decide) (fun τ d K hK=>?_);go_simp;refine hK _ _ ?_;clear hK;try walk_nrm
 have ez:(p1.re τ d).heap.size=p.heap.size+1:=h1.size;rw[ez];refine qR.world (Hd p [.cells #[.int .i64 V] 3,.chan 0 #[] false 0 0 false]) ((h1.re τ d).alloc _) fun q1 g1=>?_;clear ez;refine qR.o qJ (by kernel_rfl) rfl rfl (fun τ d K hK=>?_);go_simp;refine hK _ _ ?_;clear hK;try walk_nrm
 have ez:(q1.re τ d).heap.size=p.heap.size+2:=g1.size;rw[ez];refine qR.world (Hd p [.cells #[.int .i64 V] 3,.chan 0 #[] false 0 0 false,.cells #[.chan none] 123]) ((g1.re τ d).alloc _) fun r1 k1=>?_;clear ez;refine qR.o qJ (by kernel_rfl) rfl rfl (fun τ d K hK=>?_);have hcell:(r1.re τ d).cell? ⟨p.heap.size+2,0,none⟩=some (.chan none):=by
  have:=k1.new 2 _ rfl;simp[World.cell?,World.re,this]
 have hfr:(r1.re τ d).frozen? ⟨p.heap.size+2,0,none⟩=false:=by
  have:=k1.new 2 _ rfl;simp[World.frozen?,World.re,this]
 go_simp;try (unfold stored;go_simp)
 refine hK _ _ ?_;clear hK hcell hfr;try walk_nrm
 refine qR.world (Hd p [.cells #[.int .i64 V] 3,.chan 0 #[] false 0 0 false,.cells #[.chan (some (p.heap.size+1))] 123]) ((k1.re τ d).set (i:=2) (j:=0) rfl _) fun p2 h2=>?_;refine qR.regEnd ?_;refine qR.seq (qR.reg (todo:= [0,1,2]) rfl ?_);refine qR.op (tm_op_chan rfl) rfl rfl (by decide) (fun τ d K hK=>?_);go_simp;refine hK _ _ ?_;clear hK;try walk_nrm
 have ez:(p2.re τ d).heap.size=p.heap.size+3:=h2.size;rw[ez];refine qR.world (Hd p [.cells #[.int .i64 V] 3,.chan 0 #[] false 0 0 false,.cells #[.chan (some (p.heap.size+1))] 123,.chan 0 #[] false 0 0 false]) ((h2.re τ d).alloc _) fun q2 g2=>?_;clear ez;refine qR.o qJ (by kernel_rfl) rfl rfl (fun τ d K hK=>?_);go_simp;refine hK _ _ ?_;clear hK;try walk_nrm
 have ez:(q2.re τ d).heap.size=p.heap.size+4:=g2.size;rw[ez];refine qR.world (Hd p [.cells #[.int .i64 V] 3,.chan 0 #[] false 0 0 false,.cells #[.chan (some (p.heap.size+1))] 123,.chan 0 #[] false 0 0 false,.cells #[.chan none] 124]) ((g2.re τ d).alloc _) fun r2 k2=>?_;clear ez;refine qR.o qJ (by kernel_rfl) rfl rfl (fun τ d K hK=>?_);have hcell:(r2.re τ d).cell? ⟨p.heap.size+4,0,none⟩=some (.chan none):=by
  have:=k2.new 4 _ rfl;simp[World.cell?,World.re,this]
 have hfr:(r2.re τ d).frozen? ⟨p.heap.size+4,0,none⟩=false:=by
  have:=k2.new 4 _ rfl;simp[World.frozen?,World.re,this]
 go_simp;try (unfold stored;go_simp)
 refine hK _ _ ?_;clear hK hcell hfr;try walk_nrm
 refine qR.world (Hd p [.cells #[.int .i64 V] 3,.chan 0 #[] false 0 0 false,.cells #[.chan (some (p.heap.size+1))] 123,.chan 0 #[] false 0 0 false,.cells #[.chan (some (p.heap.size+3))] 124]) ((k2.re τ d).set (i:=4) (j:=0) rfl _) fun p3 h3=>?_;refine qR.regEnd ?_;refine qR.seq (qR.reg (todo:= [0]) rfl ?_);have hold:∀(b:Nat) (o:Obj),p.heap[b]? =some o->p3.heap[b]? =some o:=fun b o h=>by
  rw[h3.old b (Array.getElem?_eq_some_iff.1 h).1];exact h
 have hcold:∀(a:Addr) (v:Value),p.cell? a=some v->p3.cell? a=some v:=fun a v h=>by
  have hb:a.block<p.heap.size:=by
   unfold World.cell? at h;cases hb:p.heap[a.block]? with
   |none=>rw[hb]at h;simp at h
   |some o=>exact(Array.getElem?_eq_some_iff.1 hb).1
  have e:=h3.old a.block hb;unfold World.cell? at h⊢;rw[e];exact h
 have hblk3:∀z,z<N->BlkAt p3 (Kz z) V s (Kz z+V) (pb z) (pa z) (pl z) (pc z) (blk z):=fun z hz=>by
  have hB:=HO.out.at_ z hz;refine⟨hB.num,hold _ _ hB.row,hB.nil,fun i hi hso=>?_⟩;obtain⟨g,l,e1,e2,e3⟩:=hB.has i hi hso;exact⟨g,l,e1,hold _ _ e2,e3⟩
 have hRw:=h3.new 1 _ rfl;have hDw:=h3.new 3 _ rfl;have hcRw:=h3.new 2 _ rfl;have hcDw:=h3.new 4 _ rfl;have hcSw:=h3.new 0 _ rfl;rw[Nat.add_zero]at hcSw;have hs3:p3.heap.size=p.heap.size+5:=h3.size;refine phase_bto (p:=p3) (bo:=0) (cR:=p.heap.size+2) (cD:=p.heap.size+4) (R:=p.heap.size+1) (Dn:=p.heap.size+3) (cS:=⟨p.heap.size,0,none⟩) (wz:=fun z=>wholeOf (pa z) (Kz z) V) (Dz:=blk) (pa:=fun z=>some ⟨pb z,0,none⟩) (pl:=fun z=>Kz z+V) (pc:=fun z=>Kz z+V) ⟨HO.out.N1,by have:=HO.out.N2;omega⟩ (fun b hb=>by have:=HSh.out b hb;omega) hRw hDw (by omega)
  (by simp[World.cell?,hcRw]) (by simp[World.cell?,hcDw]) (fun z hz=>by rw[Nat.zero_add];exact hcold _ _ (HO.out.cell z hz)) (by show p.heap.size<_;omega) (fun z cz cp w hz hrows hsz hcz hcp hB1 hB2 hne=>?_) (fun ok T p' hA=>?_)
 ·exact born_tree (hblk3 z hz) (HO.out.K1 z hz) (HO.out.K2 z hz) HO.out.V2 HO.out.s1 HO.out.s2 (HO.out.len z hz) (HO.out.lt z hz) (by omega) (by omega) (by omega) hcRw hcDw hcSw rfl rfl hsz (by omega) hrows hcz hcp
 ·obtain⟨x0,x1,x2,x3,x4,x5,x6,x7,x8,x9,x10,x11,x12,x13,x14,x15,x16,x17,x18,x19,x20,x21,x22,x23,x24,x25,x26,x27,x28,x29,x30,x31,x32,x33,x34,x35,x36,rfl⟩:∃x0 x1 x2 x3 x4 x5 x6 x7 x8 x9 x10 x11 x12 x13 x14 x15 x16 x17 x18 x19 x20 x21 x22 x23 x24 x25 x26 x27 x28 x29 x30 x31 x32 x33 x34 x35 x36,T=#[x0,x1,x2,x3,x4,x5,x6,x7,x8,x9,x10,x11,x12,x13,x14,x15,x16,x17,x18,x19,x20,x21,x22,x23,x24,x25,x26,x27,x28,x29,x30,x31,x32,x33,x34,x35,x36]:=lit37 T hA.size;have hx12:x12= .bool ok:=Option.some.inj hA.flag;subst hx12;have hkeepO:∀(b:Nat) o,p.heap[b]? =some o->Live o->p'.heap[b]? =some o:=fun b o h1 h2=>by
   have hlt:=(Array.getElem?_eq_some_iff.1 h1).1;exact hA.keep b o (hold b o h1) h2 (by omega) (by omega)
  have holdO:∀b,b<p.heap.size->¬Sh b->¬(Sh b\/b=p.heap.size+5)/\p'.heap[b]? =p.heap[b]? :=fun b h1 h2=>⟨by rintro(h|h);exact h2 h;omega,(hA.old b (by omega) h2 (by omega) (by omega)).trans (h3.old b h1)⟩;have hg:=hA.grown;conv=>arg 3;simp only[Try.f67,Option.getD_some,qT,dropC,qV]
  refine qR.regEnd ?_;refine qR.runV qJ (by kernel_rfl) fun τ d=>?_;cases ok with
  |false=>
   obtain⟨hx11,z,hz,hwz⟩:=hA.no rfl;have hx11:x11= .slice none 0 0:=Option.some.inj hx11;subst hx11;have hJ:=hide (join_none (p'.re τ d));go_wp2_with (go_at_call 88;refine hJ.out.mono ?_;rintro _ wq ⟨rfl,hq⟩;have hq2:=hq.symm;clear hq;subst hq2)
   intro todo;refine qR.back ho Try.func67 (v:=.tuple #[.slice (some ⟨(p'.re τ d).heap.size,0,none⟩) 0 0,.bool false]) (by simp[results,Try.f67,go_sem]) (by simp[results,Try.f67]) (Hend.out _ _ _ false ⟨?_,fun b o h1 h2=>?_,fun b h1 h2=>⟨(holdO b h1 h2).1,(Go.Ren.heap_alloc_old (w:=p'.re τ d) (by show b<p'.heap.size;omega)).trans (holdO b h1 h2).2⟩,hA.os.trans h3.os,hA.output.trans h3.output,⟨(fun h=>by cases h),fun h=>?_⟩,(fun h=>by cases h)⟩)
   ·rw[Go.Ren.size_alloc];have:(p'.re τ d).heap.size=p'.heap.size:=rfl;omega
   ·have:=hkeepO b o h1 h2;rw[Go.Ren.heap_alloc_old (by exact(Array.getElem?_eq_some_iff.1 this).1)];exact this
   ·have:=h z hz;rw[show wholeOf (pa z) (Kz z) V=false from hwz]at this;cases this
  |true=>
   obtain⟨hall,cP,hx11,parts,hp1,hp2,hp3⟩:=hA.yes rfl;have hx11:x11= .slice (some ⟨cP,0,none⟩) N N:=Option.some.inj hx11;subst hx11;have hJ:Hid (Calls Try.prog 88 #[.slice (some ⟨cP,0,none⟩) N N,.slice none 0 0] (p'.re τ d) fun e w'=>∃g cap,e= .returned (.slice (some ⟨g,0,none⟩) ((List.range N).map blk).flatten.length cap)/\p'.heap.size<=g/\((List.range N).map blk).flatten.length<=cap/\cap<=maxLen/\(∀j,j<cap->w'.frozen? ⟨g,j,none⟩=false)/\
     (∀j,j<((List.range N).map blk).flatten.length->w'.cell? ⟨g,j,none⟩=some (.int .u8 ((((List.range N).map blk).flatten[j]?.getD 0:Nat):Int)))/\Below p'.heap.size (p'.re τ d) w'):=by
    refine join_walk0 cP 0 N N parts.toList ((List.range N).map blk) (p'.re τ d) (by simpa using hp2) (by simp) HO.out.N1 (by have:=HO.out.N2;omega) (Nat.le_refl _) (fun i v hv=>?_) (fun i v l hv hl=>?_) (fun l hl=>?_) (fun l hl x hx=>?_) ?_
    ·rw[Nat.zero_add];show p'.cell? _=_;simpa[World.cell?,hp1]using hv
    ·have hi:i<N:=by have:=(List.getElem?_eq_some_iff.1 hl).1;simpa using this
     have el:l=blk i:=by simpa[hi]using hl.symm
     subst el;obtain⟨v',hv',da,dl,dc,rfl,h4,h5⟩:=hp3 i hi;have:v= .slice da dl dc:=by
      have hv2:parts[i]? =some v:=by simpa using hv
      rw[hv']at hv2;exact(Option.some.inj hv2).symm
     subst this;have hl1:=HO.out.len i hi;have hK1:=HO.out.K1 i hi;have hs1:=HO.out.s1;have hpos:0<Kz i*s:=Nat.mul_pos hK1 hs1;obtain⟨b,o,rfl,_,h6⟩:=h5 (by omega);exact⟨b,o,dc,by rw[h4],HO.out.lt i hi,fun j hj=>h6 j (by omega)⟩
    ·obtain⟨z,hz,rfl⟩:=List.mem_map.1 hl;rw[List.mem_range]at hz;intro e;have hl1:=HO.out.len z hz;have hpos:0<Kz z*s:=Nat.mul_pos (HO.out.K1 z hz) HO.out.s1;rw[e]at hl1;simp at hl1;omega
    ·obtain⟨z,hz,rfl⟩:=List.mem_map.1 hl;exact HO.out.lt z (List.mem_range.1 hz) x hx
    ·have:∀k,k<=N->((List.range k).map blk).flatten.length<=k*320:=by
      intro k hk;induction k with
      |zero=>simp
      |succ k ih=>
       have:=ih (by omega);have h1:=HO.out.len k (by omega);have h2:=Nat.mul_le_mul (HO.out.K2 k (by omega)) HO.out.s2;rw[List.range_succ,List.map_append,List.flatten_append,List.length_append];simp only[List.map_cons,List.map_nil,List.flatten_cons,List.flatten_nil,List.append_nil];omega
     have h1:=this N (Nat.le_refl _);have:=HO.out.N2;omega
   go_wp2_with (go_at_call 88;refine hJ.out.mono ?_;rintro _ w6 ⟨g,cap6,rfl,k1,k2,k3,k4,k5,k6⟩;replace k1:=hide k1;replace k2:=hide k2;replace k3:=hide k3;replace k5:=hide k5;replace k6:=hide k6)
   intro todo;refine qR.back ho Try.func67 (v:=.tuple #[.slice (some ⟨g,0,none⟩) ((List.range N).map blk).flatten.length cap6,.bool true]) (by simp[results,Try.f67,go_sem]) (by simp[results,Try.f67]) (Hend.out _ w6 _ true ⟨?_,fun b o h1 h2=>?_,fun b h1 h2=>⟨(holdO b h1 h2).1,(k6.out.block b (by omega)).trans (holdO b h1 h2).2⟩,k6.out.os.trans (hA.os.trans h3.os),k6.out.output.trans (hA.output.trans h3.output),⟨fun _=>hall,fun _=>rfl⟩,fun _=>⟨g,cap6,rfl,?_,k2.out,k3.out,k5.out⟩⟩)
   ·have:=k6.out.size;have:p'.heap.size<=w6.heap.size:=this;omega
   ·have:=hkeepO b o h1 h2;rw[k6.out.block b (Array.getElem?_eq_some_iff.1 this).1];exact this
   ·have:=k1.out;omega
end Go.Proofs.Ytmfpiodlecapiaa
namespace Go.Proofs.Ytmfpiodlecapiaa
open Go.RowKit Go.Deep Go.Poi
structure OD where
 bb:Nat
 cap:Nat
 pb:Nat->Nat
 pa:Nat->Nat->Option Addr
 pl:Nat->Nat->Nat
 pc:Nat->Nat->Nat
structure HObj(w:World)(B ob:Nat)(s:Oj)(d:OD)(hd:Nat->Bool):Prop where
 row:ObjRow w ob s.len s.sz s.ms s.V d.bb s.N d.cap
 bbr:∃L,qS w d.bb 33 L
 blocks:ObjB w d.bb s.N s.V s.sz s.K d.pb d.pa d.pl d.pc s.blk
 heard:∀z,z<s.N->∀n,n<s.K z+s.V->(d.pa z n).isSome=hd (s.off z+n)
 inj:∀z z',z<s.N->z'<s.N->d.pb z=d.pb z'->z=z'
 new:∀z,z<s.N->B<=d.pb z
def CK(X:Nat->Prop)(w w':World):Prop:=∀(b:Nat) (L:List Value) (e:TypeId),qS w b e L->L≠ []->e≠22/\e≠4->¬X b->qS w' b e L
theorem CK.of_below{X:Nat->Prop}{w w':World}(h:Below w.heap.size w w'):CK X w w':=fun _ _ _ h1 _ _ _=>h1.later h
theorem CK.of_live{X:Nat->Prop}{w w':World}(h:∀(b:Nat) o,w.heap[b]? =some o->Live o->w'.heap[b]? =some o):CK X w w':=fun b L e h1 h2 _ _=>
 h b _ h1 (fun e' fz he=>by
  simp only[Obj.cells.injEq]at he;exact h2 (by simpa using he.1))
theorem CK.of_kp{X:Nat->Prop}{w w':World}(h:Kp X w w'):CK X w w':=fun b _ _ h1 _ _ h4=>h1.of_block (h.block b h1.lt h4)
theorem CK.set{X:Nat->Prop}{w:World}{g:Nat}{L0:List Value}(hg:qS w g 22 L0)(v:Value):CK X w (w.setCell ⟨g,0,none⟩ v):=fun b L e h1 _ h3 _=>
 h1.other (fun(eb:b=g)=>h3.1 (by subst eb;exact(h1.unique hg).1)) v
theorem CK.setB{X:Nat->Prop}{w:World}{g i:Nat}{L0:List Value}(hg:qS w g 4 L0)(v:Value):CK X w (w.setCell ⟨g,i,none⟩ v):=fun b L e h1 _ h3 _=>
 h1.other (fun(eb:b=g)=>h3.2 (by subst eb;exact(h1.unique hg).1)) v
theorem CK.trans{w w1 w2:World}(h:CK (fun _=>False) w w1)(h':CK (fun _=>False) w1 w2):CK (fun _=>False) w w2:=fun b L e h1 h2 h3 h4=>h' b L e (h b L e h1 h2 h3 h4) h2 h3 h4
theorem CK.laid{X:Nat->Prop}{w:World}{mr clock id ob:Nat}{es es0:Array MapEntry}{c0:Nat}(hm:w.heap[mr]? =some (.map es0 c0)):CK X w (laidAt w mr es clock id ob):=fun b L e h1 _ _ _=>by
 refine h1.of_block ?_;have hne:mr≠b:=fun e=>by subst e;rw[h1]at hm;cases hm
 simp[laidAt,hne]
theorem row_ne{w:World}{g:Nat}{t:TypeId}{L:List Value}{i:Nat}{v:Value}(h:qS w g t L)(hv:w.cell? ⟨g,i,none⟩=some v):L≠ []:=fun e=>by
 subst e;unfold qS at h;simp[World.cell?,h]at hv
theorem rowL_has{w:World}{g:Nat}{t:TypeId}{L:List Value}{i:Nat}{v:Value}(h:qS w g t L)(hv:w.cell? ⟨g,i,none⟩=some v):L[i]? =some v:=by
 unfold qS at h;simpa[World.cell?,h]using hv
theorem blk_keep{w w':World}{K V s n pb:Nat}{pa:Nat->Option Addr}{pl pc:Nat->Nat}{blk:List Nat}(h:BlkAt w K V s n pb pa pl pc blk)(hn:0<n)(hs:1<=s)
  (h1:∀L,qS w pb 36 L->L≠ []->qS w' pb 36 L)(h2:∀g L,qS w g 5 L->L≠ []->qS w' g 5 L):BlkAt w' K V s n pb pa pl pc blk:=by
 refine⟨h.num,h1 _ h.row (fun e=>?_),h.nil,fun i hi hs'=>?_⟩
 ·have:=congrArg List.length e;simp at this;omega
 ·obtain⟨g,l,e1,e2,e3,e4,e5,e6⟩:=h.has i hi hs';refine⟨g,l,e1,h2 g _ e2 (fun e=>?_),e3,e4,e5,e6⟩;have:=congrArg List.length e;simp[u8s]at this;rw[this]at e4;simp at e4;omega
theorem HObj.keep{X:Nat->Prop}{w w':World}{B ob:Nat}{s:Oj}{d:OD}{hd:Nat->Bool}(h:HObj w B ob s d hd)(hk:CK X w w')(hX:∀b,X b->∃L,qS w b 36 L)(hx:∀z,z<s.N->¬X (d.pb z)):HObj w' B ob s d hd:=by
 have nX:∀{b:Nat} {e:TypeId} {L:List Value},qS w b e L->e≠36->¬X b:=fun h1 h2 h3=>by
  obtain⟨L',h4⟩:=hX _ h3;exact h2 (h1.unique h4).1
 obtain⟨L,hL⟩:=h.bbr;have hO:=h.blocks;have hne:L≠ []:=row_ne hL (hO.cell 0 hO.N1);have hL':qS w' d.bb 33 L:=hk _ _ _ hL hne (by decide) (nX hL (by decide));have hrow:qS w ob 109 [.int .i64 s.len,.int .i64 s.sz,.int .i64 s.ms,.int .i64 s.V,.slice (some ⟨d.bb,0,none⟩) s.N d.cap]:=h.row;refine⟨hk _ _ _ hrow (by simp) (by decide) (nX hrow (by decide)),⟨L,hL'⟩,?_,h.heard,h.inj,h.new⟩;refine⟨hO.N1,hO.N2,hO.V2,hO.s1,hO.s2,hO.K1,hO.K2,hO.len,hO.lt,fun z hz=>hL'.cell _ _ (rowL_has hL (hO.cell z hz)),fun z hz=>?_⟩;have:=hO.K1 z hz;exact blk_keep (hO.at_ z hz) (by omega) hO.s1 (fun L h1 h2=>hk _ _ _ h1 h2 (by decide) (hx z hz)) (fun g L h1 h2=>hk _ _ _ h1 h2 (by decide) (nX h1 (by decide)))
theorem HObj.fresh{w wB:World}{B g:Nat}{s:Oj}(ok:s.Ok){hdv L:List Value}{vB:Value}{pb:Nat->Nat}(hB:B<=w.heap.size)(h:NewInv w hdv s.len s.sz s.ms s.V g (fun i=>(Cut.sizes s.len s.sz s.ms)[i]?.getD 0) L wB s.N vB pb):
  ∃d,d.pb=pb/\HObj wB B (w.heap.size+1) s d (fun _=>false):=by
 have hN1:=ok.N1;obtain⟨bb,cap,cur,rfl,hr,_,_,_,ht⟩:=h.own.open' (by simp;omega);have hlen:((List.range s.N).map fun i=>Value.slice (some ⟨pb i,0,none⟩) ((Cut.sizes s.len s.sz s.ms)[i]?.getD 0+s.V) ((Cut.sizes s.len s.sz s.ms)[i]?.getD 0+s.V)).length=s.N:=by simp
 refine⟨⟨bb,cap,pb,fun _ _=>none,fun _ _=>0,fun _ _=>0⟩,rfl,?_,⟨cur,hr⟩,?_,fun _ _ _ _=>rfl,h.inj,fun z hz=>by have:=(h.row z hz).1;show B<=pb z;omega⟩
 ·have:=h.obj;rw[hlen]at this;exact this
 ·refine⟨ok.N1,ok.N2,ok.v,ok.s1,ok.s2,fun z hz=>(ok.K_bounds hz).1,fun z hz=>(ok.K_bounds hz).2,fun z hz=>ok.blk_length hz,fun z _=>ok.blk_lt z,fun z hz=>hr.cell _ _ (take_at ht ?_),fun z hz=>⟨rfl,?_,fun _ _ _=>⟨rfl,rfl⟩,fun i _ h=>by cases h⟩⟩
  ·simp[hz,Oj.K,Oj.L]
  ·have:=(h.row z hz).2.1;have e:((List.range (s.K z+s.V)).map fun _=>Value.slice none 0 0)=List.replicate ((Cut.sizes s.len s.sz s.ms)[z]?.getD 0+s.V) (.slice none 0 0):=by
    rw[List.map_const',List.length_range];rfl
   show qS wB (pb z) _ ((List.range (s.K z+s.V)).map fun _=>Value.slice none 0 0);rw[e];exact this
def OD.upd(d:OD)(z n g s c:Nat):OD:= {d with pa:=fun z' n'=>if z'=z/\n'=n then some ⟨g,0,none⟩else d.pa z' n',pl:=fun z' n'=>if z'=z/\n'=n then s else d.pl z' n',pc:=fun z' n'=>if z'=z/\n'=n then c else d.pc z' n'}
def upd(hd:Nat->Bool)(k:Nat):Nat->Bool:=fun j=>if j=k then true else hd j
theorem HObj.more{w w':World}{B ob:Nat}{s:Oj}(ok:s.Ok){d:OD}{hd:Nat->Bool}(h:HObj w B ob s d hd){z n g c:Nat}(hz:z<s.N)(hn:n<s.K z+s.V)(hc:s.sz<=c)
  (hrow:qS w' g 5 (u8s (s.pc z n++List.replicate (c-s.sz) 0)))(hpb:qS w' (d.pb z) 36 (((List.range (s.K z+s.V)).map fun i=>Value.slice (d.pa z i) (d.pl z i) (d.pc z i)).set n (.slice (some ⟨g,0,none⟩) s.sz c)))
  (hk:Kp (fun b=>b=d.pb z) w w'):HObj w' B ob s (d.upd z n g s.sz c) (upd hd (s.off z+n)):=by
 have hO:=h.blocks;have hck:=CK.of_kp hk;have hpr:=(hO.at_ z hz).row;have nX:∀{b:Nat} {e:TypeId} {L:List Value},qS w b e L->e≠36->¬b=d.pb z:=fun h1 h2 h3=>by
  subst h3;exact h2 (h1.unique hpr).1
 obtain⟨L,hL⟩:=h.bbr;have hne:L≠ []:=row_ne hL (hO.cell 0 hO.N1);have hL':qS w' d.bb 33 L:=hck _ _ _ hL hne (by decide) (nX hL (by decide));have hob:qS w ob 109 [.int .i64 s.len,.int .i64 s.sz,.int .i64 s.ms,.int .i64 s.V,.slice (some ⟨d.bb,0,none⟩) s.N d.cap]:=h.row;refine⟨hck _ _ _ hob (by simp) (by decide) (nX hob (by decide)),⟨L,hL'⟩,?_,fun z' hz' n' hn'=>?_,h.inj,h.new⟩
 ·refine⟨hO.N1,hO.N2,hO.V2,hO.s1,hO.s2,hO.K1,hO.K2,hO.len,hO.lt,fun z hz=>hL'.cell _ _ (rowL_has hL (hO.cell z hz)),fun z' hz'=>?_⟩;have hK1:=hO.K1 z' hz';by_cases e:z'=z
  ·subst e;have hB:=hO.at_ z' hz';refine⟨rfl,?_,fun i hi hno=>?_,fun i hi hso=>?_⟩
   ·refine Eq.trans hpb ?_;congr 2
    congr 1
    apply List.ext_getElem?;intro i;by_cases hi:n=i
    ·subst hi;rw[List.getElem?_set_self (by simpa using hn)];simp[hn,OD.upd]
    ·rw[List.getElem?_set_ne hi];by_cases hi2:i<s.K z'+s.V
     ·simp[hi2,OD.upd,Ne.symm hi]
     ·simp[hi2]
   ·by_cases hin:i=n
    ·subst hin;simp[OD.upd]at hno
    ·simp only[OD.upd,hin,and_false,if_false]at hno⊢;exact hB.nil i hi hno
   ·by_cases hin:i=n
    ·subst hin;have hl:=ok.pc_length (n:=i) hz';refine⟨g,_,by simp[OD.upd],hrow,by simp[OD.upd],?_,by simpa[OD.upd]using hc,?_,fun x hx=>?_⟩
     ·simp[OD.upd,hl];omega
     ·rw[List.take_append_of_le_length (by omega),List.take_of_length_le (by omega)];rfl
     ·rcases List.mem_append.1 hx with hx|hx
      ·exact ok.pc_lt hz' hn x hx
      ·rw[(List.mem_replicate.1 hx).2];omega
    ·simp only[OD.upd,hin,and_false,if_false]at hso⊢;obtain⟨g',l,e1,e2,e3,e4,e5,e6⟩:=hB.has i hi hso;refine⟨g',l,e1,hck _ _ _ e2 (fun e=>?_) (by decide) (nX e2 (by decide)),e3,e4,e5,e6⟩;have:=congrArg List.length e;simp[u8s]at this;rw[this]at e4;simp at e4;have:=hO.s1;omega
  ·have hB:=hO.at_ z' hz';have:=blk_keep hB (by omega) hO.s1 (fun L h1 h2=>hck _ _ _ h1 h2 (by decide) (fun e2=>e (h.inj _ _ hz' hz e2))) (fun g L h1 h2=>hck _ _ _ h1 h2 (by decide) (nX h1 (by decide)));simpa[OD.upd,e]using this
 ·simp only[OD.upd,upd];by_cases e:z'=z/\n'=n
  ·obtain⟨rfl,rfl⟩:=e;simp
  ·have:¬s.off z'+n'=s.off z+n:=fun e2=>e (s.off_inj hz' hn' hz hn e2);rw[if_neg e,if_neg this];exact h.heard z' hz' n' hn'
theorem add_HObj{w:World}{B ob:Nat}{s:Oj}(ok:s.Ok){d:OD}{hd:Nat->Bool}(h:HObj w B ob s d hd){id z n gb go pcap:Nat}(hz:z<s.N)(hn:n<s.K z+s.V)
  (hp:∀j,j<s.sz->w.cell? ⟨gb,go+j,none⟩=some (.int .u8 (((s.pc z n)[j]?.getD 0:Nat):Int))):
  Calls Try.prog 70 #[.pointer (some ⟨ob,0,none⟩),headV id s.len s.sz s.ms s.V z n,.slice (some ⟨gb,go,none⟩) s.sz pcap] w fun e w'=>
   ∃b d',e= .returned (.bool b)/\b= !hd (s.off z+n)/\d'.pb=d.pb/\HObj w' B ob s d' (upd hd (s.off z+n))/\Kp (fun b=>b=d.pb z) w w':=by
 have hO:=h.blocks;have hB:=hO.at_ z hz;cases hpa:d.pa z n with
 |none=>
  have hrn:((List.range (s.K z+s.V)).map fun i=>Value.slice (d.pa z i) (d.pl z i) (d.pc z i))[n]? =some (.slice none 0 0):=by
   obtain⟨h1,h2⟩:=hB.nil n hn hpa;simp[hn,hpa,h1,h2]
  refine(add_new ob s.len s.sz s.ms s.V d.bb s.N d.cap id z n (d.pb z) (s.K z+s.V) s.sz gb go pcap _ (s.pc z n) hz hn ok.s1 (by have:=ok.s2;omega) (ok.pc_length hz) w h.row (hO.cell z hz) hB.row hrn hp).mono ?_;rintro e w' ⟨rfl,g,c,_,h2,_,h4,h5,h6⟩;exact⟨true,d.upd z n g s.sz c,rfl,by rw[<-h.heard z hz n hn,hpa];rfl,rfl,h.more ok hz hn h2 h4 h5 h6,h6⟩
 |some a=>
  obtain⟨g,l,e1,e2,e3,e4,e5,e6,_⟩:=hB.has n hn (by rw[hpa];rfl);have hrn:((List.range (s.K z+s.V)).map fun i=>Value.slice (d.pa z i) (d.pl z i) (d.pc z i))[n]? =some (.slice (some ⟨g,0,none⟩) s.sz (d.pc z n)):=by
   simp[hn,e1,e3]
  refine(add_known g (d.pc z n) ob s.len s.sz s.ms s.V d.bb s.N d.cap id z n (d.pb z) (s.K z+s.V) s.sz gb go pcap _ (s.pc z n) hz hn (ok.pc_length hz) w h.row (hO.cell z hz) hB.row hrn (fun j hj=>?_) hp).mono ?_
  ·rw[Nat.zero_add];have e7:(s.pc z n)[j]?.getD 0=l[j]?.getD 0:=by
    rw[show s.pc z n=l.take s.sz from e6.symm,List.getElem?_take_of_lt hj]
   rw[e7];exact e2.cell _ _ (u8s_at (by omega))
  ·rintro e w' ⟨rfl,hb⟩;have hh:=h.keep (X:=fun _=>False) (CK.of_below hb) (fun _ h=>h.elim) (fun _ _ h=>h);refine⟨false,d,rfl,by rw[<-h.heard z hz n hn,hpa];rfl,rfl,⟨hh.row,hh.bbr,hh.blocks,fun z' hz' n' hn'=>?_,hh.inj,hh.new⟩,⟨hb.os,hb.tape,hb.output,hb.size,fun k hk _=>hb.block k hk⟩⟩;rw[h.heard z' hz' n' hn'];unfold upd;split
   ·rename_i e;obtain⟨rfl,rfl⟩:=s.off_inj hz' hn' hz hn e;rw[<-h.heard z' hz' n' hn',hpa];rfl
   ·rfl
end Go.Proofs.Ytmfpiodlecapiaa
