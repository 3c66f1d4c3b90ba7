import Derived.Test.YtmfpiodlecapiaaJ05
import Derived.Lib.SliceRun
namespace Go.Proofs.Ytmfpiodlecapiaa
open Go.RowKit Go.Deep
attribute [local go_sem↓] Go.wp_at_zero Go.wp_at_succ
theorem cellLt{w:World}{a:Addr}{v:Value}(h:w.cell? a=some v):a.block<w.heap.size:=by
 unfold World.cell? at h;cases hb:w.heap[a.block]? with
 |none=>rw[hb]at h;simp at h
 |some o=>exact(Array.getElem?_eq_some_iff.1 hb).1
def picks(pa:Nat->Option Addr)(heard:Bool)(n:Nat):List Nat:=(List.range n).filter fun j=>(pa j).isSome==heard
theorem picks_succ(pa:Nat->Option Addr)(heard:Bool)(k:Nat):picks pa heard (k+1)=if(pa k).isSome==heard then picks pa heard k++ [k]else picks pa heard k:=by
 unfold picks;rw[List.range_succ,List.filter_append];by_cases h:((pa k).isSome==heard)=true<;>simp[h]
theorem picks_length(pa:Nat->Option Addr)(heard:Bool)(n:Nat):(picks pa heard n).length<=n:=by
 have:=List.length_filter_le (fun j=>(pa j).isSome==heard) (List.range n);simpa[picks]using this
theorem Try.infoInt0:(Try.prog.info? 3).map (fun i=>(i.zero,i.size,i.bytes))=some (some (.int .i64 0),1,8):=by kernel_rfl
theorem which_none(a:Option Addr)(cap:Nat)(heard:Bool)(w:World):Calls Try.prog 109 #[.slice a 0 cap,.bool heard] w fun e w'=>e= .returned (.slice none 0 0)/\w'=w:=by
 go_enter Try.func109,Try.ntmps109;go_wp2;go_loopw [5,10] (fun v x wr=>v= .slice none 0 0/\x= .int .i64 0/\wr=w) (fun _ _ _=>0)
 case atStart=>exact⟨rfl,rfl,rfl⟩
 case round=>
  obtain⟨rfl,rfl,rfl⟩:=hrel;go_wp2;go_ret;exact⟨rfl,rfl⟩
theorem which_walk(pb po n cap:Nat)(pa:Nat->Option Addr)(pl pc:Nat->Nat)(heard:Bool)(hn:n<=65536)(w:World)(hc:∀j,j<n->w.cell? ⟨pb,po+j,none⟩=some (.slice (pa j) (pl j) (pc j))):
  Calls Try.prog 109 #[.slice (some ⟨pb,po,none⟩) n cap,.bool heard] w fun e w'=>
   ∃v,e= .returned v/\OwnS w' 3 v (i64s (picks pa heard n))/\(∀k,v.ownBlock=some k->w.heap.size<=k)/\Below w.heap.size w w':=by
 obtain⟨i0,hi,hz0,hz1,hz2⟩:=info_parts Try.infoInt0;have hC:=hide hc;have hlt0:Hid (0<n->pb<w.heap.size):=fun h=>by
  have:=hc 0 h;exact cellLt this
 clear hc;go_enter Try.func109,Try.ntmps109;go_wp2;go_loopw [5,10] (fun v x wr=>∃k:Nat,k<=n/\x= .int .i64 k/\OwnS wr 3 v (i64s (picks pa heard k))/\(∀k,v.ownBlock=some k->w.heap.size<=k)/\Below w.heap.size w wr)
  (fun _ x _=>leftOf n (intOf x).toNat)
 case atStart=>exact⟨0,by omega,rfl,by simpa[picks,i64s]using ownS_nil _ _,by intro k hk;simp[Value.ownBlock]at hk,Below.refl _ _⟩
 case round=>
  obtain⟨k,hk,rfl,hown,hbk,hb⟩:=hrel;by_cases hlt:k<n
  ·have hO:=hide hown;have hBk:=hide hbk;have hB:=hide hb
   have hcell:wr.cell? ⟨pb,po+k,none⟩=some (.slice (pa k) (pl k) (pc k)):=by
    rw[hb.cell (show pb<w.heap.size from hlt0.out (by omega))];exact hC.out k hlt
   have hS:=hide (picks_succ pa heard k);have hPl:=picks_length pa heard k;have hi64:Hid ((i64s (picks pa heard k)).length<=k):=by show _<=_;rw[i64s_length];exact hPl
   clear hown hbk hb hPl;have hk0:(0:Int)<=(k:Int):=by omega
   have hk1:(k:Int)<(n:Int):=by omega
   revert hcell hS;generalize hpk:pa k=pk;generalize pl k=l1;generalize pc k=c1;clear hpk;intro hcell hS;have hn2:∀w,Sem.run Try.prog (binOp .neq 36 (.slice pk l1 c1) (.slice none 0 0)) w= .ok (.bool pk.isSome) w:=by
    intro w;cases pk<;>simp[go_sem,Try.underlying36]
   by_cases hq:(pk.isSome==heard)=true
   ·have hS':Hid (i64s (picks pa heard (k+1))=i64s (picks pa heard k)++ [.int .i64 (k:Int)]):=by
     show _=_;have:=hS.out;rw[if_pos hq]at this;rw[this];simp[i64s]
    have hqe:pk.isSome=heard:=by simpa using hq
    clear hS hq;cases heard with
    |true=>
     obtain⟨q,rfl⟩:=Option.isSome_iff_exists.1 hqe;go_wp2_with (at_builtin;refine wpList_app _ rfl _ _ 42 rfl 3 i0 (.int .i64 0) 8 Try.underlying42 hi hz0 hz1 hz2 rfl _ _ rfl (hO.out.alloc _) ⟨wr.heap.size,0,none⟩ 1 1 [.int .i64 k] rfl rfl (cell_one_new _ _ _) (by intro u hu;simp at hu;subst hu;rfl) (by have:=hi64.out;simp[maxLen];omega) (by have:=hi64.out;omega) ?_)
     intro v' w1 happ;have hA:=hide happ;clear happ;go_wp2;go_roundw
     case rel=>
      have hsz:=hB.out.size;have hwr:w.heap.size<=(wr.alloc (.cells #[.int .i64 (k:Int)] 3)).heap.size:=by simp;omega
      refine⟨k+1,by omega,by go_num,?_,hA.out.from hwr hBk.out,hA.out.below (hB.out.alloc hsz _) hwr hBk.out⟩;rw[hS'.out];exact hA.out.own
     case measure=>refine qD ?_ ?_<;>simp only[intOf]<;>omega
    |false=>
     obtain rfl:pk=none:=by cases pk<;>simp_all
     go_wp2_with (at_builtin;refine wpList_app _ rfl _ _ 42 rfl 3 i0 (.int .i64 0) 8 Try.underlying42 hi hz0 hz1 hz2 rfl _ _ rfl (hO.out.alloc _) ⟨wr.heap.size,0,none⟩ 1 1 [.int .i64 k] rfl rfl (cell_one_new _ _ _) (by intro u hu;simp at hu;subst hu;rfl) (by have:=hi64.out;simp[maxLen];omega) (by have:=hi64.out;omega) ?_)
     intro v' w1 happ;have hA:=hide happ;clear happ;go_wp2;go_roundw
     case rel=>
      have hsz:=hB.out.size;have hwr:w.heap.size<=(wr.alloc (.cells #[.int .i64 (k:Int)] 3)).heap.size:=by simp;omega
      refine⟨k+1,by omega,by go_num,?_,hA.out.from hwr hBk.out,hA.out.below (hB.out.alloc hsz _) hwr hBk.out⟩;rw[hS'.out];exact hA.out.own
     case measure=>refine qD ?_ ?_<;>simp only[intOf]<;>omega
   ·have hS':Hid (i64s (picks pa heard (k+1))=i64s (picks pa heard k)):=by
     show _=_;have:=hS.out;rw[if_neg hq]at this;rw[this]
    have hqe:¬pk.isSome=heard:=by simpa using hq
    clear hS hq;cases heard with
    |true=>
     obtain rfl:pk=none:=by cases pk<;>simp_all
     go_wp2;go_roundw
     case rel=>
      refine⟨k+1,by omega,by go_num,?_,hBk.out,hB.out⟩;rw[hS'.out];exact hO.out
     case measure=>refine qD ?_ ?_<;>simp only[intOf]<;>omega
    |false=>
     obtain⟨q,rfl⟩:∃q,pk=some q:=by cases pk with|none=>simp_all|some q=>exact⟨q,rfl⟩
     go_wp2;go_roundw
     case rel=>
      refine⟨k+1,by omega,by go_num,?_,hBk.out,hB.out⟩;rw[hS'.out];exact hO.out
     case measure=>refine qD ?_ ?_<;>simp only[intOf]<;>omega
  ·have e:k=n:=by omega
   subst e;have hO:=hide hown;have hBk:=hide hbk;have hB:=hide hb
   clear hown hbk hb;go_wp2;go_ret;exact⟨_,rfl,hO.out,hBk.out,hB.out⟩
set_option maxRecDepth 20000 in
theorem clone_walk(pb po n cap:Nat)(xs:List Value)(hl:Hid (xs.length=n))(h1:∀u∈xs,u.oneCell'=true)(hn:n<=65536)(w:World)(hc:∀j u,xs[j]? =some u->w.cell? ⟨pb,po+j,none⟩=some u):
  Calls Try.prog 108 #[.slice (some ⟨pb,po,none⟩) n cap] w fun e w'=>
   ∃v,e= .returned v/\OwnS w' 36 v xs/\(∀k,v.ownBlock=some k->w.heap.size<=k)/\Below w.heap.size w w':=by
 obtain⟨i0,hi,hz0,hz1,hz2⟩:=info_parts Try.infoBytes;have hC:Hid (∀j u,xs[j]? =some u->(w.alloc (.cells #[] 36)).cell? ((⟨pb,po,none⟩:Addr).add j)=some u):=fun j u hu=>by
  have:=hc j u hu;rw[Addr.add_lit,World.cell?_alloc_old _ _ _ (by have:=cellLt this;simp only at this⊢;omega)];exact this
 have hO:Hid (OwnS (w.alloc (.cells #[] 36)) 36 (.slice (some ⟨w.heap.size,0,none⟩) 0 0) []):=.inr ⟨w.heap.size,0,[],rfl,rowL_alloc w [] _,by simp,by simp[maxLen],rfl,rfl⟩;clear hc;have he:∀w,Sem.run Try.prog (binOp .eql 33 (.slice (some ⟨pb,po,none⟩) n cap) (.slice none 0 0)) w= .ok (.bool false) w:=by
  intro w;exact Go.Lib.run_eql_slice_nil w _ _ _ _ _ _ _ Try.underlying33
 go_enter Try.func108,Try.ntmps108;go_wp2_with (at_builtin;refine wpList_app _ rfl _ _ 33 rfl 36 i0 (.slice none 0 0) 24 Try.underlying33 hi hz0 hz1 hz2 rfl _ _ rfl hO.out ⟨pb,po,none⟩ n cap xs rfl hl.out hC.out h1 (by simp[maxLen];omega) (by simp;omega) ?_)
 intro v' w1 happ;have hA:=hide happ;clear happ;go_wp2;go_ret;have hwr:w.heap.size<=(w.alloc (.cells #[] 36)).heap.size:=by simp
 refine⟨_,rfl,by simpa using hA.out.own,hA.out.from hwr (by intro k hk;simp[Value.ownBlock]at hk;omega),hA.out.below ((Below.refl _ _).alloc (Nat.le_refl _) _) hwr (by intro k hk;simp[Value.ownBlock]at hk;omega)⟩
def cntH(pa:Nat->Option Addr):Nat->Nat
 |0=>0
 |k+1=>cntH pa k+if(pa k).isSome then 1 else 0
theorem cntH_le(pa:Nat->Option Addr):∀n,cntH pa n<=n
 |0=>Nat.le_refl _
 |n+1=>by
  have:=cntH_le pa n;simp only[cntH];split<;>omega
theorem count_walk(pb n cap:Nat)(pa:Nat->Option Addr)(pl pc:Nat->Nat)(hn:n<=65536)(w:World)(hc:∀j,j<n->w.cell? ⟨pb,j,none⟩=some (.slice (pa j) (pl j) (pc j))):
  Calls Try.prog 73 #[.slice (some ⟨pb,0,none⟩) n cap] w fun e w'=>e= .returned (.int .i64 (cntH pa n:Nat))/\w'=w:=by
 have hC:=hide hc;clear hc;go_enter Try.func73,Try.ntmps73;go_wp2;go_loopw [3,8] (fun v x wr=>∃k:Nat,k<=n/\v= .int .i64 (cntH pa k:Nat)/\x= .int .i64 k/\wr=w) (fun _ x _=>leftOf n (intOf x).toNat)
 case atStart=>exact⟨0,by omega,rfl,rfl,rfl⟩
 case round=>
  obtain⟨k,hk,rfl,rfl,rfl⟩:=hrel;by_cases hlt:k<n
  ·have hcell:=hC.out k hlt;have hle:=cntH_le pa k;have hS:=hide (show cntH pa (k+1)=cntH pa k+if(pa k).isSome then 1 else 0 from rfl);have hk0:(0:Int)<=(k:Int):=by omega
   have hk1:(k:Int)<(n:Int):=by omega
   generalize cntH pa k=ct at hle hS;have hwc:IntKind.i64.wrap ((ct:Int)+1)=((ct+1:Nat):Int):=qB _ (by omega) (by omega);generalize hpk:pa k=pk at hcell hS;generalize pl k=l1 at hcell;generalize pc k=c1 at hcell;clear hpk;cases pk with
   |none=>
    go_wp2;go_roundw
    case rel=>exact⟨k+1,by omega,by rw[hS.out];rfl,by go_num,by first|rfl|trivial⟩
    case measure=>refine qD ?_ ?_<;>simp only[intOf]<;>omega
   |some q=>
    go_wp2;go_roundw
    case rel=>exact⟨k+1,by omega,by rw[hS.out];rfl,by go_num,by first|rfl|trivial⟩
    case measure=>refine qD ?_ ?_<;>simp only[intOf]<;>omega
  ·have e:k=n:=by omega
   subst e;go_wp2;go_ret;exact⟨rfl,rfl⟩
section
variable {P:Program} (w:World)
theorem wpList_app0{ops:Array Oper}{rest:List Oper}{o:Oper}{a:Act}{Q:Exit->Act->World->Prop}(hgd:o.guard=none)(s x:Operand)(t:TypeId)
  (ho:o.op= .call {callee:=.builtin .append,args:=#[s,x],argTypes:=#[t,t]})
  (e:TypeId)(i:TypeInfo)(z:Value)(bytes:Nat)(ht:P.underlying t=some (.slice e))(hi:P.info? e=some i)(hz:i.zero=some z)(hsize:i.size=1)(hby:i.bytes=bytes)(hzs:z.cells=#[z])
  (g:Nat)(hs:a.eval s= .slice (some ⟨g,0,none⟩) 0 0)(ad:Addr)(m c:Nat)(news:List Value)(hx:a.eval x= .slice (some ad) m c)(hl:news.length=m)(hm1:1<=m)(hnews:∀j u,news[j]? =some u->w.cell? (ad.add j)=some u)
  (h63:m<=maxLen)(hbytes:m*bytes<=140737488355328)
  (h:∀c',m<=c'->c'<=maxLen->wpList P ops Q rest (a.put o.dst (.slice (some ⟨w.heap.size,0,none⟩) m c')) (w.drew.alloc (.cells (news++List.replicate (c'-m) z).toArray e))):wpList P ops Q (o::rest) a w:=by
 refine wpList_plain hgd fun K hK=>?_;subst hl;subst hby;have hl1:news.length=news.length*i.size:=by rw[hsize,Nat.mul_one]
 have hsmall:news.length<=9223372036854775807:=by simp only[maxLen]at h63;omega
 have hr:=run_append_grow (P:=P) w t o.type e i z ht hi hz ⟨g,0,none⟩ 0 0 [] (by simp) (by intro j u hu;simp at hu) ad news.length c news hl1 hnews (by omega) (by omega) (growslice_fits (by omega) (by simpa using hbytes));have hge:=grownCap_ge w (0+news.length) 0 e;have hle:=grownCap_le_maxLen w (0+news.length) 0 e (by simpa using h63);unfold Oper.wp execOp;simp only[ho,resolve,invoke,builtin,Sem.run_bind,Sem.run_pure,Result.andThen_ok,List.map_toArray,List.map_cons,List.map_nil,hs,hx,hr];have hfin:=h (grownCap w (0+news.length) 0 e) (by omega) hle;have hzc:∀k,(Builtin.zeroCells z.cells k).toList=List.replicate k z:=fun k=>by
  rw[hzs];apply List.ext_getElem
  ·simp[size_zeroCells]
  ·intro j h1 h2;simp only[Builtin.zeroCells,Array.getElem_toList,Array.getElem_map,Array.getElem_range,List.getElem_replicate];have e:j%(#[z]:Array Value).size=0:=Nat.mod_one _;rw[e];rfl
 refine hK _ _ ?_;have e1:(#[]++news.toArray++Builtin.zeroCells z.cells (grownCap w (0+news.length) 0 e-(0+news.length)):Array Value)=(news++List.replicate (grownCap w (0+news.length) 0 e-news.length) z).toArray:=by
  apply Array.ext';simp[hzc]
 have e2:wpList P ops Q rest (a.put o.dst (.slice (some ⟨w.heap.size,0,none⟩) (0+news.length) (grownCap w (0+news.length) 0 e))) (w.drew.alloc (.cells (#[]++news.toArray++Builtin.zeroCells z.cells (grownCap w (0+news.length) 0 e-(0+news.length))) e)):=by
  rw[e1];have e3:0+news.length=news.length:=Nat.zero_add _;rw[e3]at hfin⊢;exact hfin
 exact e2
end
theorem cloneb_walk(b off n cap:Nat)(bs:List Nat)(hl:Hid (bs.length=n))(hn1:1<=n)(hn:n<=65536)(w:World)(hc:∀j,j<n->w.cell? ⟨b,off+j,none⟩=some (.int .u8 ((bs[j]?.getD 0:Nat):Int))):
  Calls Try.prog 90 #[.slice (some ⟨b,off,none⟩) n cap] w fun e w'=>
   ∃c,e= .returned (.slice (some ⟨w.heap.size+1,0,none⟩) n c)/\n<=c/\c<=maxLen/\qS w' (w.heap.size+1) 5 (u8s (bs++List.replicate (c-n) 0))/\Below w.heap.size w w':=by
 obtain⟨i0,hi,hz0,hz1,hz2⟩:=info_parts Try.infoByte;have hC:Hid (∀j u,(u8s bs)[j]? =some u->(w.alloc (.cells #[] 5)).cell? ((⟨b,off,none⟩:Addr).add j)=some u):=fun j u hu=>by
  have hj:j<bs.length:=by have:=(List.getElem?_eq_some_iff.1 hu).1;rw[u8s_length]at this;exact this
  have h1:=hc j (by rw[<-hl.out];exact hj);rw[u8s_at hj]at hu;rw[Addr.add_lit,World.cell?_alloc_old _ _ _ (by have:=cellLt h1;simp only at this⊢;omega),<-hu];exact h1
 clear hc;have he:∀w,Sem.run Try.prog (binOp .eql 36 (.slice (some ⟨b,off,none⟩) n cap) (.slice none 0 0)) w= .ok (.bool false) w:=by
  intro w;exact Go.Lib.run_eql_slice_nil w _ _ _ _ _ _ _ Try.underlying36
 go_enter Try.func90,Try.ntmps90;go_wp2_with (at_builtin;refine wpList_app0 _ rfl _ _ 36 rfl 5 i0 (.int .u8 0) 1 Try.underlying36 hi hz0 hz1 hz2 rfl w.heap.size rfl ⟨b,off,none⟩ n cap (u8s bs) rfl (by rw[u8s_length];exact hl.out) hn1 hC.out (by simp[maxLen];omega) (by omega) ?_)
 intro c h1 h2;go_wp2;go_ret;refine⟨c,?_,h1,h2,?_,?_⟩
 ·simp
 ·have:=rowL_alloc (w.alloc (.cells #[] 5)).drew (u8s bs++List.replicate (c-n) (.int .u8 0)) 5;have e0:(w.alloc (.cells #[] 5)).drew.heap.size=w.heap.size+1:=by simp
  rw[e0]at this;have e1:u8s (bs++List.replicate (c-n) 0)=u8s bs++List.replicate (c-n) (.int .u8 0):=by simp[u8s]
  rw[e1];exact this
 ·exact(((Below.refl _ w).alloc (Nat.le_refl _) _).drew).alloc (by simp) _
end Go.Proofs.Ytmfpiodlecapiaa
namespace Go.Proofs.Ytmfpiodlecapiaa
open Go.RowKit Go.Deep
attribute [local go_sem↓] Go.wp_at_zero Go.wp_at_succ
theorem conv_bytes{w:World}{b off n cap:Nat}{bs:List Nat}(hl:bs.length=n)(hc:∀j,j<n->w.cell? ⟨b,off+j,none⟩=some (.int .u8 ((bs[j]?.getD 0:Nat):Int))):
  (convert 36 9 (.slice (some ⟨b,off,none⟩) n cap)).run Try.prog w= .ok (.string (strOfNums (bs.map (fun n:Nat=>(n:Int))))) w:=by
 refine run_convert_bytes_arg w 36 5 Try.underlying36 Try.underlying5 b off n cap (bs.map (fun n:Nat=>(n:Int))) (by simpa using hl) ?_ 9 Try.underlying9;intro i hi;rw[hc i hi];simp[List.getD,hl▸hi]
theorem equal_same(b off n cap b2 off2 cap2:Nat)(bs:List Nat)(hl:Hid (bs.length=n))(w:World)(hc:∀j,j<n->w.cell? ⟨b,off+j,none⟩=some (.int .u8 ((bs[j]?.getD 0:Nat):Int)))(hc2:∀j,j<n->w.cell? ⟨b2,off2+j,none⟩=some (.int .u8 ((bs[j]?.getD 0:Nat):Int))):
  Calls Try.prog 89 #[.slice (some ⟨b,off,none⟩) n cap,.slice (some ⟨b2,off2,none⟩) n cap2] w fun e w'=>e= .returned (.bool true)/\w'=w:=by
 have q1:=conv_bytes (cap:=cap) hl.out hc;have q2:=conv_bytes (cap:=cap2) hl.out hc2;generalize strOfNums (bs.map (fun n:Nat=>(n:Int)))=str at q1 q2;clear hc hc2 hl;go_enter Try.func89,Try.ntmps89;go_wp2;go_ret;exact⟨by simp,rfl⟩
def ObjRow(w:World)(ob len sz ms V bb N cap:Nat):Prop:=w.heap[ob]? =some (.cells #[.int .i64 len,.int .i64 sz,.int .i64 ms,.int .i64 V,.slice (some ⟨bb,0,none⟩) N cap] 109)
set_option maxRecDepth 100000 in
set_option maxHeartbeats 2000000 in
theorem add_new(ob len sz ms V bb N cap id z n pb m s gb go pcap:Nat)(row:List Value)(bs:List Nat)(hz:z<N)(hn:n<m)(hs1:1<=s)(hs:s<=65536)(hl:Hid (bs.length=s))(w:World)(hob:ObjRow w ob len sz ms V bb N cap)(hbz:w.cell? ⟨bb,z,none⟩=some (.slice (some ⟨pb,0,none⟩) m m))(hrow:qS w pb 36 row)(hrn:row[n]? =some (.slice none 0 0))
  (hp:∀j,j<s->w.cell? ⟨gb,go+j,none⟩=some (.int .u8 ((bs[j]?.getD 0:Nat):Int))):
  Calls Try.prog 70 #[.pointer (some ⟨ob,0,none⟩),headV id len sz ms V z n,.slice (some ⟨gb,go,none⟩) s pcap] w fun e w'=>
   e= .returned (.bool true)/\∃g c,w.heap.size<=g/\s<=c/\c<=maxLen/\qS w' g 5 (u8s (bs++List.replicate (c-s) 0))/\qS w' pb 36 (row.set n (.slice (some ⟨g,0,none⟩) s c))/\Kp (fun b=>b=pb) w w':=by
 unfold headV;have hob0:w.cell? ⟨ob,0,none⟩=some (.int .i64 len):=by unfold ObjRow at hob;simp[World.cell?,hob]
 have hob1:w.cell? ⟨ob,1,none⟩=some (.int .i64 sz):=by unfold ObjRow at hob;simp[World.cell?,hob]
 have hob2:w.cell? ⟨ob,2,none⟩=some (.int .i64 ms):=by unfold ObjRow at hob;simp[World.cell?,hob]
 have hob3:w.cell? ⟨ob,3,none⟩=some (.int .i64 V):=by unfold ObjRow at hob;simp[World.cell?,hob]
 have hob4:w.cell? ⟨ob,4,none⟩=some (.slice (some ⟨bb,0,none⟩) N cap):=by unfold ObjRow at hob;simp[World.cell?,hob]
 have HP:=hide hp;have HR:=hide hrow;have HN:=hide hrn;have HB:=hide hbz
 have hpbc:w.cell? ⟨pb,n,none⟩=some (.slice none 0 0):=hrow.cell n _ hrn;clear hp hrow hrn hob;go_enter Try.func70,Try.ntmps70;have hsz:(w.alloc (.cells #[.int .i64 id,.int .i64 len,.int .i64 sz,.int .i64 ms,.int .i64 V,.int .i64 z,.int .i64 n] 83)).heap.size=w.heap.size+1:=by simp
 have hB1:Below w.heap.size w (w.alloc (.cells #[.int .i64 id,.int .i64 len,.int .i64 sz,.int .i64 ms,.int .i64 V,.int .i64 z,.int .i64 n] 83)):=(Below.refl _ _).alloc (Nat.le_refl _) _;have hH:=rowL_alloc' w #[.int .i64 id,.int .i64 len,.int .i64 sz,.int .i64 ms,.int .i64 V,.int .i64 z,.int .i64 n] 83;go_wp2;obtain⟨w1,hw1⟩:∃w1,w1=w.alloc (.cells #[.int .i64 id,.int .i64 len,.int .i64 sz,.int .i64 ms,.int .i64 V,.int .i64 z,.int .i64 n] 83):=⟨_,rfl⟩;rw[<-hw1]at hsz hB1 hH⊢;clear hw1;obtain⟨hb,hhb⟩:∃hb,hb=w.heap.size:=⟨_,rfl⟩;have keep:∀(a:Addr) (v:Value),w.cell? a=some v->w1.cell? a=some v:=fun a v h=>by
  rw[hB1.cell (by exact cellLt h)];exact h
 have k0:=keep _ _ hob0;have k1:=keep _ _ hob1;have k2:=keep _ _ hob2;have k3:=keep _ _ hob3;have k4:=keep _ _ hob4
 have k5:=keep _ _ HB.out;have k6:=keep _ _ hpbc
 have r1:qS w1 pb 36 row:=HR.out.below hB1 HR.out.lt;have hfz:=r1.frozen n;rw[<-hhb]at hH⊢;have h0:=hH.cell 0 _ rfl;have h1:=hH.cell 1 _ rfl;have h2:=hH.cell 2 _ rfl;have h3:=hH.cell 3 _ rfl;have h4:=hH.cell 4 _ rfl;have h5:=hH.cell 5 _ rfl;have h6:=hH.cell 6 _ rfl
 have HR1:=hide r1;have HB1:=hide hB1;have Hsz:=hide hsz;have Hhb:=hide hhb
 have HP1:Hid (∀j,j<s->w1.cell? ⟨gb,go+j,none⟩=some (.int .u8 ((bs[j]?.getD 0:Nat):Int))):=fun j hj=>keep _ _ (HP.out j hj);clear keep r1 hB1 hsz hhb hH hob0 hob1 hob2 hob3 hob4 hpbc HP HB;have hz0:(0:Int)<=(z:Int):=by omega
 have hz1:(z:Int)<(N:Int):=by omega
 have hn0:(0:Int)<=(n:Int):=by omega
 have hn1:(n:Int)<(m:Int):=by omega
 go_quiet ((go_at_call 68;exact Calls.quiet_of_same (unless_ok _ _)))
 obtain⟨w2,hww2⟩:∃w2,w2=w1.drewN nq:=⟨_,rfl⟩;have ew2:w2.heap=w1.heap:=by rw[hww2];rfl
 have cw2:∀(a:Addr) (v:Value),w1.cell? a=some v->w2.cell? a=some v:=fun a v h=>by rw[hww2];exact h
 rw[<-hww2];replace k4:=cw2 _ _ k4;replace k5:=cw2 _ _ k5;replace k6:=cw2 _ _ k6;replace h5:=cw2 _ _ h5;replace h6:=cw2 _ _ h6;replace hfz:w2.frozen? ⟨pb,n,none⟩=false:=by rw[hww2];exact hfz
 replace HR1:Hid (qS w2 pb 36 row):=by show qS _ _ _ _;rw[hww2];exact HR1.out
 replace HB1:Hid (Below w.heap.size w w2):=by show Below _ _ _;rw[hww2];exact⟨HB1.out.os,HB1.out.tape,HB1.out.output,HB1.out.size,HB1.out.block⟩
 replace Hsz:Hid (w2.heap.size=w.heap.size+1):=by show _=_;rw[hww2];exact Hsz.out
 replace HP1:Hid (∀j,j<s->w2.cell? ⟨gb,go+j,none⟩=some (.int .u8 ((bs[j]?.getD 0:Nat):Int))):=fun j hj=>cw2 _ _ (HP1.out j hj);clear hww2 ew2 cw2;clear k0 k1 k2 k3 h0 h1 h2 h3 h4;go_wp2;go_quiet (fail)
 obtain⟨w3,hww3⟩:∃w3,w3=w2.drewN nq:=⟨_,rfl⟩;have ew3:w3.heap=w2.heap:=by rw[hww3];rfl
 have cw3:∀(a:Addr) (v:Value),w2.cell? a=some v->w3.cell? a=some v:=fun a v h=>by rw[hww3];exact h
 rw[<-hww3];replace k4:=cw3 _ _ k4;replace k5:=cw3 _ _ k5;replace k6:=cw3 _ _ k6;replace h5:=cw3 _ _ h5;replace h6:=cw3 _ _ h6;replace hfz:w3.frozen? ⟨pb,n,none⟩=false:=by rw[hww3];exact hfz
 replace HR1:Hid (qS w3 pb 36 row):=by show qS _ _ _ _;rw[hww3];exact HR1.out
 replace HB1:Hid (Below w.heap.size w w3):=by show Below _ _ _;rw[hww3];exact⟨HB1.out.os,HB1.out.tape,HB1.out.output,HB1.out.size,HB1.out.block⟩
 replace Hsz:Hid (w3.heap.size=w.heap.size+1):=by show _=_;rw[hww3];exact Hsz.out
 replace HP1:Hid (∀j,j<s->w3.cell? ⟨gb,go+j,none⟩=some (.int .u8 ((bs[j]?.getD 0:Nat):Int))):=fun j hj=>cw3 _ _ (HP1.out j hj);clear hww3 ew3 cw3;go_wp2;have hCl:Hid (∀w4:World,w4.heap=w3.heap->(∀a,w4.cell? a=w3.cell? a)->Calls Try.prog 90 #[.slice (some ⟨gb,go,none⟩) s pcap] w4 fun e w'=>∃c,e= .returned (.slice (some ⟨w.heap.size+2,0,none⟩) s c)/\s<=c/\c<=maxLen/\qS w' (w.heap.size+2) 5 (u8s (bs++List.replicate (c-s) 0))/\Below w4.heap.size w4 w'):=fun w4 he hcc=>by
  have:=cloneb_walk gb go s pcap bs hl hs1 hs w4 (fun j hj=>by rw[hcc];exact HP1.out j hj);have e1:w4.heap.size+1=w.heap.size+2:=by rw[he,Hsz.out]
  rw[e1]at this;exact this
 have hAft:Hid (∀w5:World,Below w3.heap.size w3.drew w5->w5.cell? ⟨hb,6,none⟩=some (.int .i64 n)/\w5.cell? ⟨pb,n,none⟩=some (.slice none 0 0)/\w5.frozen? ⟨pb,n,none⟩=false):=fun w5 hb5=>by
  have hblt:hb<w3.heap.size:=cellLt h6;have hpbl:pb<w3.heap.size:=HR1.out.lt;have r5:qS w5 pb 36 row:=HR1.out.of_block (hb5.block pb hpbl);refine⟨?_,r5.cell n _ HN.out,r5.frozen n⟩;rw[hb5.cell (show hb<w3.heap.size from hblt)];exact h6
 have k6d:w3.drew.cell? ⟨pb,n,none⟩=some (.slice none 0 0):=k6;have h6d:w3.drew.cell? ⟨hb,6,none⟩=some (.int .i64 n):=h6;go_region_with (go_at_call 90;refine(hCl.out w3.drew rfl (fun _=>rfl)).mono ?_;rintro _ w5 ⟨c,rfl,c1,c2,c3,c4⟩;obtain⟨a1,a2,a3⟩:=hAft.out w5 c4;replace c3:=hide c3;replace c4:=hide c4)
 all_goals
  go_wp2;go_ret;refine⟨rfl,w.heap.size+2,c,by omega,c1,c2,?_,?_,?_⟩
  ·exact c3.out.other (show w.heap.size+2≠pb from fun e=>by have:=HR.out.lt;omega) _
  ·have r5:qS w5 pb 36 row:=HR1.out.of_block (c4.out.block pb HR1.out.lt);exact r5.set n _
  ·have hk:Kp (fun b=>b=pb) w w5:=(Kp.of_below (HB1.out.trans ⟨c4.out.os,c4.out.tape,c4.out.output,c4.out.size,fun k hk=>c4.out.block k (Nat.lt_of_lt_of_le hk HB1.out.size)⟩));exact hk.setCell (.inl rfl) _
set_option maxRecDepth 100000 in
set_option maxHeartbeats 2000000 in
theorem add_known(kb kc ob len sz ms V bb N cap id z n pb m s gb go pcap:Nat)(row:List Value)(bs:List Nat)(hz:z<N)(hn:n<m)(hl:Hid (bs.length=s))(w:World)(hob:ObjRow w ob len sz ms V bb N cap)(hbz:w.cell? ⟨bb,z,none⟩=some (.slice (some ⟨pb,0,none⟩) m m))(hrow:qS w pb 36 row)(hrn:row[n]? =some (.slice (some ⟨kb,0,none⟩) s kc))(hkn:∀j,j<s->w.cell? ⟨kb,0+j,none⟩=some (.int .u8 ((bs[j]?.getD 0:Nat):Int)))
  (hp:∀j,j<s->w.cell? ⟨gb,go+j,none⟩=some (.int .u8 ((bs[j]?.getD 0:Nat):Int))):
  Calls Try.prog 70 #[.pointer (some ⟨ob,0,none⟩),headV id len sz ms V z n,.slice (some ⟨gb,go,none⟩) s pcap] w fun e w'=>
   e= .returned (.bool false)/\Below w.heap.size w w':=by
 unfold headV;have hob0:w.cell? ⟨ob,0,none⟩=some (.int .i64 len):=by unfold ObjRow at hob;simp[World.cell?,hob]
 have hob1:w.cell? ⟨ob,1,none⟩=some (.int .i64 sz):=by unfold ObjRow at hob;simp[World.cell?,hob]
 have hob2:w.cell? ⟨ob,2,none⟩=some (.int .i64 ms):=by unfold ObjRow at hob;simp[World.cell?,hob]
 have hob3:w.cell? ⟨ob,3,none⟩=some (.int .i64 V):=by unfold ObjRow at hob;simp[World.cell?,hob]
 have hob4:w.cell? ⟨ob,4,none⟩=some (.slice (some ⟨bb,0,none⟩) N cap):=by unfold ObjRow at hob;simp[World.cell?,hob]
 have HP:=hide hp;have HR:=hide hrow;have HN:=hide hrn;have HB:=hide hbz
 have hpbc:w.cell? ⟨pb,n,none⟩=some (.slice (some ⟨kb,0,none⟩) s kc):=hrow.cell n _ hrn;have HK:=hide hkn;clear hp hrow hrn hob hkn;go_enter Try.func70,Try.ntmps70;have hsz:(w.alloc (.cells #[.int .i64 id,.int .i64 len,.int .i64 sz,.int .i64 ms,.int .i64 V,.int .i64 z,.int .i64 n] 83)).heap.size=w.heap.size+1:=by simp
 have hB1:Below w.heap.size w (w.alloc (.cells #[.int .i64 id,.int .i64 len,.int .i64 sz,.int .i64 ms,.int .i64 V,.int .i64 z,.int .i64 n] 83)):=(Below.refl _ _).alloc (Nat.le_refl _) _;have hH:=rowL_alloc' w #[.int .i64 id,.int .i64 len,.int .i64 sz,.int .i64 ms,.int .i64 V,.int .i64 z,.int .i64 n] 83;go_wp2;obtain⟨w1,hw1⟩:∃w1,w1=w.alloc (.cells #[.int .i64 id,.int .i64 len,.int .i64 sz,.int .i64 ms,.int .i64 V,.int .i64 z,.int .i64 n] 83):=⟨_,rfl⟩;rw[<-hw1]at hsz hB1 hH⊢;clear hw1;obtain⟨hb,hhb⟩:∃hb,hb=w.heap.size:=⟨_,rfl⟩;have keep:∀(a:Addr) (v:Value),w.cell? a=some v->w1.cell? a=some v:=fun a v h=>by
  rw[hB1.cell (by exact cellLt h)];exact h
 have k0:=keep _ _ hob0;have k1:=keep _ _ hob1;have k2:=keep _ _ hob2;have k3:=keep _ _ hob3;have k4:=keep _ _ hob4
 have k5:=keep _ _ HB.out;have k6:=keep _ _ hpbc
 have r1:qS w1 pb 36 row:=HR.out.below hB1 HR.out.lt;have hfz:=r1.frozen n;rw[<-hhb]at hH⊢;have h0:=hH.cell 0 _ rfl;have h1:=hH.cell 1 _ rfl;have h2:=hH.cell 2 _ rfl;have h3:=hH.cell 3 _ rfl;have h4:=hH.cell 4 _ rfl;have h5:=hH.cell 5 _ rfl;have h6:=hH.cell 6 _ rfl
 have HR1:=hide r1;have HB1:=hide hB1;have Hsz:=hide hsz;have Hhb:=hide hhb
 have HP1:Hid (∀j,j<s->w1.cell? ⟨gb,go+j,none⟩=some (.int .u8 ((bs[j]?.getD 0:Nat):Int))):=fun j hj=>keep _ _ (HP.out j hj);have HK1:Hid (∀j,j<s->w1.cell? ⟨kb,0+j,none⟩=some (.int .u8 ((bs[j]?.getD 0:Nat):Int))):=fun j hj=>keep _ _ (HK.out j hj);clear keep r1 hB1 hsz hhb hH hob0 hob1 hob2 hob3 hob4 hpbc HP HB;have hz0:(0:Int)<=(z:Int):=by omega
 have hz1:(z:Int)<(N:Int):=by omega
 have hn0:(0:Int)<=(n:Int):=by omega
 have hn1:(n:Int)<(m:Int):=by omega
 go_quiet ((go_at_call 68;exact Calls.quiet_of_same (unless_ok _ _)))
 obtain⟨w2,hww2⟩:∃w2,w2=w1.drewN nq:=⟨_,rfl⟩;have ew2:w2.heap=w1.heap:=by rw[hww2];rfl
 have cw2:∀(a:Addr) (v:Value),w1.cell? a=some v->w2.cell? a=some v:=fun a v h=>by rw[hww2];exact h
 rw[<-hww2];replace k4:=cw2 _ _ k4;replace k5:=cw2 _ _ k5;replace k6:=cw2 _ _ k6;replace h5:=cw2 _ _ h5;replace h6:=cw2 _ _ h6;replace hfz:w2.frozen? ⟨pb,n,none⟩=false:=by rw[hww2];exact hfz
 replace HR1:Hid (qS w2 pb 36 row):=by show qS _ _ _ _;rw[hww2];exact HR1.out
 replace HB1:Hid (Below w.heap.size w w2):=by show Below _ _ _;rw[hww2];exact⟨HB1.out.os,HB1.out.tape,HB1.out.output,HB1.out.size,HB1.out.block⟩
 replace Hsz:Hid (w2.heap.size=w.heap.size+1):=by show _=_;rw[hww2];exact Hsz.out
 replace HP1:Hid (∀j,j<s->w2.cell? ⟨gb,go+j,none⟩=some (.int .u8 ((bs[j]?.getD 0:Nat):Int))):=fun j hj=>cw2 _ _ (HP1.out j hj);replace HK1:Hid (∀j,j<s->w2.cell? ⟨kb,0+j,none⟩=some (.int .u8 ((bs[j]?.getD 0:Nat):Int))):=fun j hj=>cw2 _ _ (HK1.out j hj);clear hww2 ew2 cw2;clear k0 k1 k2 k3 h0 h1 h2 h3 h4;go_wp2;go_quiet (fail)
 obtain⟨w3,hww3⟩:∃w3,w3=w2.drewN nq:=⟨_,rfl⟩;have ew3:w3.heap=w2.heap:=by rw[hww3];rfl
 have cw3:∀(a:Addr) (v:Value),w2.cell? a=some v->w3.cell? a=some v:=fun a v h=>by rw[hww3];exact h
 rw[<-hww3];replace k4:=cw3 _ _ k4;replace k5:=cw3 _ _ k5;replace k6:=cw3 _ _ k6;replace h5:=cw3 _ _ h5;replace h6:=cw3 _ _ h6;replace hfz:w3.frozen? ⟨pb,n,none⟩=false:=by rw[hww3];exact hfz
 replace HR1:Hid (qS w3 pb 36 row):=by show qS _ _ _ _;rw[hww3];exact HR1.out
 replace HB1:Hid (Below w.heap.size w w3):=by show Below _ _ _;rw[hww3];exact⟨HB1.out.os,HB1.out.tape,HB1.out.output,HB1.out.size,HB1.out.block⟩
 replace Hsz:Hid (w3.heap.size=w.heap.size+1):=by show _=_;rw[hww3];exact Hsz.out
 replace HP1:Hid (∀j,j<s->w3.cell? ⟨gb,go+j,none⟩=some (.int .u8 ((bs[j]?.getD 0:Nat):Int))):=fun j hj=>cw3 _ _ (HP1.out j hj);replace HK1:Hid (∀j,j<s->w3.cell? ⟨kb,0+j,none⟩=some (.int .u8 ((bs[j]?.getD 0:Nat):Int))):=fun j hj=>cw3 _ _ (HK1.out j hj);clear hww3 ew3 cw3;have hE:=hide (equal_same gb go s pcap kb 0 kc bs hl w3 HP1.out HK1.out);go_wp2_with first|(go_at_call 89;refine hE.out.mono ?_;rintro _ wq ⟨rfl,hq⟩;have hq2:=hq.symm;clear hq;subst hq2)|(go_at_call 68;refine(unless_ok _ _).mono ?_;rintro _ wq ⟨rfl,hq⟩;have hq2:=hq.symm;clear hq;subst hq2)
 go_ret;exact⟨rfl,HB1.out⟩
end Go.Proofs.Ytmfpiodlecapiaa
