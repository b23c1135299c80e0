import Derived.Test.YtjamgmbdilkbcaaGreatLotAll05
set_option maxHeartbeats 2000000
set_option maxRecDepth 100000
namespace Go.Proofs.YtjamgmbdilkbcaaGreat
open Go.RowKit
section
variable {P:Program} {w w':World}
theorem append_keeps{base:Nat}{t ty e:TypeId}{i:TypeInfo}{z:Value}{size bytes:Nat}(ht:P.underlying t=some (.slice e))(hi:P.info? e=some i)(hz:i.zero=some z)(hsize:i.size=size)(hby:i.bytes=bytes){v:Value}{n:Nat}{xs:List Value}(hown:w.ownsRow base e size v n xs){a:Addr}{m c:Nat}{news:List Value}(hl:news.length=m*size)(hnews:∀j u,news[j]?=some u->w.cell? (a.add j)=some u)(h1:∀u∈news,u.oneCell'=true)(h63:n+m<=maxLen)(hbytes:(n+m)*bytes<=140737488355328)(hm:0<m){v':Value}(hr:(Builtin.append_ #[t,t] ty #[v,.slice (some a) m c]).run P w=.ok v' w'):w'.ownsRow base e size v n xs/\(v'.ownBlock=v.ownBlock\/v'.ownBlock=some w.heap.size):=by
 subst hsize
 subst hby
 have h0:=hown
 rcases hown.2 with ⟨rfl,rfl⟩|⟨g,cap,cur,rfl,hbg,hg,hnc,hcm,hcs,htake⟩
 ·have hx:xs=[]:=List.eq_nil_of_length_eq_zero (by simpa using hown.1)
  subst hx
  rw[run_append_nil (P:=P) w t ty e i z ht hi hz a m c news hl hnews hm (by simp only[maxLen]at h63;omega) (by have hb:=hbytes;simp only[Nat.zero_add]at hb;omega)]at hr
  simp only[Result.ok.injEq]at hr
  obtain⟨rfl,_⟩:=hr
  exact⟨World.ownsRow_nil w' base e i.size,.inr rfl⟩
 ·have hsm:n+m<=9223372036854775807:=by simp only[maxLen]at h63;omega
  by_cases hroom:n+m<=cap
  ·have hfit:n*i.size+news.length<=cur.size:=by rw[hl,hcs,<-Nat.add_mul];exact Nat.mul_le_mul_right _ hroom
   rw[run_append_room (P:=P) w t ty e i ht hi g n cap cur hg a m c news hl hnews h1 hroom hfit]at hr
   simp only[Result.ok.injEq]at hr
   obtain⟨rfl,rfl⟩:=hr
   refine⟨⟨hown.1,.inr ⟨g,cap,_,rfl,hbg,setRow_heap w g cur _ e _ hg,hnc,hcm,?_,?_⟩⟩,.inl rfl⟩
   ·simp only[List.size_toArray,List.length_append,List.length_take,List.length_drop,Array.length_toList]
    omega
   ·have hlx:(List.take (n*i.size) cur.toList).length=n*i.size:=by rw[htake];exact hown.1
    simp only[List.append_assoc]
    rw[List.take_append_of_le_length (by omega),List.take_of_length_le (by omega)]
    exact htake
  ·rw[run_append_grow (P:=P) w t ty e i z ht hi hz ⟨g,0,none⟩ n cap xs hown.1 (hown.cells (g:=g) rfl) a m c news hl hnews (by omega) (by omega) (growslice_fits (by omega) hbytes)]at hr
   simp only[Result.ok.injEq]at hr
   obtain⟨rfl,rfl⟩:=hr
   exact⟨h0.kept (w':=w.drew.alloc _) (row:=none) ⟨rfl,rfl,rfl,by simp,fun k hk _=>Below.heap_alloc w.drew _ k hk⟩ (.inr (by simp[Value.ownBlock])),.inr rfl⟩
theorem wpList_append_keep{ops:Array Oper}{rest:List Oper}{o:Oper}{a:Act}{Q:Exit->Act->World->Prop}(hgd:o.guard=none)(s x:Operand)(t:TypeId)(ho:o.op=.call { callee:=.builtin .append,args:=#[s,x],argTypes:=#[t,t] })(base:Nat)(e:TypeId)(i:TypeInfo)(z:Value)(size bytes:Nat)(ht:P.underlying t=some (.slice e))(hi:P.info? e=some i)(hz:i.zero=some z)(hsize:i.size=size)(hby:i.bytes=bytes)(hzs:z.cells.size=size)(hsz:0<size)(v:Value)(n:Nat)(xs:List Value)(hs:a.eval s=v)(hown:w.ownsRow base e size v n xs)(ad:Addr)(m c:Nat)(news:List Value)(hx:a.eval x=.slice (some ad) m c)(hl:news.length=m*size)(hnews:∀j u,news[j]?=some u->w.cell? (ad.add j)=some u)(h1:∀u∈news,u.oneCell'=true)(h63:n+m<=maxLen)(hbytes:(n+m)*bytes<=140737488355328)(hbase:base<=w.heap.size)(hm:0<m)(h:∀v' w',w'.ownsRow base e size v' (n+m) (xs++news)->w.grownBy w' v.ownBlock->w'.ownsRow base e size v n xs->(v'.ownBlock=v.ownBlock\/v'.ownBlock=some w.heap.size)->wpList P ops Q rest (a.put o.dst v') w'):wpList P ops Q (o::rest) a w:=
 wpList_plain hgd fun _ hK=>by
  obtain⟨v',w',hr,h2,h3,_⟩:=run_append_own (P:=P) w base t o.type e i z size bytes ht hi hz hsize hby hzs hsz v n xs hown ad m c news hl hnews h1 h63 hbytes hbase
  have h5:=append_keeps ht hi hz hsize hby hown hl hnews h1 h63 hbytes hm hr
  unfold Oper.wp execOp
  simp only[ho,resolve,invoke,builtin,Sem.run_bind,Sem.run_pure,Result.andThen_ok,List.map_toArray,List.map_cons,List.map_nil,hs,hx,hr]
  exact hK _ _ (h v' w' h2 h3 h5.1 h5.2)
end
theorem owns_front{w:World}{B e size n n' cap cap' g:Nat}{xs ys:List Value}(h:w.ownsRow B e size (.slice (some ⟨g,0,none⟩) n' cap') n' (xs++ys))(hx:xs.length=n*size)(hn:n<=n')(hc:cap=cap'):
  w.ownsRow B e size (.slice (some ⟨g,0,none⟩) n cap) n xs:=by
 subst hc
 rcases h.2 with ⟨h',_⟩|⟨g',cap',cur,h',hb,hg,hnc,hcm,hcs,htake⟩
 ·simp at h'
 ·simp only[Value.slice.injEq,Option.some.injEq,Addr.mk.injEq,and_true,true_and]at h'
  obtain⟨rfl,rfl⟩:=h'
  refine⟨hx,.inr ⟨g,cap,cur,rfl,hb,hg,by omega,hcm,hcs,?_⟩⟩
  have h2:n*size<=n'*size:=Nat.mul_le_mul_right _ hn
  have h3:List.take (n*size) (List.take (n'*size) cur.toList)=List.take (n*size) (xs++ys):=by rw[htake]
  have h4:List.take (n*size) (List.take (n'*size) cur.toList)=List.take (n*size) cur.toList:=by rw[List.take_take,Nat.min_eq_left h2]
  have h5:List.take (n*size) (xs++ys)=xs:=by rw[List.take_append_of_le_length (Nat.le_of_eq hx.symm),List.take_of_length_le (Nat.le_of_eq hx)]
  rw[h4,h5]at h3
  exact h3
def ints(n:Nat)(x:Int):List Value:=List.replicate n (.int .i64 x)
def GoodI(w:World)(S:Nat->Prop)(v:Value)(x:Int):Prop:=
 ∃n,w.ownsRow 0 3 1 v n (ints n x)/\n<=2000000/\∀k,v.ownBlock=some k->S k
def insts(n:Nat)(x y:Int):List Value:=cc (List.replicate n (x,y))
def GoodC(w:World)(S:Nat->Prop)(v:Value)(x:Int):Prop:=
 ∃n,w.ownsRow 0 56 2 v n (insts n x (wrap64 (-x)))/\n<=2000000/\∀k,v.ownBlock=some k->S k
def MarkedF(w:World)(S:Nat->Prop)(f:FV)(x:Int):Prop:=
 ∃q c,f=⟨.slice (some ⟨q,0,none⟩) 1 c,.slice none 0 0,.slice none 0 0,.slice none 0 0⟩/\S q/\w.heap[q]?=some (.cells #[.int .i64 x] 3 (0,0))
def GoodF(w:World)(S:Nat->Prop)(v:Value)(x:Int):Prop:=
 ∃fs:List FV,w.ownsRow 0 62 4 v fs.length (fc fs)/\fs.length<=2000000/\(∀f∈fs,MarkedF w S f x)/\∀k,v.ownBlock=some k->S k
def hc(l:List (Value × Int)):List Value:=l.flatMap fun x=>[x.1,.int .i64 x.2]
theorem hc_snoc(l:List (Value × Int))(x:Value × Int):hc (l++[x])=hc l++[x.1,.int .i64 x.2]:=by simp[hc]
structure Hp where
 b:Nat
 l:Value
 r:Value
def HB(w:World)(p:Hp)(x0 x1 x2 x3:Value):Prop:=w.heap[p.b]?=some (.cells #[p.l,p.r,x0,x1,x2,x3] 34 (0,0))
section
variable {w w':World} {p:Hp} {x0 x1 x2 x3:Value}
theorem HB.lt(h:HB w p x0 x1 x2 x3):p.b<w.heap.size:=(Array.getElem?_eq_some_iff.1 h).1
theorem HB.c0(h:HB w p x0 x1 x2 x3):w.cell? ⟨p.b,2,none⟩=some x0:=by unfold HB at h;simp[World.cell?,h]
theorem HB.c1(h:HB w p x0 x1 x2 x3):w.cell? ⟨p.b,3,none⟩=some x1:=by unfold HB at h;simp[World.cell?,h]
theorem HB.c2(h:HB w p x0 x1 x2 x3):w.cell? ⟨p.b,4,none⟩=some x2:=by unfold HB at h;simp[World.cell?,h]
theorem HB.c3(h:HB w p x0 x1 x2 x3):w.cell? ⟨p.b,5,none⟩=some x3:=by unfold HB at h;simp[World.cell?,h]
theorem HB.fz(h:HB w p x0 x1 x2 x3)(o:Nat):w.frozen? ⟨p.b,o,none⟩=false:=by unfold HB at h;simp[World.frozen?,h]
theorem HB.kept{r:Option Nat}(h:HB w p x0 x1 x2 x3)(hg:w.grownBy w' r)(hr:some p.b≠r):HB w' p x0 x1 x2 x3:=(hg.block p.b h.lt hr).trans h
theorem HB.set0(h:HB w p x0 x1 x2 x3)(v:Value):HB (w.setCell ⟨p.b,2,none⟩ v) p v x1 x2 x3:=by unfold HB at h ⊢;simp[World.setCell,Array.getElem?_modify,h]
theorem HB.set1(h:HB w p x0 x1 x2 x3)(v:Value):HB (w.setCell ⟨p.b,3,none⟩ v) p x0 v x2 x3:=by unfold HB at h ⊢;simp[World.setCell,Array.getElem?_modify,h]
theorem HB.set2(h:HB w p x0 x1 x2 x3)(v:Value):HB (w.setCell ⟨p.b,4,none⟩ v) p x0 x1 v x3:=by unfold HB at h ⊢;simp[World.setCell,Array.getElem?_modify,h]
theorem HB.set3(h:HB w p x0 x1 x2 x3)(v:Value):HB (w.setCell ⟨p.b,5,none⟩ v) p x0 x1 x2 v:=by unfold HB at h ⊢;simp[World.setCell,Array.getElem?_modify,h]
end
structure HR (w:World) (B:Nat) (ph:Hp) (N:Int) (vi vc vf:Value) (ei ec ef:List (Value × Int)):Prop where
 h:HB w ph (.int .i64 N) vi vc vf
 oi:w.ownsRow B 50 2 vi ei.length (hc ei)
 oc:w.ownsRow B 54 2 vc ec.length (hc ec)
 of:w.ownsRow B 59 2 vf ef.length (hc ef)
 hB:B<=ph.b
structure HG (w:World) (S:Nat->Prop) (ei ec ef:List (Value × Int)):Prop where
 gi:∀x∈ei,GoodI w S x.1 x.2
 gc:∀x∈ec,GoodC w S x.1 x.2
 gf:∀x∈ef,GoodF w S x.1 x.2
def Hd(w:World)(B:Nat)(ph:Hp)(S:Nat->Prop)(K:Nat):Prop:=
 ∃N vi vc vf ei ec ef,HR w B ph N vi vc vf ei ec ef/\HG w S ei ec ef/\ei.length<=K/\ec.length<=K/\ef.length<=K
def Plain(w:World)(k:Nat):Prop:=∃c t fr,w.heap[k]?=some (.cells c t fr)/\(t=3\/t=56\/t=62)
structure Kp (w w':World) (S:Nat->Prop):Prop where
 size:w.heap.size<=w'.heap.size
 block:∀k,k<w.heap.size->S k->Plain w k->w'.heap[k]?=w.heap[k]?
theorem owns_block{w w':World}{B e size n:Nat}{v:Value}{xs:List Value}(h:w.ownsRow B e size v n xs)(hb:∀k,v.ownBlock=some k->w'.heap[k]?=w.heap[k]?):w'.ownsRow B e size v n xs:=by
 refine⟨h.1,?_⟩
 rcases h.2 with hn|⟨g,cap,cur,rfl,hB,hg,rest⟩
 ·exact .inl hn
 ·exact .inr ⟨g,cap,cur,rfl,hB,by rw[hb g rfl];exact hg,rest⟩
theorem owns_lt{w:World}{B e size n:Nat}{v:Value}{xs:List Value}(h:w.ownsRow B e size v n xs){k:Nat}(hk:v.ownBlock=some k):k<w.heap.size:=(h.lt k hk).2
theorem owns_ty{w:World}{B e size n:Nat}{v:Value}{xs:List Value}(h:w.ownsRow B e size v n xs){k:Nat}(hk:v.ownBlock=some k):∃c,w.heap[k]?=some (.cells c e (0,0)):=by
 rcases h.2 with ⟨rfl,_⟩|⟨g,cap,cur,rfl,hB,hg,rest⟩
 ·simp[Value.ownBlock]at hk
 ·simp only[Value.ownBlock,Option.some.injEq]at hk
  subst hk
  exact⟨cur,hg⟩
theorem owns_plain{w:World}{B e size n:Nat}{v:Value}{xs:List Value}(h:w.ownsRow B e size v n xs){k:Nat}(hk:v.ownBlock=some k)(he:e=3\/e=56\/e=62):Plain w k:=by
 obtain⟨c,hc⟩:=owns_ty h hk
 exact⟨c,e,_,hc,he⟩
theorem GoodI.kept{w w':World}{S:Nat->Prop}{v:Value}{x:Int}(h:GoodI w S v x)(hk:Kp w w' S):GoodI w' S v x:=by
 obtain⟨n,h1,h2,h3⟩:=h
 exact⟨n,owns_block h1 (fun k e=>hk.block k (owns_lt h1 e) (h3 k e) (owns_plain h1 e (.inl rfl))),h2,h3⟩
theorem GoodC.kept{w w':World}{S:Nat->Prop}{v:Value}{x:Int}(h:GoodC w S v x)(hk:Kp w w' S):GoodC w' S v x:=by
 obtain⟨n,h1,h2,h3⟩:=h
 exact⟨n,owns_block h1 (fun k e=>hk.block k (owns_lt h1 e) (h3 k e) (owns_plain h1 e (.inr (.inl rfl)))),h2,h3⟩
theorem MarkedF.kept{w w':World}{S:Nat->Prop}{f:FV}{x:Int}(h:MarkedF w S f x)(hk:Kp w w' S):MarkedF w' S f x:=by
 obtain⟨q,c,h1,h2,h3⟩:=h
 exact⟨q,c,h1,h2,(hk.block q (Array.getElem?_eq_some_iff.1 h3).1 h2 ⟨_,_,_,h3,.inl rfl⟩).trans h3⟩
theorem GoodF.kept{w w':World}{S:Nat->Prop}{v:Value}{x:Int}(h:GoodF w S v x)(hk:Kp w w' S):GoodF w' S v x:=by
 obtain⟨fs,h1,h2,h3,h4⟩:=h
 exact⟨fs,owns_block h1 (fun k e=>hk.block k (owns_lt h1 e) (h4 k e) (owns_plain h1 e (.inr (.inr rfl)))),h2,fun f hf=>(h3 f hf).kept hk,h4⟩
theorem GoodI.more{w:World}{S S':Nat->Prop}{v:Value}{x:Int}(h:GoodI w S v x)(hs:∀k,k<w.heap.size->S k->S' k):GoodI w S' v x:=by
 obtain⟨n,h1,h2,h3⟩:=h
 exact⟨n,h1,h2,fun k e=>hs k (owns_lt h1 e) (h3 k e)⟩
theorem GoodC.more{w:World}{S S':Nat->Prop}{v:Value}{x:Int}(h:GoodC w S v x)(hs:∀k,k<w.heap.size->S k->S' k):GoodC w S' v x:=by
 obtain⟨n,h1,h2,h3⟩:=h
 exact⟨n,h1,h2,fun k e=>hs k (owns_lt h1 e) (h3 k e)⟩
theorem GoodF.more{w:World}{S S':Nat->Prop}{v:Value}{x:Int}(h:GoodF w S v x)(hs:∀k,k<w.heap.size->S k->S' k):GoodF w S' v x:=by
 obtain⟨fs,h1,h2,h3,h4⟩:=h
 refine⟨fs,h1,h2,fun f hf=>?_,fun k e=>hs k (owns_lt h1 e) (h4 k e)⟩
 obtain⟨q,c,g1,g2,g3⟩:=h3 f hf
 exact⟨q,c,g1,hs q (Array.getElem?_eq_some_iff.1 g3).1 g2,g3⟩
theorem HG.kept{w w':World}{S:Nat->Prop}{ei ec ef:List (Value × Int)}(h:HG w S ei ec ef)(hk:Kp w w' S):HG w' S ei ec ef:=
 ⟨fun x hx=>(h.gi x hx).kept hk,fun x hx=>(h.gc x hx).kept hk,fun x hx=>(h.gf x hx).kept hk⟩
theorem HG.more{w:World}{S S':Nat->Prop}{ei ec ef:List (Value × Int)}(h:HG w S ei ec ef)(hs:∀k,k<w.heap.size->S k->S' k):HG w S' ei ec ef:=
 ⟨fun x hx=>(h.gi x hx).more hs,fun x hx=>(h.gc x hx).more hs,fun x hx=>(h.gf x hx).more hs⟩
theorem Hd.below{w w':World}{B:Nat}{ph:Hp}{S:Nat->Prop}{K:Nat}(h:Hd w B ph S K)(hb:Below w.heap.size w w'):Hd w' B ph S K:=by
 obtain⟨N,vi,vc,vf,ei,ec,ef,h,g,k⟩:=h
 refine⟨N,vi,vc,vf,ei,ec,ef,⟨(hb.block ph.b h.h.lt).trans h.h,owns_block h.oi (fun k e=>hb.block k (owns_lt h.oi e)),owns_block h.oc (fun k e=>hb.block k (owns_lt h.oc e)),owns_block h.of (fun k e=>hb.block k (owns_lt h.of e)),h.hB⟩,g.kept ⟨hb.size,fun k hk _ _=>hb.block k hk⟩,k⟩
theorem Hd.more{w:World}{B:Nat}{ph:Hp}{S S':Nat->Prop}{K:Nat}(h:Hd w B ph S K)(hs:∀k,k<w.heap.size->S k->S' k):Hd w B ph S' K:=by
 obtain⟨N,vi,vc,vf,ei,ec,ef,h,g,k⟩:=h
 exact⟨N,vi,vc,vf,ei,ec,ef,h,g.more hs,k⟩
structure Fr (w w':World) (X:Nat->Prop):Prop where
 os:w'.os=w.os
 tape:w'.tape=w.tape
 output:w'.output=w.output
 size:w.heap.size<=w'.heap.size
 block:∀k,k<w.heap.size->¬X k->w'.heap[k]?=w.heap[k]?
theorem Fr.refl(w:World)(X:Nat->Prop):Fr w w X:=⟨rfl,rfl,rfl,Nat.le_refl _,fun _ _ _=>rfl⟩
theorem Fr.grown{w w1 w2:World}{X:Nat->Prop}{r:Option Nat}(h:Fr w w1 X)(hg:w1.grownBy w2 r)(hr:∀k,r=some k->X k\/w.heap.size<=k):Fr w w2 X:=
 ⟨hg.os.trans h.os,hg.tape.trans h.tape,hg.output.trans h.output,Nat.le_trans h.size hg.size,fun k hk hx=>by
  rw[hg.block k (Nat.lt_of_lt_of_le hk h.size) (fun e=>by rcases hr k e.symm with h'|h';exact hx h';omega)]
  exact h.block k hk hx⟩
theorem Fr.trans{w w1 w2:World}{X Y:Nat->Prop}(h:Fr w w1 X)(k:Fr w1 w2 Y)(hY:∀j,Y j->X j\/w.heap.size<=j):Fr w w2 X:=
 ⟨k.os.trans h.os,k.tape.trans h.tape,k.output.trans h.output,Nat.le_trans h.size k.size,fun j hj hx=>by
  rw[k.block j (Nat.lt_of_lt_of_le hj h.size) (fun e=>by rcases hY j e with h'|h';exact hx h';omega)]
  exact h.block j hj hx⟩
theorem Fr.below{w w':World}{X:Nat->Prop}{B:Nat}(h:Fr w w' X)(hX:∀k,X k->B<=k)(hB:B<=w.heap.size):Below B w w':=
 ⟨h.os,h.tape,h.output,h.size,fun k hk=>h.block k (by omega) (fun e=>by have:=hX k e;omega)⟩
theorem front_kept{w w':World}{B e size lx lg:Nat}{x gv:Value}{f:Nat->List Value}(hf:∀a b,a<=b->∃ys,f b=f a++ys)(hx:w.ownsRow B e size x lx (f lx))(hg:w.ownsRow B e size gv lg (f lg))(hs:0<size)(hle:lx<=lg)(hgr:w.grownBy w' gv.ownBlock)(hg':w'.ownsRow B e size gv lg (f lg)):w'.ownsRow B e size x lx (f lx):=by
 by_cases he:x.ownBlock=gv.ownBlock
 ·rcases hx.2 with ⟨rfl,rfl⟩|⟨g,cap,cur,rfl,hb,hgg,h1,h2,h3,h4⟩
  ·have:f 0=[]:=List.eq_nil_of_length_eq_zero (by simpa using hx.1)
   rw[this]
   exact World.ownsRow_nil w' B e size
  ·rcases hg.2 with ⟨rfl,_⟩|⟨g',cap',cur',rfl,hb',hgg',h1',h2',h3',h4'⟩
   ·simp[Value.ownBlock]at he
   ·simp only[Value.ownBlock,Option.some.injEq]at he
    subst he
    rw[hgg]at hgg'
    simp only[Option.some.injEq,Obj.cells.injEq,and_true]at hgg'
    subst hgg'
    have hcap:cap=cap':=Nat.eq_of_mul_eq_mul_right hs (h3.symm.trans h3')
    obtain⟨ys,hys⟩:=hf lx lg hle
    rw[hys]at hg'
    exact owns_front hg' hx.1 hle hcap
 ·exact hx.kept hgr (by cases hb:x.ownBlock with
   | none=>exact .inl rfl
   | some k=>exact .inr (by rw[<-hb];exact he))
theorem ints_front(x:Int):∀a b,a<=b->∃ys,ints b x=ints a x++ys:=fun a b h=>⟨ints (b-a) x,by unfold ints;rw[List.replicate_append_replicate];congr 1;omega⟩
theorem ints_succ(n:Nat)(x:Int):ints (n+1) x=ints n x++[.int .i64 x]:=by unfold ints;rw[List.replicate_succ']
theorem mark_any(ph:Hp)(N:Int)(a b c:Value)(w:World)(h:HB w ph (.int .i64 N) a b c):
  Calls Tryz.prog 70 #[.pointer (some ⟨ph.b,2,none⟩)] w fun e w'=>∃n N':Int,e=.returned (.int .i64 n)/\w'=w.setCell ⟨ph.b,2,none⟩ (.int .i64 N'):=by
 have c0:=h.c0
 have f0:=h.fz 2
 have c1:=(h.set0 (.int .i64 (wrap64 (N+1)))).c0
 clear h
 go_enter Tryz.func70,Tryz.ntmps70
 go_wp2
 go_ret
 exact⟨_,_,rfl,rfl⟩
theorem Tryz.info50:(Tryz.prog.info? 50).map (fun i=>(i.zero,i.size,i.bytes))=some (some (.agg #[.slice none 0 0,.int .i64 0]),2,32):=by kernel_rfl
theorem ne_ph{w:World}{B e size n q:Nat}{t:TypeId}{fr:Nat × Nat}{v:Value}{c:Array Value}{xs:List Value}(h:w.ownsRow B e size v n xs)(hp:w.heap[q]?=some (.cells c t fr))(he:e≠t):v.ownBlock≠some q:=by
 intro hv
 obtain⟨c,hc⟩:=owns_ty h hv
 rw[hp]at hc
 simp at hc
 exact he hc.2.1.symm
theorem HR.plain{w w':World}{B:Nat}{ph:Hp}{N:Int}{vi vc vf:Value}{ei ec ef:List (Value × Int)}{r:Option Nat}(h:HR w B ph N vi vc vf ei ec ef)(hg:w.grownBy w' r)(hr:∀k,r=some k->Plain w k):HR w' B ph N vi vc vf ei ec ef:=by
 have no:∀{e:Nat} {v:Value} {n:Nat} {xs:List Value},w.ownsRow B e 2 v n xs->(e≠3/\e≠56/\e≠62)->v.ownBlock=none\/v.ownBlock≠r:=by
  intro e v n xs ho he
  cases hv:v.ownBlock with
  | none=>exact .inl rfl
  | some k=>
   refine .inr (fun hk=>?_)
   obtain⟨c,t,fr,hc,ht⟩:=hr k hk.symm
   obtain⟨c',hc'⟩:=owns_ty ho hv
   rw[hc]at hc'
   simp at hc'
   rcases ht with ht|ht|ht
   ·exact he.1 (hc'.2.1.symm.trans ht)
   ·exact he.2.1 (hc'.2.1.symm.trans ht)
   ·exact he.2.2 (hc'.2.1.symm.trans ht)
 refine⟨h.h.kept hg (fun e=>?_),h.oi.kept hg (no h.oi (by decide)),h.oc.kept hg (no h.oc (by decide)),h.of.kept hg (no h.of (by decide)),h.hB⟩
 obtain⟨c,t,fr,hc,ht⟩:=hr ph.b e.symm
 have:=h.h
 unfold HB at this
 rw[this]at hc
 simp at hc
 rcases ht with ht|ht|ht<;>(rw[ht]at hc;exact absurd hc.2.1 (by decide))
theorem HR.setN{w:World}{B:Nat}{ph:Hp}{N:Int}{vi vc vf:Value}{ei ec ef:List (Value × Int)}(h:HR w B ph N vi vc vf ei ec ef)(N':Int):HR (w.setCell ⟨ph.b,2,none⟩ (.int .i64 N')) B ph N' vi vc vf ei ec ef:=
 ⟨h.h.set0 _,owns_set h.oi (ne_ph h.oi h.h (by decide)) 2 _,owns_set h.oc (ne_ph h.oc h.h (by decide)) 2 _,owns_set h.of (ne_ph h.of h.h (by decide)) 2 _,h.hB⟩
theorem kp_grown{w w':World}{S:Nat->Prop}{r:Option Nat}(hg:w.grownBy w' r)(hr:∀k,r=some k->S k->Plain w k->False):Kp w w' S:=
 ⟨hg.size,fun k hk hs hp=>hg.block k hk (fun e=>hr k e.symm hs hp)⟩
theorem not_plain{w:World}{B e size n:Nat}{v:Value}{xs:List Value}(h:w.ownsRow B e size v n xs)(he:e≠3/\e≠56/\e≠62){k:Nat}(hk:v.ownBlock=some k):¬Plain w k:=by
 rintro⟨c,t,fr,hc,ht⟩
 obtain⟨c',hc'⟩:=owns_ty h hk
 rw[hc]at hc'
 simp at hc'
 rcases ht with ht|ht|ht
 ·exact he.1 (hc'.2.1.symm.trans ht)
 ·exact he.2.1 (hc'.2.1.symm.trans ht)
 ·exact he.2.2 (hc'.2.1.symm.trans ht)
def Xs(w:World)(B:Nat)(ph:Hp)(v:Value)(T:TypeId)(k:Nat):Prop:=B<=k/\(k=ph.b\/v.ownBlock=some k\/∃c fr,w.heap[k]?=some (.cells c T fr))
def S1(w:World)(S:Nat->Prop)(v:Value)(k:Nat):Prop:=(S k/\k<w.heap.size)\/v.ownBlock=some k\/w.heap.size<=k
theorem loc{a b:Option Nat}{m m':Nat}(h:a=b\/a=some m)(hm:m'<=m):∀j,a=some j->b=some j\/m'<=j:=by
 intro j hj
 rcases h with h|h
 ·exact .inl (h.symm.trans hj)
 ·rw[h]at hj
  simp only[Option.some.injEq]at hj
  subst hj
  exact .inr hm
structure LI (w wr:World) (B:Nat) (ph:Hp) (S0 X P1:Nat->Prop) (N n:Int) (n0 k:Nat) (v vi0 gv vi vc vf:Value) (ei en ec ef:List (Value × Int)):Prop where
 r:HR wr B ph N vi vc vf (ei++en) ec ef
 g:HG wr S0 ei ec ef
 og:wr.ownsRow B 3 1 gv (n0+k) (ints (n0+k) n)
 ov:wr.ownsRow B 3 1 v n0 (ints n0 n)
 en:∀x∈en,x.2=n/\∃lx,lx<=n0+k/\wr.ownsRow B 3 1 x.1 lx (ints lx n)/\∀j,x.1.ownBlock=some j->P1 j
 pg:∀j,gv.ownBlock=some j->P1 j
 pi:∀j,vi.ownBlock=some j->vi0.ownBlock=some j\/w.heap.size<=j
 fr:Fr w wr X
section
variable {w wr w3:World} {B:Nat} {ph:Hp} {S0 X P1:Nat->Prop} {N n:Int} {n0 k:Nat} {v vi0 gv vi vc vf vi' gv':Value} {ei en ec ef:List (Value × Int)}
theorem LI.alloc(h:LI w wr B ph S0 X P1 N n n0 k v vi0 gv vi vc vf ei en ec ef)(o:Obj):LI w (wr.alloc o) B ph S0 X P1 N n n0 k v vi0 gv vi vc vf ei en ec ef:=
 ⟨h.r.plain (World.grownBy_alloc wr o none) (by intro k hk;cases hk),h.g.kept (kp_grown (World.grownBy_alloc wr o none) (by intro k hk;cases hk)),h.og.alloc o,h.ov.alloc o,
  fun x hx=>⟨(h.en x hx).1,by obtain⟨lx,h1,h2,h3⟩:=(h.en x hx).2;exact⟨lx,h1,h2.alloc o,h3⟩⟩,h.pg,h.pi,h.fr.grown (World.grownBy_alloc wr o none) (by intro k hk;cases hk)⟩
theorem LI.push(h:LI w wr B ph S0 X P1 N n n0 k v vi0 gv vi vc vf ei en ec ef)(hX:∀j,vi0.ownBlock=some j->X j)(hXp:X ph.b){M:Nat}(hM:M=(ei++en).length)(ho:w3.ownsRow B 50 2 vi' (M+1) (hc (ei++en)++[gv,.int .i64 n]))(hg:wr.grownBy w3 vi.ownBlock)(hl:∀j,vi'.ownBlock=some j->vi.ownBlock=some j\/wr.heap.size<=j):
  LI w (w3.setCell ⟨ph.b,3,none⟩ vi') B ph S0 X P1 N n n0 k v vi0 gv vi' vc vf ei (en++[(gv,n)]) ec ef:=by
 have hp3:HB w3 ph (.int .i64 N) vi vc vf:=h.r.h.kept hg (fun e=>ne_ph h.r.oi h.r.h (by decide) e.symm)
 have nb:∀{e:Nat} {u:Value} {m size:Nat} {xs:List Value},wr.ownsRow B e size u m xs->e≠50->e≠34->(w3.setCell ⟨ph.b,3,none⟩ vi').ownsRow B e size u m xs:=by
  intro e u m size xs hu he he2
  have h3:=owns_other hu h.r.oi hg he
  exact owns_set h3 (ne_ph h3 hp3 he2) 3 vi'
 have kp3:Kp wr w3 S0:=kp_grown hg (fun j hj _ hp=>not_plain h.r.oi (by decide) hj hp)
 have kp4:Kp w3 (w3.setCell ⟨ph.b,3,none⟩ vi') S0:=kp_grown (grown_set w3 ph.b 3 vi') (fun j hj _ hp=>by
  simp only[Option.some.injEq]at hj
  subst hj
  obtain⟨c,t,fr,hc,ht⟩:=hp
  unfold HB at hp3
  rw[hp3]at hc
  simp at hc
  rcases ht with ht|ht|ht<;>(rw[ht]at hc;exact absurd hc.2.1 (by decide)))
 refine⟨⟨hp3.set1 vi',?_,nb h.r.oc (by decide) (by decide),nb h.r.of (by decide) (by decide),h.r.hB⟩,(h.g.kept kp3).kept kp4,nb h.og (by decide) (by decide),nb h.ov (by decide) (by decide),?_,h.pg,?_,?_⟩
 ·have e1:(ei++(en++[(gv,n)])).length=(ei++en).length+1:=by simp;omega
  have e2:hc (ei++(en++[(gv,n)]))=hc (ei++en)++[gv,.int .i64 n]:=by rw[<-List.append_assoc,hc_snoc]
  rw[e1,e2,<-hM]
  exact owns_set ho (ne_ph ho hp3 (by decide)) 3 vi'
 ·intro x hx
  rcases List.mem_append.1 hx with hx|hx
  ·obtain⟨h1,lx,h2,h3,h4⟩:=h.en x hx
   exact⟨h1,lx,h2,nb h3 (by decide) (by decide),h4⟩
  ·simp only[List.mem_singleton]at hx
   subst hx
   exact⟨rfl,n0+k,Nat.le_refl _,nb h.og (by decide) (by decide),h.pg⟩
 ·intro j hj
  rcases hl j hj with h'|h'
  ·exact h.pi j h'
  ·exact .inr (Nat.le_trans h.fr.size h')
 ·refine(h.fr.grown hg ?_).grown (grown_set w3 ph.b 3 vi') ?_
  ·intro j hj
   rcases h.pi j hj with h'|h'
   ·exact .inl (hX j h')
   ·exact .inr h'
  ·intro j hj
   simp only[Option.some.injEq]at hj
   subst hj
   exact .inl hXp
theorem LI.grow(h:LI w wr B ph S0 X P1 N n n0 k v vi0 gv vi vc vf ei en ec ef)(hPS:∀j,P1 j->¬S0 j)(hPX:∀j,P1 j->X j\/w.heap.size<=j)(hP2:∀j,w.heap.size<=j->P1 j)(ho:w3.ownsRow B 3 1 gv' (n0+k+1) (ints (n0+k) n++[.int .i64 n]))(hg:wr.grownBy w3 gv.ownBlock)(hkp:w3.ownsRow B 3 1 gv (n0+k) (ints (n0+k) n))(hl:∀j,gv'.ownBlock=some j->gv.ownBlock=some j\/wr.heap.size<=j):
  LI w w3 B ph S0 X P1 N n n0 (k+1) v vi0 gv' vi vc vf ei en ec ef:=by
 refine⟨h.r.plain hg (fun j hj=>owns_plain h.og hj (.inl rfl)),h.g.kept (kp_grown hg (fun j hj hs _=>hPS j (h.pg j hj) hs)),?_,?_,?_,?_,h.pi,h.fr.grown hg (fun j hj=>hPX j (h.pg j hj))⟩
 ·rw[show n0+(k+1)=n0+k+1 from by omega,ints_succ];exact ho
 ·exact front_kept (f:=fun a=>ints a n) (ints_front n) h.ov h.og (by decide) (by omega) hg hkp
 ·intro x hx
  obtain⟨h1,lx,h2,h3,h4⟩:=h.en x hx
  exact⟨h1,lx,by omega,front_kept (f:=fun a=>ints a n) (ints_front n) h3 h.og (by decide) (by omega) hg hkp,h4⟩
 ·intro j hj
  rcases hl j hj with h'|h'
  ·exact h.pg j h'
  ·exact hP2 _ (Nat.le_trans h.fr.size h')
end
def HOut(w w':World)(B:Nat)(ph:Hp)(S:Nat->Prop)(K:Nat)(v:Value)(T:TypeId)(good:World->(Nat->Prop)->Value->Int->Prop)(e:Ending):Prop:=
 ∃n:Int,e=.returned (.int .i64 n)/\Hd w' B ph (S1 w S v) (K+4)/\good w' (S1 w S v) v n/\Fr w w' (Xs w B ph v T)
theorem owns_zero{w:World}{B e size n:Nat}{v:Value}{xs:List Value}(h:w.ownsRow B e size v n xs):w.ownsRow 0 e size v n xs:=owns_base h (Nat.zero_le _)
theorem set_mark(xs:List Value)(k:Nat)(h:k<xs.length)(n:Int):(ints k n++xs.drop k).set k (.int .i64 n)=ints (k+1) n++xs.drop (k+1):=by
 have hl:(ints k n).length=k:=by simp[ints]
 rw[List.drop_eq_getElem_cons h,ints_succ,List.append_assoc,List.set_append,if_neg (by omega),hl,Nat.sub_self]
 rfl
theorem hints_any(B:Nat)(ph:Hp)(K n0:Nat)(S:Nat->Prop)(v:Value)(xs:List Value)(w:World)(hd:Hd w B ph S K)(ho:w.ownsRow B 3 1 v n0 xs)(hn0:n0<=1500000)(hS:∀k,v.ownBlock=some k->¬S k)(hK:K<=1000000000):
  Calls Tryz.prog 45 #[.pointer (some ⟨ph.b,2,none⟩),v] w fun e w'=>HOut w w' B ph S K v 50 GoodI e:=by
 obtain⟨i0,hi0,hz0,hz1,hz2⟩:=info_parts Tryz.info3
 obtain⟨j0,hj0,hy0,hy1,hy2⟩:=info_parts Tryz.info50
 obtain⟨N,vi,vc,vf,ei,ec,ef,r,g,ki,kc,kf⟩:=hd
 obtain⟨ao,cap,rfl⟩:=owns_shape ho
 have hB:=r.hB
 have hpl:=r.h.lt
 go_enter Tryz.func45,Tryz.ntmps45
 go_wp2_with fail
 refine(mark_any ph N vi vc vf w r.h).mono ?_
 rintro e w1 ⟨n,N',rfl,hw1⟩
 have hgs:w.grownBy w1 (some ph.b):=by rw[hw1];exact grown_set w ph.b 2 _
 have r1:HR w1 B ph N' vi vc vf ei ec ef:=by rw[hw1];exact r.setN N'
 have o1:w1.ownsRow B 3 1 (.slice ao n0 cap) n0 xs:=by rw[hw1];exact owns_set ho (ne_ph ho r.h (by decide)) 2 _
 have f1:Fr w w1 (Xs w B ph (.slice ao n0 cap) 50):=(Fr.refl _ _).grown hgs (fun k hk=>by simp only[Option.some.injEq]at hk;subst hk;exact .inl ⟨hB,.inl rfl⟩)
 have g1:HG w1 (fun k=>S k/\k<w.heap.size) ei ec ef:=(g.more (S':=fun k=>S k/\k<w.heap.size) (fun k hk hs=>⟨hs,hk⟩)).kept (kp_grown hgs (fun j hj _ hp=>by
  simp only[Option.some.injEq]at hj
  subst hj
  obtain⟨c,t,fr,hc,ht⟩:=hp
  have:=r.h
  unfold HB at this
  rw[this]at hc
  simp at hc
  rcases ht with ht|ht|ht<;>(rw[ht]at hc;exact absurd hc.2.1 (by decide))))
 have HXi:Hid (∀j,vi.ownBlock=some j->Xs w B ph (.slice ao n0 cap) 50 j):=fun j hj=>by
  obtain⟨c,hc⟩:=owns_ty r.oi hj
  exact⟨(r.oi.lt j hj).1,.inr (.inr ⟨c,_,hc⟩)⟩
 have HXv:Hid (∀j,(Value.slice ao n0 cap).ownBlock=some j->Xs w B ph (.slice ao n0 cap) 50 j):=fun j hj=>⟨(ho.lt j hj).1,.inr (.inl hj)⟩
 have HXp:Hid (Xs w B ph (.slice ao n0 cap) 50 ph.b):=⟨hB,.inl rfl⟩
 have HS:Hid _:=hS
 have hlx:xs.length=n0:=by simpa using ho.1
 clear hw1 hgs r g ho hS
 go_wp2
 go_loopw [6] (fun i wr=>∃k:Nat,k<=n0/\i=.int .i64 k/\wr.ownsRow B 3 1 (.slice ao n0 cap) n0 (ints k n++xs.drop k)/\HR wr B ph N' vi vc vf ei ec ef/\HG wr (fun k=>S k/\k<w.heap.size) ei ec ef/\Fr w wr (Xs w B ph (.slice ao n0 cap) 50)) (fun i _=>n0-(intOf i).toNat)
 case atStart=>exact⟨0,Nat.zero_le _,rfl,by simpa[ints]using o1,r1,g1,f1⟩
 case round=>
  obtain⟨k,hk,rfl,ho,hr,hg,hf⟩:=hrel
  clear o1 r1 g1 f1
  by_cases hlt:k<n0
  ·obtain⟨g0,rfl⟩:∃g0,ao=some ⟨g0,0,none⟩:=by
    rcases ho.2 with ⟨_,h0⟩|⟨g0,cap',cur,h0,_⟩
    ·omega
    ·simp only[Value.slice.injEq]at h0
     exact⟨g0,h0.1⟩
   have hc:=ho.cellAt k (by omega)
   have hfz:=ho.frozenAt k
   have hst:=ho.stored k (.int .i64 n)
   have hcx:∃u,wr.cell? ⟨g0,k,none⟩=some u:=by
    rw[hc]
    have:k<(ints k n++xs.drop k).length:=by simp[ints];omega
    exact⟨_,List.getElem?_eq_getElem this⟩
   obtain⟨u,hu⟩:=hcx
   have o2:(wr.setCell ⟨g0,k,none⟩ (.int .i64 n)).ownsRow B 3 1 (.slice (some ⟨g0,0,none⟩) n0 cap) n0 (ints (k+1) n++xs.drop (k+1)):=by
    have h1:=hst.1
    have h2:=set_mark xs k (by omega) n
    rwa[h2]at h1
   have r2:=hr.plain hst.2 (fun j hj=>by simp only[Option.some.injEq]at hj;subst hj;exact owns_plain ho rfl (.inl rfl))
   have g2:=hg.kept (kp_grown hst.2 (fun j hj hs _=>by simp only[Option.some.injEq]at hj;subst hj;exact HS.out g0 rfl hs.1))
   have f2:=hf.grown hst.2 (fun j hj=>by simp only[Option.some.injEq]at hj;subst hj;exact .inl (HXv.out g0 rfl))
   clear hc hst ho hr hg hf
   go_wp2
   go_roundw
   case rel=>exact⟨k+1,hlt,by go_num,o2,r2,g2,f2⟩
   case measure=>simp[intOf];omega
  ·have hkn:k=n0:=by omega
   subst hkn
   have hog:wr.ownsRow B 3 1 (.slice ao k cap) k (ints k n):=by
    have:=ho
    rw[List.drop_of_length_le (by omega),List.append_nil]at this
    exact this
   have L0:LI w wr B ph (fun j=>S j/\j<w.heap.size) (Xs w B ph (.slice ao k cap) 50) (fun j=>(Value.slice ao k cap).ownBlock=some j\/w.heap.size<=j) N' n k 0 (.slice ao k cap) vi (.slice ao k cap) vi vc vf ei [] ec ef:=
    ⟨by simpa using hr,hg,hog,hog,by simp,fun j hj=>.inl hj,fun j hj=>.inl hj,hf⟩
   clear ho hr hg hf hog
   have HPS:Hid (∀j,((Value.slice ao k cap).ownBlock=some j\/w.heap.size<=j)->¬(S j/\j<w.heap.size)):=fun j hj hs=>by
    rcases hj with hj|hj
    ·exact HS.out j hj hs.1
    ·omega
   have HPX:Hid (∀j,((Value.slice ao k cap).ownBlock=some j\/w.heap.size<=j)->Xs w B ph (.slice ao k cap) 50 j\/w.heap.size<=j):=fun j hj=>by
    rcases hj with hj|hj
    ·exact .inl (HXv.out j hj)
    ·exact .inr hj
   go_wp2
   go_loopw [7,8] (fun gv i wr=>∃(q:Nat) (vi':Value) (en:List (Value × Int)),q<=3/\i=.int .i64 q/\en.length=q/\
     LI w wr B ph (fun j=>S j/\j<w.heap.size) (Xs w B ph (.slice ao k cap) 50) (fun j=>(Value.slice ao k cap).ownBlock=some j\/w.heap.size<=j) N' n k q (.slice ao k cap) vi gv vi' vc vf ei en ec ef) (fun _ i _=>3-(intOf i).toNat)
   case atStart=>exact⟨0,vi,[],by omega,rfl,rfl,L0⟩
   case round=>
    obtain⟨q,vi',en,hq,rfl,hen,L⟩:=hrel
    clear L0
    obtain⟨ao7,cap7,rfl⟩:=owns_shape L.og
    obtain⟨aoi,capi,hvi⟩:=owns_shape L.r.oi
    obtain⟨M,hM⟩:∃M,M=(ei++en).length:=⟨_,rfl⟩
    rw[<-hM]at hvi
    subst hvi
    have hM2:M<=1000000003:=by rw[hM];simp;omega
    have HM:Hid _:=hM
    have HEN:Hid _:=hen
    clear hM hen
    have c1:=L.r.h.c1
    have hz:=L.r.h.lt
    have LA:=L.alloc (.cells #[.slice ao7 (k+q) cap7,.int .i64 n] 50)
    have oiA:=LA.r.oi
    rw[<-HM.out]at oiA
    clear L
    by_cases hlt:q<3
    ·go_wp2_with (at_builtin;refine wpList_append_keep rfl _ _ 28 rfl B 50 j0 (.agg #[.slice none 0 0,.int .i64 0]) 2 32 Tryz.underlying28 hj0 hy0 hy1 hy2 rfl (by decide) _ _ _ rfl oiA ⟨wr.heap.size,0,none⟩ 1 1 [.slice ao7 (k+q) cap7,.int .i64 n] rfl rfl (cell_two _ _ _ _) ?d2 ?d3 ?d4 ?d5 (by decide) ?_)
     case d2=>intro u hu;simp at hu;rcases hu with rfl|rfl<;>rfl
     case d3=>unfold maxLen;omega
     case d4=>omega
     case d5=>simp only[World.size_alloc];omega
     intro vi2 w3 hv3 hg3 _ hl3
     obtain⟨ao2,cap2,rfl⟩:=owns_shape hv3
     have L4:=LA.push HXi.out HXp.out HM.out hv3 hg3 (loc hl3 (by simp only[World.size_alloc];omega))
     have p3:=LA.r.h.kept hg3 (fun e=>ne_ph LA.r.oi LA.r.h (by decide) e.symm)
     have e1:=p3.c1
     have e2:=p3.fz 3
     clear LA hv3 hg3 hl3 p3 c1 oiA
     have LB:=L4.alloc (.cells #[.int .i64 n] 3)
     have hz4:=L4.r.h.lt
     clear L4
     go_wp2_with (at_builtin;refine wpList_append_keep rfl _ _ 35 rfl B 3 i0 (.int .i64 0) 1 8 Tryz.underlying35 hi0 hz0 hz1 hz2 rfl (by decide) _ _ _ rfl LB.og ⟨(w3.setCell ⟨ph.b,3,none⟩ (.slice ao2 (M+1) cap2)).heap.size,0,none⟩ 1 1 [.int .i64 n] ?t1 rfl (cell_one_new _ _ _) ?t2 ?t3 ?t4 ?t5 (by decide) ?_)
     case t1=>simp[World.setCell];rfl
     case t2=>intro u hu;simp at hu;subst hu;rfl
     case t3=>unfold maxLen;omega
     case t4=>omega
     case t5=>simp only[World.size_alloc];omega
     intro gv2 w5 hv5 hg5 hkp5 hl5
     have L6:=LB.grow HPS.out HPX.out (fun j hj=>.inr hj) hv5 hg5 hkp5 (loc hl5 (by simp[World.setCell]))
     clear LB hv5 hg5 hkp5 hl5 e1 e2
     go_wp2
     go_roundw
     case rel=>exact⟨q+1,_,en++[(_,n)],hlt,by go_num,by simp[HEN.out],L6⟩
     case measure=>simp[intOf];omega
    ·have hq3:q=3:=by omega
     subst hq3
     go_wp2_with (at_builtin;refine wpList_append_keep rfl _ _ 28 rfl B 50 j0 (.agg #[.slice none 0 0,.int .i64 0]) 2 32 Tryz.underlying28 hj0 hy0 hy1 hy2 rfl (by decide) _ _ _ rfl oiA ⟨wr.heap.size,0,none⟩ 1 1 [.slice ao7 (k+3) cap7,.int .i64 n] rfl rfl (cell_two _ _ _ _) ?x2 ?x3 ?x4 ?x5 (by decide) ?_)
     case x2=>intro u hu;simp at hu;rcases hu with rfl|rfl<;>rfl
     case x3=>unfold maxLen;omega
     case x4=>omega
     case x5=>simp only[World.size_alloc];omega
     intro vi2 w3 hv3 hg3 _ hl3
     obtain⟨ao2,cap2,rfl⟩:=owns_shape hv3
     have L4:=LA.push HXi.out HXp.out HM.out hv3 hg3 (loc hl3 (by simp only[World.size_alloc];omega))
     have p3:=LA.r.h.kept hg3 (fun e=>ne_ph LA.r.oi LA.r.h (by decide) e.symm)
     have e1:=p3.c1
     have e2:=p3.fz 3
     clear LA hv3 hg3 hl3 p3 c1 oiA
     have fin:HOut w (w3.setCell ⟨ph.b,3,none⟩ (.slice ao2 (M+1) cap2)) B ph S K (.slice ao k cap) 50 GoodI (.returned (.int .i64 n)):=by
      have up:∀j,(Value.slice ao k cap).ownBlock=some j\/w.heap.size<=j->S1 w S (.slice ao k cap) j:=fun j hj=>.inr hj
      have gn:=L4.g.more (S':=S1 w S (.slice ao k cap)) (fun j _ hj=>.inl hj)
      refine⟨n,rfl,⟨N',_,vc,vf,ei++(en++[(_,n)]),ec,ef,L4.r,⟨?_,gn.gc,gn.gf⟩,by simp[HEN.out];omega,by omega,by omega⟩,⟨k,owns_zero L4.ov,by omega,fun j hj=>up j (.inl hj)⟩,L4.fr⟩
      intro x hx
      rcases List.mem_append.1 hx with hx|hx
      ·exact gn.gi x hx
      ·obtain⟨h1,lx,h2,h3,h4⟩:=L4.en x hx
       rw[h1]
       exact⟨lx,owns_zero h3,by omega,fun j hj=>up j (h4 j hj)⟩
     have FIN:Hid _:=fin
     clear fin L4
     go_wp2
     go_ret
     exact FIN.out
end Go.Proofs.YtjamgmbdilkbcaaGreat
