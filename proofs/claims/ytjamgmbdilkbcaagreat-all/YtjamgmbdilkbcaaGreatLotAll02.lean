import Derived.Test.YtjamgmbdilkbcaaGreatLotAll01
set_option maxHeartbeats 1000000
namespace Go.Proofs.YtjamgmbdilkbcaaGreat
open Go.RowKit
structure FV where
 p:Value
 r:Value
 l:Value
 c:Value
def FV.cells(x:FV):List Value:=[x.p,x.r,x.l,x.c]
def bl(vs:List Value):List Nat:=vs.flatMap fun v=>v.ownBlock.toList
theorem bl_nil:bl []=[]:=rfl
theorem bl_cons(v:Value)(vs:List Value):bl (v::vs)=v.ownBlock.toList++bl vs:=by simp[bl]
theorem bl_append(a b:List Value):bl (a++b)=bl a++bl b:=by simp[bl]
structure FnAt (w:World) (B:Nat) (f:Pu.Fn) (x:FV):Prop where
 p:w.ownsRow B 3 1 x.p f.params.length (f.params.map (Value.int .i64))
 r:w.ownsRow B 3 1 x.r f.results.length (f.results.map (Value.int .i64))
 l:w.ownsRow B 3 1 x.l f.locals.length (f.locals.map (Value.int .i64))
 c:w.ownsRow B 56 2 x.c f.code.length (cc f.code)
theorem FnAt.kept{w w':World}{B p:Nat}{f:Pu.Fn}{x:FV}(h:FnAt w B f x)(hg:w.grownBy w' (some p))(hp:p<B):FnAt w' B f x:=
 ⟨owns_grown h.p hg hp,owns_grown h.r hg hp,owns_grown h.l hg hp,owns_grown h.c hg hp⟩
theorem owns_shape{w:World}{B e size n:Nat}{v:Value}{xs:List Value}(h:w.ownsRow B e size v n xs):∃ao cap,v=.slice ao n cap:=by
 rcases h.2 with ⟨rfl,rfl⟩|⟨g,cap,cur,rfl,_⟩
 ·exact⟨none,0,rfl⟩
 ·exact⟨_,_,rfl⟩
theorem owns_bl{w:World}{B e size n:Nat}{v:Value}{xs:List Value}(h:w.ownsRow B e size v n xs):∀k∈v.ownBlock.toList,B<=k/\k<w.heap.size:=by
 intro k hk
 exact h.lt k (by simpa using hk)
def F4(w:World)(q:Nat)(t:TypeId)(x0 x1 x2 x3:Value):Prop:=w.heap[q]?=some (.cells #[x0,x1,x2,x3] t (0,0))
section
variable {w w':World} {q:Nat} {t:TypeId} {x0 x1 x2 x3:Value}
theorem F4.lt(h:F4 w q t x0 x1 x2 x3):q<w.heap.size:=(Array.getElem?_eq_some_iff.1 h).1
theorem F4.c0(h:F4 w q t x0 x1 x2 x3):w.cell? ⟨q,0,none⟩=some x0:=by unfold F4 at h;simp[World.cell?,h]
theorem F4.c1(h:F4 w q t x0 x1 x2 x3):w.cell? ⟨q,1,none⟩=some x1:=by unfold F4 at h;simp[World.cell?,h]
theorem F4.c2(h:F4 w q t x0 x1 x2 x3):w.cell? ⟨q,2,none⟩=some x2:=by unfold F4 at h;simp[World.cell?,h]
theorem F4.c3(h:F4 w q t x0 x1 x2 x3):w.cell? ⟨q,3,none⟩=some x3:=by unfold F4 at h;simp[World.cell?,h]
theorem F4.fz(h:F4 w q t x0 x1 x2 x3)(o:Nat):w.frozen? ⟨q,o,none⟩=false:=by unfold F4 at h;simp[World.frozen?,h]
theorem F4.kept{r:Option Nat}(h:F4 w q t x0 x1 x2 x3)(hg:w.grownBy w' r)(hr:some q≠r):F4 w' q t x0 x1 x2 x3:=(hg.block q h.lt hr).trans h
theorem F4.set0(h:F4 w q t x0 x1 x2 x3)(v:Value):F4 (w.setCell ⟨q,0,none⟩ v) q t v x1 x2 x3:=by unfold F4 at h ⊢;simp[World.setCell,Array.getElem?_modify,h]
theorem F4.set1(h:F4 w q t x0 x1 x2 x3)(v:Value):F4 (w.setCell ⟨q,1,none⟩ v) q t x0 v x2 x3:=by unfold F4 at h ⊢;simp[World.setCell,Array.getElem?_modify,h]
theorem F4.set2(h:F4 w q t x0 x1 x2 x3)(v:Value):F4 (w.setCell ⟨q,2,none⟩ v) q t x0 x1 v x3:=by unfold F4 at h ⊢;simp[World.setCell,Array.getElem?_modify,h]
theorem F4.set3(h:F4 w q t x0 x1 x2 x3)(v:Value):F4 (w.setCell ⟨q,3,none⟩ v) q t x0 x1 x2 v:=by unfold F4 at h ⊢;simp[World.setCell,Array.getElem?_modify,h]
end
theorem grown_set(w:World)(q o:Nat)(v:Value):w.grownBy (w.setCell ⟨q,o,none⟩ v) (some q):=by
 refine⟨rfl,rfl,rfl,by simp[World.setCell],fun k _ hk=>?_⟩
 rw[Below.heap_setCell _ _ _ _ (by intro e;exact hk (by simp[e]))]
theorem grown_new{w wk:World}{q:Nat}{r:Option Nat}(h:w.grownBy wk r)(hq:w.heap.size<=q)(o:Nat)(v:Value):w.grownBy (wk.setCell ⟨q,o,none⟩ v) r:=
 ⟨h.os,h.tape,h.output,by have:=h.size;simpa[World.setCell]using this,fun k hk hr=>by rw[Below.heap_setCell _ _ _ _ (by show k≠q;omega)];exact h.block k hk hr⟩
theorem owns_set{w:World}{B e size n q:Nat}{v:Value}{xs:List Value}(h:w.ownsRow B e size v n xs)(hq:v.ownBlock≠some q)(o:Nat)(u:Value):(w.setCell ⟨q,o,none⟩ u).ownsRow B e size v n xs:=
 h.kept (grown_set w q o u) (.inr hq)
theorem Rd.set{w:World}{p q o:Nat}{u:Value}{b:ByteArray}{s:Pu.St}(h:Rd w p b s)(hq:p≠q):Rd (w.setCell ⟨q,o,none⟩ u) p b s:=
 h.kept (grown_set w q o u) (by simpa using hq)
structure FS (w wk:World) (p:Nat) (b:ByteArray) (s:Pu.St) (x0 x1 x2 x3:Value):Prop where
 rd:Rd wk p b s
 res:F4 wk w.heap.size 62 (.slice none 0 0) (.slice none 0 0) (.slice none 0 0) (.slice none 0 0)
 f:F4 wk (w.heap.size+1) 62 x0 x1 x2 x3
 g:w.grownBy wk (some p)
section
variable {w wk w1:World} {p:Nat} {b:ByteArray} {s s':Pu.St} {x0 x1 x2 x3:Value}
theorem FS.call(hp:p<w.heap.size)(h:FS w wk p b s x0 x1 x2 x3)(hr:Rd w1 p b s')(hg:wk.grownBy w1 (some p)):FS w w1 p b s' x0 x1 x2 x3:=
 ⟨hr,h.res.kept hg (by simp;omega),h.f.kept hg (by simp;omega),grown_trans h.g hg⟩
theorem FS.other(h:FS w wk p b s x0 x1 x2 x3)(hp:p<w.heap.size){q:Nat}(o:Nat)(v:Value)(hq:w.heap.size+1<q):FS w (wk.setCell ⟨q,o,none⟩ v) p b s x0 x1 x2 x3:=
 ⟨h.rd.set (by omega),h.res.kept (grown_set _ _ _ _) (by simp;omega),h.f.kept (grown_set _ _ _ _) (by simp;omega),⟨h.g.os,h.g.tape,h.g.output,by have:=h.g.size;simpa[World.setCell]using this,fun k hk hr=>by rw[Below.heap_setCell _ _ _ _ (by show k≠q;omega)];exact h.g.block k hk hr⟩⟩
theorem FS.gset(h:FS w wk p b s x0 x1 x2 x3){q:Nat}(o:Nat)(v:Value)(hq:w.heap.size<=q):w.grownBy (wk.setCell ⟨q,o,none⟩ v) (some p):=grown_new h.g hq o v
theorem FS.set0(h:FS w wk p b s x0 x1 x2 x3)(hp:p<w.heap.size)(v:Value):FS w (wk.setCell ⟨w.heap.size+1,0,none⟩ v) p b s v x1 x2 x3:=
 ⟨h.rd.set (by omega),h.res.kept (grown_set _ _ _ _) (by simp),h.f.set0 v,h.gset 0 v (by omega)⟩
theorem FS.set1(h:FS w wk p b s x0 x1 x2 x3)(hp:p<w.heap.size)(v:Value):FS w (wk.setCell ⟨w.heap.size+1,1,none⟩ v) p b s x0 v x2 x3:=
 ⟨h.rd.set (by omega),h.res.kept (grown_set _ _ _ _) (by simp),h.f.set1 v,h.gset 1 v (by omega)⟩
theorem FS.set2(h:FS w wk p b s x0 x1 x2 x3)(hp:p<w.heap.size)(v:Value):FS w (wk.setCell ⟨w.heap.size+1,2,none⟩ v) p b s x0 x1 v x3:=
 ⟨h.rd.set (by omega),h.res.kept (grown_set _ _ _ _) (by simp),h.f.set2 v,h.gset 2 v (by omega)⟩
theorem FS.set3(h:FS w wk p b s x0 x1 x2 x3)(hp:p<w.heap.size)(v:Value):FS w (wk.setCell ⟨w.heap.size+1,3,none⟩ v) p b s x0 x1 x2 v:=
 ⟨h.rd.set (by omega),h.res.kept (grown_set _ _ _ _) (by simp),h.f.set3 v,h.gset 3 v (by omega)⟩
theorem FS.alloc(h:FS w wk p b s x0 x1 x2 x3)(o:Obj):FS w (wk.alloc o) p b s x0 x1 x2 x3:=
 ⟨h.rd.kept (World.grownBy_alloc _ _ none) (by simp),h.res.kept (World.grownBy_alloc _ _ none) (by simp),h.f.kept (World.grownBy_alloc _ _ none) (by simp),grown_trans h.g (World.grownBy_alloc _ _ _)⟩
end
theorem FS.start{w:World}{p:Nat}{b:ByteArray}{s:Pu.St}(h:Rd w p b s):
  FS w ((w.alloc (.cells #[.slice none 0 0,.slice none 0 0,.slice none 0 0,.slice none 0 0] 62)).alloc (.cells #[.slice none 0 0,.slice none 0 0,.slice none 0 0,.slice none 0 0] 62)) p b s (.slice none 0 0) (.slice none 0 0) (.slice none 0 0) (.slice none 0 0):=by
 refine⟨(h.kept (World.grownBy_alloc _ _ none) (by simp)).kept (World.grownBy_alloc _ _ none) (by simp),?_,?_,grown_trans (World.grownBy_alloc _ _ _) (World.grownBy_alloc _ _ _)⟩
 ·unfold F4
  rw[Below.heap_alloc _ _ _ (by simp)]
  exact heap_alloc_new w _
 ·have:=heap_alloc_new (w.alloc (.cells #[.slice none 0 0,.slice none 0 0,.slice none 0 0,.slice none 0 0] 62)) (.cells #[.slice none 0 0,.slice none 0 0,.slice none 0 0,.slice none 0 0] 62)
  simpa[F4]using this
theorem owns_set_lt{w:World}{B e size n q:Nat}{v:Value}{xs:List Value}(h:w.ownsRow B e size v n xs)(hq:q<B)(o:Nat)(u:Value):(w.setCell ⟨q,o,none⟩ u).ownsRow B e size v n xs:=
 owns_set h (fun e=>by have:=(h.lt q e).1;omega) o u
theorem list_len(b:ByteArray)(most hi:Int)(s:Pu.St):(Pu.list b most hi s).1.length<=255:=by
 unfold Pu.list
 rw[Pu.nums_len]
 have:=Pu.number_rng b 0 most s
 omega
theorem nodup4{v1 v2 v3 v4:Value}{b1 b2 b3 b4 b5:Nat}(h12:b2<=b3)(h23:b3<=b4)(h1:∀k∈v1.ownBlock.toList,b1<=k/\k<b2)(h2:∀k∈v2.ownBlock.toList,b2<=k/\k<b3)(h3:∀k∈v3.ownBlock.toList,b3<=k/\k<b4)(h4:∀k∈v4.ownBlock.toList,b4<=k/\k<b5):
  (bl [v1,v2,v3,v4]).Nodup:=by
 have nd:∀v:Value,v.ownBlock.toList.Nodup:=fun v=>by cases v.ownBlock<;>simp
 simp only[bl_cons,bl_nil,List.append_nil]
 refine List.nodup_append.2 ⟨nd _,List.nodup_append.2 ⟨nd _,List.nodup_append.2 ⟨nd _,nd _,?_⟩,?_⟩,?_⟩
 ·intro a ha c hc;have:=h3 a ha;have:=h4 c hc;omega
 ·intro a ha c hc
  have:=h2 a ha
  rcases List.mem_append.1 hc with hc|hc
  ·have:=h3 c hc;omega
  ·have:=h4 c hc;omega
 ·intro a ha c hc
  have:=h1 a ha
  rcases List.mem_append.1 hc with hc|hc
  ·have:=h2 c hc;omega
  ·rcases List.mem_append.1 hc with hc|hc
   ·have:=h3 c hc;omega
   ·have:=h4 c hc;omega
theorem function_any(p:Nat)(b:ByteArray)(s:Pu.St)(ki fu:Int)(w:World)(h:Rd w p b s)(hs:b.size<=maxLen)(hki:0<=ki/\ki<=1000)(hfu:0<=fu/\fu<=1000):
  Calls Tryz.prog 77 #[.pointer (some ⟨p,0,none⟩),.int .i64 ki,.int .i64 fu] w fun e w'=>
   ∃x:FV,e=.returned (.agg #[x.p,x.r,x.l,x.c])/\FnAt w' w.heap.size (Pu.func b ki fu s).1 x/\(bl x.cells).Nodup/\
    Rd w' p b (Pu.func b ki fu s).2/\w.grownBy w' (some p):=by
 have hp:=h.lt
 have F0:=FS.start h
 clear h
 go_enter Tryz.func77,Tryz.ntmps77
 go_wp2_with fail
 refine(list_any p b s 4 ki _ F0.rd hs).mono ?_
 rintro e w1 ⟨v,rfl,hown1,hrd,hg⟩
 have F1:=F0.call hp hrd hg
 clear F0 hrd hg
 obtain⟨ao1,cap1,rfl⟩:=owns_shape hown1
 have hl1:=list_len b 4 ki s
 generalize hq:Pu.list b 4 ki s=q at *
 have H1:Hid _:=hq
 clear hq
 obtain⟨l1,s1⟩:=q
 simp only[World.size_alloc]at *
 have c0:=F1.f.c0
 have f0:=F1.f.fz 0
 have F1':=F1.set0 hp (.slice ao1 l1.length cap1)
 have hown1':=owns_set_lt hown1 (q:=w.heap.size+1) (by omega) 0 (.slice ao1 l1.length cap1)
 have r1:Hid _:=owns_bl hown1
 have hw1:=F1.f.lt
 clear F1 hown1
 go_wp2_with fail
 clear c0 f0
 refine(list_any p b s1 3 ki _ F1'.rd hs).mono ?_
 rintro e w2 ⟨v,rfl,hown2,hrd,hg⟩
 have F2:=F1'.call hp hrd hg
 have hown1:=owns_grown hown1' hg (by omega)
 have z1:w1.heap.size<=w2.heap.size:=by have:=hg.size;simpa[World.setCell]using this
 clear F1' hrd hg hown1'
 obtain⟨ao2,cap2,rfl⟩:=owns_shape hown2
 generalize hq:Pu.list b 3 ki s1=q at *
 have H2:Hid _:=hq
 clear hq
 obtain⟨l2,s2⟩:=q
 simp only at *
 rw[show(w1.setCell ⟨w.heap.size+1,0,none⟩ (.slice ao1 l1.length cap1)).heap.size=w1.heap.size from by simp[World.setCell]]at hown2
 have c0:=F2.f.c1
 have f0:=F2.f.fz 1
 have F2':=F2.set1 hp (.slice ao2 l2.length cap2)
 have hown2':=owns_set_lt hown2 (q:=w.heap.size+1) (by omega) 1 (.slice ao2 l2.length cap2)
 have hown1':=owns_set_lt hown1 (q:=w.heap.size+1) (by omega) 1 (.slice ao2 l2.length cap2)
 have r2:Hid _:=owns_bl hown2
 clear F2 hown1 hown2
 go_wp2_with fail
 clear c0 f0
 refine(list_any p b s2 4 ki _ F2'.rd hs).mono ?_
 rintro e w3 ⟨v,rfl,hown3,hrd,hg⟩
 have F3:=F2'.call hp hrd hg
 have hown1:=owns_grown hown1' hg (by omega)
 have hown2:=owns_grown hown2' hg (by omega)
 have z2:w2.heap.size<=w3.heap.size:=by have:=hg.size;simpa[World.setCell]using this
 clear F2' hrd hg hown1' hown2'
 obtain⟨ao3,cap3,rfl⟩:=owns_shape hown3
 have hl3:=list_len b 4 ki s2
 generalize hq:Pu.list b 4 ki s2=q at *
 have H3:Hid _:=hq
 clear hq
 obtain⟨l3,s3⟩:=q
 simp only at *
 rw[show(w2.setCell ⟨w.heap.size+1,1,none⟩ (.slice ao2 l2.length cap2)).heap.size=w2.heap.size from by simp[World.setCell]]at hown3
 have c0:=F3.f.c0
 have c2:=F3.f.c2
 have f0:=F3.f.fz 2
 have F3':=(F3.set2 hp (.slice ao3 l3.length cap3)).alloc (.cells #[.int .i64 ki,.int .i64 fu,.int .i64 ((l1.length:Int)+(l3.length:Int)),.int .i64 0] 214)
 have hown3':=(owns_set_lt hown3 (q:=w.heap.size+1) (by omega) 2 (.slice ao3 l3.length cap3)).alloc (.cells #[.int .i64 ki,.int .i64 fu,.int .i64 ((l1.length:Int)+(l3.length:Int)),.int .i64 0] 214)
 have hown2':=(owns_set_lt hown2 (q:=w.heap.size+1) (by omega) 2 (.slice ao3 l3.length cap3)).alloc (.cells #[.int .i64 ki,.int .i64 fu,.int .i64 ((l1.length:Int)+(l3.length:Int)),.int .i64 0] 214)
 have hown1':=(owns_set_lt hown1 (q:=w.heap.size+1) (by omega) 2 (.slice ao3 l3.length cap3)).alloc (.cells #[.int .i64 ki,.int .i64 fu,.int .i64 ((l1.length:Int)+(l3.length:Int)),.int .i64 0] 214)
 have r3:Hid _:=owns_bl hown3
 have hbx:Bx ((w3.setCell ⟨w.heap.size+1,2,none⟩ (.slice ao3 l3.length cap3)).alloc (.cells #[.int .i64 ki,.int .i64 fu,.int .i64 ((l1.length:Int)+(l3.length:Int)),.int .i64 0] 214)) w3.heap.size ki fu ((l1.length:Int)+(l3.length:Int)) 0:=by
  have:=heap_alloc_new (w3.setCell ⟨w.heap.size+1,2,none⟩ (.slice ao3 l3.length cap3)) (.cells #[.int .i64 ki,.int .i64 fu,.int .i64 ((l1.length:Int)+(l3.length:Int)),.int .i64 0] 214)
  simpa[Bx,World.setCell]using this
 clear F3 hown1 hown2 hown3
 go_wp2_with fail
 clear c0 c2 f0
 refine(number_any p b s3 1 100 _ F3'.rd hs).mono ?_
 rintro e w4 ⟨rfl,hrd,hg,hsz⟩
 have F4':=F3'.call hp hrd hg
 have hown1:=owns_grown hown1' hg (by omega)
 have hown2:=owns_grown hown2' hg (by omega)
 have hown3:=owns_grown hown3' hg (by omega)
 have hbx4:=hbx.kept hg (by simp;omega)
 have hsz4:w3.heap.size<w4.heap.size:=by
  have h':w4.heap.size=w3.heap.size+1:=by simpa[World.setCell]using hsz
  omega
 clear F3' hrd hg hown1' hown2' hown3' hbx hsz
 have hn0:=Pu.number_rng b 1 100 s3
 generalize hq:Pu.number b 1 100 s3=q at *
 have H4:Hid _:=hq
 clear hq
 obtain⟨nn,s4⟩:=q
 simp only at *
 obtain⟨n,rfl⟩:=Int.eq_ofNat_of_zero_le hn0.1
 have hn:n<=255:=by omega
 clear hn0
 have c3:=hbx4.c3
 have f3:=hbx4.fz 3
 have hbx5:=hbx4.set3 n
 have d0:=hbx5.c0
 have d1:=hbx5.c1
 have d2:=hbx5.c2
 have d3:=hbx5.c3
 have F5:=F4'.other hp 3 (.int .i64 n) (q:=w3.heap.size) (by omega)
 have hown1':=owns_set hown1 (q:=w3.heap.size) (by intro e;have:=(r1.out w3.heap.size (by simp[e])).2;omega) 3 (.int .i64 n)
 have hown2':=owns_set hown2 (q:=w3.heap.size) (by intro e;have:=(r2.out w3.heap.size (by simp[e])).2;omega) 3 (.int .i64 n)
 have hown3':=owns_set hown3 (q:=w3.heap.size) (by intro e;have:=(r3.out w3.heap.size (by simp[e])).2;omega) 3 (.int .i64 n)
 clear F4' hbx4 hbx5 hown1 hown2 hown3
 go_wp2_with fail
 clear c3 f3 d0 d1 d2 d3
 refine(code_any p b s4 ki fu _ n _ F5.rd hs hki hfu (by omega) (by omega)).mono ?_
 rintro e w6 ⟨v,rfl,hown4,hrd,hg⟩
 have F6:=F5.call hp hrd hg
 have hown1:=owns_grown hown1' hg (by omega)
 have hown2:=owns_grown hown2' hg (by omega)
 have hown3:=owns_grown hown3' hg (by omega)
 clear F5 hrd hg hown1' hown2' hown3'
 obtain⟨ao4,cap4,rfl⟩:=owns_shape hown4
 have hcl:=Pu.code_len b ki fu (↑l1.length + ↑l3.length) n s4 n
 generalize hq:Pu.code b ki fu (↑l1.length + ↑l3.length) n s4 n=q at *
 have H5:Hid _:=hq
 clear hq
 obtain⟨l4,s5⟩:=q
 simp only at *
 rw[show(w4.setCell ⟨w3.heap.size,3,none⟩ (.int .i64 n)).heap.size=w4.heap.size from by simp[World.setCell]]at hown4
 have r4:Hid _:=owns_bl hown4
 have HN:Hid _:=hcl
 clear hcl
 have c3:=F6.f.c3
 have f3:=F6.f.fz 3
 have F7:=F6.set3 hp (.slice ao4 n cap4)
 have hown1':=owns_set_lt hown1 (q:=w.heap.size+1) (by omega) 3 (.slice ao4 n cap4)
 have hown2':=owns_set_lt hown2 (q:=w.heap.size+1) (by omega) 3 (.slice ao4 n cap4)
 have hown3':=owns_set_lt hown3 (q:=w.heap.size+1) (by omega) 3 (.slice ao4 n cap4)
 have hown4':=owns_set_lt hown4 (q:=w.heap.size+1) (by omega) 3 (.slice ao4 n cap4)
 clear F6 hown1 hown2 hown3 hown4
 have d0:=F7.f.c0
 have d1:=F7.f.c1
 have d2:=F7.f.c2
 have d3:=F7.f.c3
 have e0:=F7.res.fz 0
 have e1:=F7.res.fz 1
 have e2:=F7.res.fz 2
 have e3:=F7.res.fz 3
 have g0:=F7.res.c0
 have g1:=F7.res.c1
 have g2:=F7.res.c2
 have g3:=F7.res.c3
 go_wp2
 clear d0 d1 d2 d3 e0 e1 e2 e3 g0 g1 g2 g3 c3 f3
 have R:=(((F7.res.set0 (.slice ao1 l1.length cap1)).set1 (.slice ao2 l2.length cap2)).set2 (.slice ao3 l3.length cap3)).set3 (.slice ao4 n cap4)
 have hP:Pu.func b ki fu s=(⟨l1,l2,l3,l4⟩,s5):=by simp only[Pu.func,H1.out,H2.out,H3.out,H4.out,Int.toNat_natCast,H5.out]
 have q0:=R.c0
 have q1:=R.c1
 have q2:=R.c2
 have q3:=R.c3
 refine bodyPost_ret (v:=.agg #[.slice ao1 l1.length cap1,.slice ao2 l2.length cap2,.slice ao3 l3.length cap3,.slice ao4 n cap4]) (by simp[results,Tryz.results77,go_sem,q0,q1,q2,q3]) rfl ⟨⟨.slice ao1 l1.length cap1,.slice ao2 l2.length cap2,.slice ao3 l3.length cap3,.slice ao4 n cap4⟩,rfl,?_,?_,?_,?_⟩
 ·rw[hP]
  have k1:=owns_set_lt (owns_set_lt (owns_set_lt (owns_set_lt hown1' (q:=w.heap.size) (by omega) 0 (.slice ao1 l1.length cap1)) (q:=w.heap.size) (by omega) 1 (.slice ao2 l2.length cap2)) (q:=w.heap.size) (by omega) 2 (.slice ao3 l3.length cap3)) (q:=w.heap.size) (by omega) 3 (.slice ao4 n cap4)
  have k2:=owns_set_lt (owns_set_lt (owns_set_lt (owns_set_lt hown2' (q:=w.heap.size) (by omega) 0 (.slice ao1 l1.length cap1)) (q:=w.heap.size) (by omega) 1 (.slice ao2 l2.length cap2)) (q:=w.heap.size) (by omega) 2 (.slice ao3 l3.length cap3)) (q:=w.heap.size) (by omega) 3 (.slice ao4 n cap4)
  have k3:=owns_set_lt (owns_set_lt (owns_set_lt (owns_set_lt hown3' (q:=w.heap.size) (by omega) 0 (.slice ao1 l1.length cap1)) (q:=w.heap.size) (by omega) 1 (.slice ao2 l2.length cap2)) (q:=w.heap.size) (by omega) 2 (.slice ao3 l3.length cap3)) (q:=w.heap.size) (by omega) 3 (.slice ao4 n cap4)
  have k4:=owns_set_lt (owns_set_lt (owns_set_lt (owns_set_lt hown4' (q:=w.heap.size) (by omega) 0 (.slice ao1 l1.length cap1)) (q:=w.heap.size) (by omega) 1 (.slice ao2 l2.length cap2)) (q:=w.heap.size) (by omega) 2 (.slice ao3 l3.length cap3)) (q:=w.heap.size) (by omega) 3 (.slice ao4 n cap4)
  exact⟨owns_base k1 (by omega),owns_base k2 (by omega),owns_base k3 (by omega),by rw[show(Pu.Fn.code ⟨l1,l2,l3,l4⟩).length=n from HN.out];exact owns_base k4 (by omega)⟩
 ·exact nodup4 z1 (by omega) r1.out r2.out (b4:=w4.heap.size) (fun k hk=>by have:=r3.out k hk;omega) r4.out
 ·rw[hP]
  exact(((F7.rd.set (by omega)).set (by omega)).set (by omega)).set (by omega)
 ·exact grown_new (grown_new (grown_new (grown_new F7.g (Nat.le_refl _) 0 _) (Nat.le_refl _) 1 _) (Nat.le_refl _) 2 _) (Nat.le_refl _) 3 _
theorem Tryz.info62:(Tryz.prog.info? 62).map (fun i=>(i.zero,i.size,i.bytes))=some (some (.agg #[.slice none 0 0,.slice none 0 0,.slice none 0 0,.slice none 0 0]),4,96):=by kernel_rfl
theorem owns_other{w w':World}{B e size n B2 e2 size2 n2:Nat}{v v2:Value}{xs ys:List Value}(h:w.ownsRow B e size v n xs)(h2:w.ownsRow B2 e2 size2 v2 n2 ys)(hg:w.grownBy w' v2.ownBlock)(hne:e≠e2):w'.ownsRow B e size v n xs:=by
 refine h.kept hg ?_
 rcases h.2 with ⟨rfl,_⟩|⟨g,cap,cur,rfl,_,hh,_⟩
 ·exact .inl rfl
 ·rcases h2.2 with ⟨rfl,_⟩|⟨g2,cap2,cur2,rfl,_,hh2,_⟩
  ·exact .inr (by simp[Value.ownBlock])
  ·refine .inr ?_
   intro e'
   simp only[Value.ownBlock,Option.some.injEq]at e'
   subst e'
   rw[hh]at hh2
   simp at hh2
   exact hne hh2.2
theorem FnAt.other{w w':World}{B B2 n2:Nat}{f:Pu.Fn}{x:FV}{v2:Value}{ys:List Value}(h:FnAt w B f x)(h2:w.ownsRow B2 62 4 v2 n2 ys)(hg:w.grownBy w' v2.ownBlock):FnAt w' B f x:=
 ⟨owns_other h.p h2 hg (by decide),owns_other h.r h2 hg (by decide),owns_other h.l h2 hg (by decide),owns_other h.c h2 hg (by decide)⟩
theorem FnAt.none{w w':World}{B:Nat}{f:Pu.Fn}{x:FV}(h:FnAt w B f x)(hg:w.grownBy w' none):FnAt w' B f x:=
 ⟨h.p.kept hg (by cases x.p.ownBlock<;>simp),h.r.kept hg (by cases x.r.ownBlock<;>simp),h.l.kept hg (by cases x.l.ownBlock<;>simp),h.c.kept hg (by cases x.c.ownBlock<;>simp)⟩
theorem FnAt.base{w:World}{B B':Nat}{f:Pu.Fn}{x:FV}(h:FnAt w B f x)(hB:B'<=B):FnAt w B' f x:=
 ⟨owns_base h.p hB,owns_base h.r hB,owns_base h.l hB,owns_base h.c hB⟩
theorem FnAt.shape{w:World}{B:Nat}{f:Pu.Fn}{x:FV}(h:FnAt w B f x):∃a1 c1 a2 c2 a3 c3 a4 c4,x=⟨.slice a1 f.params.length c1,.slice a2 f.results.length c2,.slice a3 f.locals.length c3,.slice a4 f.code.length c4⟩:=by
 obtain⟨a1,c1,h1⟩:=owns_shape h.p
 obtain⟨a2,c2,h2⟩:=owns_shape h.r
 obtain⟨a3,c3,h3⟩:=owns_shape h.l
 obtain⟨a4,c4,h4⟩:=owns_shape h.c
 obtain⟨xp,xr,xl,xc⟩:=x
 simp only at h1 h2 h3 h4
 exact⟨a1,c1,a2,c2,a3,c3,a4,c4,by rw[h1,h2,h3,h4]⟩
theorem FnAt.bl{w:World}{B:Nat}{f:Pu.Fn}{x:FV}(h:FnAt w B f x):∀k∈bl x.cells,B<=k/\k<w.heap.size:=by
 intro k hk
 simp only[FV.cells,bl_cons,bl_nil,List.append_nil,List.mem_append]at hk
 rcases hk with hk|hk|hk|hk
 ·exact owns_bl h.p k hk
 ·exact owns_bl h.r k hk
 ·exact owns_bl h.l k hk
 ·exact owns_bl h.c k hk
def FnsAt(w:World)(B:Nat):List Pu.Fn->List FV->Prop
 | [],[]=>True
 | f::fs,x::xs=>FnAt w B f x/\FnsAt w B fs xs
 | _,_=>False
theorem FnsAt.imp{w w':World}{B:Nat}(hi:∀f x,FnAt w B f x->FnAt w' B f x):∀{fs:List Pu.Fn} {xs:List FV},FnsAt w B fs xs->FnsAt w' B fs xs
 | [],[],_=>trivial
 | _::_,_::_,h=>⟨hi _ _ h.1,FnsAt.imp hi h.2⟩
 | [],_::_,h=>h.elim
 | _::_,[],h=>h.elim
theorem FnsAt.lower{w:World}{B B':Nat}(hB:B'<=B):∀{fs:List Pu.Fn} {xs:List FV},FnsAt w B fs xs->FnsAt w B' fs xs
 | [],[],_=>trivial
 | _::_,_::_,h=>⟨h.1.base hB,FnsAt.lower hB h.2⟩
 | [],_::_,h=>h.elim
 | _::_,[],h=>h.elim
theorem FnsAt.snoc{w:World}{B:Nat}{f:Pu.Fn}{x:FV}(hf:FnAt w B f x):∀{fs:List Pu.Fn} {xs:List FV},FnsAt w B fs xs->FnsAt w B (fs++[f]) (xs++[x])
 | [],[],_=>⟨hf,trivial⟩
 | _::_,_::_,h=>⟨h.1,FnsAt.snoc hf h.2⟩
 | [],_::_,h=>h.elim
 | _::_,[],h=>h.elim
theorem FnsAt.len{w:World}{B:Nat}:∀{fs:List Pu.Fn} {xs:List FV},FnsAt w B fs xs->fs.length=xs.length
 | [],[],_=>rfl
 | _::_,_::_,h=>by simp[FnsAt.len h.2]
 | [],_::_,h=>h.elim
 | _::_,[],h=>h.elim
def fc(xs:List FV):List Value:=xs.flatMap FV.cells
theorem fc_snoc(xs:List FV)(x:FV):fc (xs++[x])=fc xs++[x.p,x.r,x.l,x.c]:=by simp[fc,FV.cells]
theorem fc_cons(xs:List FV)(x:FV):fc (x::xs)=x.cells++fc xs:=by simp[fc]
theorem FnsAt.bl{w:World}{B:Nat}:∀{fs:List Pu.Fn} {xs:List FV},FnsAt w B fs xs->∀k∈bl (fc xs),B<=k/\k<w.heap.size
 | [],[],_=>by simp[fc,YtjamgmbdilkbcaaGreat.bl]
 | _::_,x::xs,h=>by
  intro k hk
  rw[fc_cons,bl_append,List.mem_append]at hk
  rcases hk with hk|hk
  ·exact h.1.bl k hk
  ·exact FnsAt.bl h.2 k hk
 | [],_::_,h=>h.elim
 | _::_,[],h=>h.elim
theorem cell_four(w:World)(x y z u':Value)(t:TypeId):∀j u,[x,y,z,u'][j]?=some u->(w.alloc (.cells #[x,y,z,u'] t)).cell? ((⟨w.heap.size,0,none⟩:Addr).add j)=some u:=by
 intro j u hj
 have hadd:(⟨w.heap.size,0,none⟩:Addr).add j=⟨w.heap.size,j,none⟩:=by unfold Addr.add;split<;>simp_all
 rw[hadd]
 have hh:(w.alloc (.cells #[x,y,z,u'] t)).heap[w.heap.size]?=some (.cells #[x,y,z,u'] t):=heap_alloc_new w _
 rw[cell_of_row _ w.heap.size j #[x,y,z,u'] t (0,0) hh]
 simpa using hj
def F2(w:World)(q:Nat)(t:TypeId)(x0 x1:Value):Prop:=w.heap[q]?=some (.cells #[x0,x1] t (0,0))
section
variable {w w':World} {q:Nat} {t:TypeId} {x0 x1:Value}
theorem F2.lt(h:F2 w q t x0 x1):q<w.heap.size:=(Array.getElem?_eq_some_iff.1 h).1
theorem F2.c0(h:F2 w q t x0 x1):w.cell? ⟨q,0,none⟩=some x0:=by unfold F2 at h;simp[World.cell?,h]
theorem F2.c1(h:F2 w q t x0 x1):w.cell? ⟨q,1,none⟩=some x1:=by unfold F2 at h;simp[World.cell?,h]
theorem F2.fz(h:F2 w q t x0 x1)(o:Nat):w.frozen? ⟨q,o,none⟩=false:=by unfold F2 at h;simp[World.frozen?,h]
theorem F2.kept{r:Option Nat}(h:F2 w q t x0 x1)(hg:w.grownBy w' r)(hr:some q≠r):F2 w' q t x0 x1:=(hg.block q h.lt hr).trans h
theorem F2.set0(h:F2 w q t x0 x1)(v:Value):F2 (w.setCell ⟨q,0,none⟩ v) q t v x1:=by unfold F2 at h ⊢;simp[World.setCell,Array.getElem?_modify,h]
theorem F2.set1(h:F2 w q t x0 x1)(v:Value):F2 (w.setCell ⟨q,1,none⟩ v) q t x0 v:=by unfold F2 at h ⊢;simp[World.setCell,Array.getElem?_modify,h]
end
structure MdAt (w:World) (B:Nat) (m:Pu.Md) (k v:Value) (xs:List FV):Prop where
 hk:w.ownsRow B 3 1 k m.kinds.length (m.kinds.map (Value.int .i64))
 hv:w.ownsRow B 62 4 v m.funcs.length (fc xs)
 hf:FnsAt w B m.funcs xs
 nd:(bl (k::fc xs)).Nodup
theorem nodup_step{wr w2:World}{B:Nat}{kv:Value}{kl:Nat}{ks:List Value}{fs:List Pu.Fn}{xs:List FV}{f:Pu.Fn}{x:FV}(hk:wr.ownsRow B 3 1 kv kl ks)(hf:FnsAt wr B fs xs)(nd:(bl (kv::fc xs)).Nodup)(hx:FnAt w2 wr.heap.size f x)(ndx:(bl x.cells).Nodup):(bl (kv::fc (xs++[x]))).Nodup:=by
 have e:bl (kv::fc (xs++[x]))=bl (kv::fc xs)++bl x.cells:=by
  rw[fc_snoc,<-List.cons_append,bl_append];rfl
 rw[e]
 refine List.nodup_append.2 ⟨nd,ndx,?_⟩
 intro a ha c hc
 have h1:=hx.bl c hc
 rw[bl_cons,List.mem_append]at ha
 rcases ha with ha|ha
 ·have:=owns_bl hk a ha;omega
 ·have:=hf.bl a ha;omega
theorem module_any(p:Nat)(b:ByteArray)(w:World)(h:Rd w p b (0,false))(hs:b.size<=maxLen):
  Calls Tryz.prog 65 #[.pointer (some ⟨p,0,none⟩)] w fun e w'=>
   ∃(k v:Value) (xs:List FV),e=.returned (.agg #[k,v])/\MdAt w' w.heap.size (Pu.module b).1 k v xs/\
    Rd w' p b (Pu.module b).2/\w.grownBy w' (some p):=by
 obtain⟨i0,hi0,hz0,hz1,hz2⟩:=info_parts Tryz.info62
 have hp:=h.lt
 have hr0:=h.kept (World.grownBy_alloc w (.cells #[.slice none 0 0,.slice none 0 0] 38) none) (by simp)
 have hg0:=World.grownBy_alloc w (.cells #[.slice none 0 0,.slice none 0 0] 38) (some p)
 have hres:F2 (w.alloc (.cells #[.slice none 0 0,.slice none 0 0] 38)) w.heap.size 38 (.slice none 0 0) (.slice none 0 0):=heap_alloc_new w _
 clear h
 go_enter Tryz.func65,Tryz.ntmps65
 go_wp2_with fail
 refine(number_any p b _ 67 67 _ hr0 hs).mono ?_
 rintro e w1 ⟨rfl,hr1,hg,hsz⟩
 have hg1:=grown_trans hg0 hg
 have hres1:=hres.kept hg (by simp;omega)
 clear hr0 hg0 hg hsz hres
 generalize hq:Pu.number b 67 67 (0,false)=q at *
 have H1:Hid _:=hq
 clear hq
 obtain⟨c1,s1⟩:=q
 simp only at *
 go_wp2_with fail
 refine(number_any p b _ 70 70 _ hr1 hs).mono ?_
 rintro e w2 ⟨rfl,hr2,hg,hsz⟩
 have hg2:=grown_trans hg1 hg
 have hres2:=hres1.kept hg (by simp;omega)
 clear hr1 hg1 hg hsz hres1
 generalize hq:Pu.number b 70 70 s1=q at *
 have H2:Hid _:=hq
 clear hq
 obtain⟨c2,s2⟩:=q
 simp only at *
 go_wp2_with fail
 refine(list_any p b _ 6 3 _ hr2 hs).mono ?_
 rintro e w3 ⟨kv,rfl,hk,hr3,hg⟩
 have hg3:=grown_trans hg2 hg
 have hres3:=hres2.kept hg (by simp;omega)
 have hB2:=hres2.lt
 clear hr2 hg2 hg hres2
 have hkl:=list_len b 6 3 s2
 generalize hq:Pu.list b 6 3 s2=q at *
 have H3:Hid _:=hq
 clear hq
 obtain⟨ks,s3⟩:=q
 simp only at *
 obtain⟨ao,cap,rfl⟩:=owns_shape hk
 have hk4:=(owns_base hk (B':=w.heap.size+1) (by omega)).alloc (.cells #[] 62)
 have hr4:=hr3.kept (World.grownBy_alloc w3 (.cells #[] 62) none) (by simp)
 have hg4:=grown_trans hg3 (World.grownBy_alloc w3 (.cells #[] 62) (some p))
 have hres4:=hres3.kept (World.grownBy_alloc w3 (.cells #[] 62) none) (by simp)
 have hv4:=World.ownsRow_made (base:=w.heap.size+1) (e:=62) (size:=4) w3 #[] 0 (by have:=hres3.lt;omega) (by decide) (by simp)
 clear hk hr3 hg3 hres3
 go_wp2_with fail
 refine(number_any p b _ 1 8 _ hr4 hs).mono ?_
 rintro e w5 ⟨rfl,hr5,hg,hsz⟩
 have hg5:=grown_trans hg4 hg
 have hk5:=owns_grown hk4 hg (by omega)
 have hv5:=owns_grown hv4 hg (by omega)
 have hres5:=hres4.kept hg (by simp;omega)
 clear hr4 hg4 hg hsz hres4 hk4 hv4
 have hn0:=Pu.number_rng b 1 8 s3
 generalize hq:Pu.number b 1 8 s3=q at *
 have H4:Hid _:=hq
 clear hq
 obtain⟨nn,s4⟩:=q
 simp only at *
 obtain⟨n,rfl⟩:=Int.eq_ofNat_of_zero_le hn0.1
 have hn:n<=255:=by omega
 clear hn0
 go_wp2
 go_loopw [4,6] (fun v i wr=>∃(k:Nat) (xs:List FV),k<=n/\i=.int .i64 k/\wr.ownsRow (w.heap.size+1) 62 4 v k (fc xs)/\FnsAt wr (w.heap.size+1) (Pu.fns b ks.length n s4 k).1 xs/\
   (bl (Value.slice ao ks.length cap::fc xs)).Nodup/\wr.ownsRow (w.heap.size+1) 3 1 (.slice ao ks.length cap) ks.length (ks.map (Value.int .i64))/\
   Rd wr p b (Pu.fns b ks.length n s4 k).2/\w.grownBy wr (some p)/\F2 wr w.heap.size 38 (.slice none 0 0) (.slice none 0 0)) (fun _ i _=>n-(intOf i).toNat)
 case atStart=>exact⟨0,[],Nat.zero_le _,rfl,hv5,trivial,by cases ao<;>simp[fc,bl,Value.ownBlock],hk5,hr5,hg5,hres5⟩
 case round=>
  obtain⟨k,xs,hkn,rfl,hv,hf,hnd,hks,hrd,hgr,hres⟩:=hrel
  clear hv5 hk5 hr5 hg5 hres5
  by_cases hlt:k<n
  ·go_wp2_with fail
   refine(function_any p b _ _ _ wr hrd hs (by omega) (by omega)).mono ?_
   rintro e w6 ⟨x,rfl,hx,hndx,hrd6,hg⟩
   have HS:Hid (Pu.fns b ks.length n s4 (k+1)=((Pu.fns b ks.length n s4 k).1++[(Pu.func b ks.length n (Pu.fns b ks.length n s4 k).2).1],(Pu.func b ks.length n (Pu.fns b ks.length n s4 k).2).2)):=rfl
   have hgr6:=grown_trans hgr hg
   have hnd6:Hid _:=nodup_step hks hf hnd hx hndx
   have hv6:=owns_grown hv hg (by omega)
   have hks6:=owns_grown hks hg (by omega)
   have hf6:=hf.imp (fun f y h=>h.kept hg (by omega))
   have hres6:=hres.kept hg (by simp;omega)
   have hx6:=hx.base (B':=w.heap.size+1) (by have:=hres.lt;omega)
   clear hv hf hnd hks hrd hgr hres hx hndx hg
   generalize Pu.func b ks.length n (Pu.fns b ks.length n s4 k).2=q at *
   obtain⟨f,s6⟩:=q
   simp only at *
   obtain⟨a1,c1',a2,c2',a3,c3',a4,c4',rfl⟩:=hx6.shape
   generalize ho1:Obj.cells #[.slice a1 f.params.length c1',.slice a2 f.results.length c2',.slice a3 f.locals.length c3',.slice a4 f.code.length c4'] 62=o1
   have hv7:=hv6.alloc o1
   have hks7:=hks6.alloc o1
   have hf7:=hf6.imp (fun f y h=>h.none (World.grownBy_alloc w6 o1 none))
   have hres7:=hres6.kept (World.grownBy_alloc w6 o1 none) (by simp)
   have hx7:=hx6.none (World.grownBy_alloc w6 o1 none)
   have hrd7:=hrd6.kept (World.grownBy_alloc w6 o1 none) (by simp)
   have hgr7:=grown_trans hgr6 (World.grownBy_alloc w6 o1 (some p))
   subst ho1
   clear hv6 hks6 hf6 hres6 hx6 hrd6 hgr6
   go_wp2_with (at_builtin;refine wpList_append_own _ rfl _ _ 36 rfl (w.heap.size+1) 62 i0 (.agg #[.slice none 0 0,.slice none 0 0,.slice none 0 0,.slice none 0 0]) 4 96 Tryz.underlying36 hi0 hz0 hz1 hz2 rfl (by decide) _ _ _ rfl (hv7.alloc _) ⟨w6.heap.size+1,0,none⟩ 1 1 [.slice a1 f.params.length c1',.slice a2 f.results.length c2',.slice a3 f.locals.length c3',.slice a4 f.code.length c4'] rfl rfl ?c1 ?c2 ?c3 ?c4 ?c5 ?_)
   case c1=>
    have:=cell_four (w6.alloc (.cells #[.slice a1 f.params.length c1',.slice a2 f.results.length c2',.slice a3 f.locals.length c3',.slice a4 f.code.length c4'] 62)) (.slice a1 f.params.length c1') (.slice a2 f.results.length c2') (.slice a3 f.locals.length c3') (.slice a4 f.code.length c4') 62
    simpa using this
   case c2=>intro u hu;simp at hu;rcases hu with rfl|rfl|rfl|rfl<;>rfl
   case c3=>unfold maxLen;omega
   case c4=>omega
   case c5=>have:=hgr7.size;have:=hres7.lt;simp at this ⊢;omega
   intro v' w8 hv8 hgrow _
   have hgr8:w.grownBy w8 (some p):=grown_append (B:=w.heap.size) rfl hgr7 (owns_base (hv7.alloc _) (by omega)) (World.grownBy_alloc _ _ (some p)) hgrow
   have hrd8:Rd w8 p b s6:=(hrd7.kept (World.grownBy_alloc _ _ none) (by simp)).kept hgrow (fun e=>by have:=(hv7.lt p e.symm).1;omega)
   have hres8:=(hres7.kept (World.grownBy_alloc _ _ none) (by simp)).kept hgrow (fun e=>by have:=(hv7.lt _ e.symm).1;omega)
   have hks8:=owns_other (hks7.alloc _) (hv7.alloc _) hgrow (by decide)
   have hf8:=(hf7.imp (fun f y h=>h.none (World.grownBy_alloc _ _ none))).imp (fun f y h=>h.other (hv7.alloc _) hgrow)
   have hx8:=(hx7.none (World.grownBy_alloc _ _ none)).other (hv7.alloc _) hgrow
   clear hgrow hv7 hks7 hf7 hres7 hx7 hrd7 hgr7
   go_wp2
   go_roundw
   case rel=>
    refine⟨k+1,xs++[⟨.slice a1 f.params.length c1',.slice a2 f.results.length c2',.slice a3 f.locals.length c3',.slice a4 f.code.length c4'⟩],hlt,by go_num,?_,?_,?_,hks8,?_,hgr8,hres8⟩
    ·rw[fc_snoc];exact hv8
    ·rw[HS.out];exact hf8.snoc hx8
    ·exact hnd6.out
    ·rw[HS.out];exact hrd8
   case measure=>simp[intOf];omega
  ·obtain⟨ao4,cap4,rfl⟩:=owns_shape hv
   have g0:=hres.c0
   have g1:=hres.c1
   have e0:=hres.fz 0
   have e1:=hres.fz 1
   go_wp2
   clear g0 g1 e0 e1
   have hkn':k=n:=by omega
   subst hkn'
   have R:=(hres.set0 (.slice ao ks.length cap)).set1 (.slice ao4 k cap4)
   have q0:=R.c0
   have q1:=R.c1
   have hP:Pu.module b=(⟨ks,(Pu.fns b ks.length k s4 k).1⟩,(Pu.fns b ks.length k s4 k).2):=by simp only[Pu.module,H1.out,H2.out,H3.out,H4.out,Int.toNat_natCast]
   refine bodyPost_ret (v:=.agg #[.slice ao ks.length cap,.slice ao4 k cap4]) (by simp[results,Tryz.results65,go_sem,q0,q1]) rfl ⟨_,_,xs,rfl,?_,?_,grown_new (grown_new hgr (Nat.le_refl _) 0 _) (Nat.le_refl _) 1 _⟩
   ·rw[hP]
    refine⟨owns_base (owns_set_lt (owns_set_lt hks (by omega) 0 _) (by omega) 1 _) (by omega),?_,?_,hnd⟩
    ·rw[show(Pu.Md.funcs ⟨ks,(Pu.fns b ks.length k s4 k).1⟩).length=k from Pu.fns_len _ _ _ _ _]
     exact owns_base (owns_set_lt (owns_set_lt hv (by omega) 0 _) (by omega) 1 _) (by omega)
    ·exact FnsAt.lower (by omega) ((hf.imp (fun f y h=>h.kept (grown_set _ _ _ _) (by omega))).imp (fun f y h=>h.kept (grown_set _ _ _ _) (by omega)))
   ·rw[hP]
    exact(hrd.set (by omega)).set (by omega)
end Go.Proofs.YtjamgmbdilkbcaaGreat
