import Derived.Test.YtjamgmbdilkbcaaGreatLotAll20
namespace Go.Proofs.YtjamgmbdilkbcaaGreat
open Go.RowKit
def encP(f:Pu.Fn)(x:Nat × Fl.S):Pr:=⟨x.1,str x.2.stk,bs (spots (Fl.places f) x.2.full)⟩
def pc(x:Pr):List Value:=[.int .i64 x.at_,.string x.s,.string x.p]
def dc(l:List Pr):List Value:=l.flatMap pc
theorem dc_len(l:List Pr):(dc l).length=l.length*3:=by
 induction l with
 | nil=>rfl
 | cons a l ih=>simp only[dc,List.flatMap_cons,List.length_append,pc,List.length_cons,List.length_nil]at ih ⊢;omega
theorem dc_snoc(l:List Pr)(x:Pr):dc (l++[x])=dc l++pc x:=by simp[dc]
theorem dc_get:∀(l:List Pr) (j:Nat),j<l.length->(dc l)[j*3]?=some (.int .i64 (l.getD j prD).at_)/\(dc l)[j*3+1]?=some (.string (l.getD j prD).s)/\(dc l)[j*3+2]?=some (.string (l.getD j prD).p)
 | [],j,h=>by simp at h
 | x::l,0,_=>⟨rfl,rfl,rfl⟩
 | x::l,j+1,h=>by
  have ih:=dc_get l j (by simpa using h)
  have e:dc (x::l)=pc x++dc l:=by simp[dc]
  have hp:(pc x).length=3:=rfl
  rw[e,List.getElem?_append_right (by rw[hp];omega),List.getElem?_append_right (by rw[hp];omega),List.getElem?_append_right (by rw[hp];omega),hp,show(j+1)*3-3=j*3 from by omega,show(j+1)*3+1-3=j*3+1 from by omega,show(j+1)*3+2-3=j*3+2 from by omega,List.getD_cons_succ]
  exact ih
theorem owns_pairs{w:World}{B:Nat}{v:Value}{l:List Pr}(h:w.ownsRow B 158 3 v l.length (dc l)):PairsR w w.heap.size v l:=by
 rcases h.2 with ⟨rfl,h0⟩|⟨g,cap,cur,rfl,hB,hg,hnc,hcm,hcs,htake⟩
 ·have hl:l=[]:=List.eq_nil_of_length_eq_zero (by simpa using h0)
  subst hl
  exact⟨none,0,0,0,rfl,fun h=>absurd h (by simp),fun j hj=>absurd hj (by simp)⟩
 ·refine⟨_,cap,g,0,rfl,fun _=>⟨rfl,(Array.getElem?_eq_some_iff.1 hg).1⟩,fun j hj=>?_⟩
  have hc:∀i,i<l.length*3->w.cell? ⟨g,i,none⟩=(dc l)[i]?:=fun i hi=>by
   unfold World.cell?
   simp only[hg]
   rw[<-htake,List.getElem?_take,if_pos hi]
   simp
  obtain⟨e0,e1,e2⟩:=dc_get l j hj
  refine⟨?_,?_,?_⟩
  ·rw[Nat.zero_add,hc _ (by omega),e0]
  ·rw[Nat.zero_add,hc _ (by omega),e1]
  ·rw[Nat.zero_add,hc _ (by omega),e2]
theorem spots_init(f:Pu.Fn)(hp:(Fl.places f).length<=8):spots (Fl.places f) (Fl.init f).full=f.params.map lt++List.replicate f.locals.length 45:=by
 unfold spots Fl.init Fl.places
 unfold Fl.places at hp
 rw[List.length_append]at hp
 simp only
 rw[List.zipWith_append (by simp)]
 congr 1
 ·generalize f.params=l
  induction l with
  | nil=>rfl
  | cons a l ih=>simp only[List.length_cons,List.replicate_succ,List.zipWith_cons_cons,List.map_cons,ih];rfl
 ·have h8:f.locals.length<=8-f.params.length:=by omega
  generalize 8-f.params.length=n at h8
  generalize f.locals=l at h8
  clear hp
  induction l generalizing n with
  | nil=>simp
  | cons a l ih=>
   cases n with
   | zero=>simp at h8
   | succ n=>simp only[List.replicate_succ,List.zipWith_cons_cons,List.length_cons];rw[ih n (by simpa using h8)];rfl
def RSndOut(w w':World)(m:Pu.Md)(f:Pu.Fn)(e:Ending):Prop:=∃b,e=.returned (.bool b)/\(b=true ↔ Fl.Sound m f)/\Below w.heap.size w w'
structure MF (w wr:World) (mk mv:Value) (x:FV):Prop where
 m:F2 wr w.heap.size 38 mk mv
 f:F4 wr (w.heap.size+1) 62 x.p x.r x.l x.c
 bl:Below w.heap.size w wr
 sz:w.heap.size+2<=wr.heap.size
theorem MF.below{w wr w':World}{mk mv:Value}{x:FV}(h:MF w wr mk mv x){B:Nat}(hb:Below B wr w')(hB:w.heap.size+2<=B):MF w w' mk mv x:=
 ⟨(hb.block _ (by omega)).trans h.m,(hb.block _ (by omega)).trans h.f,h.bl.trans (hb.mono (by omega)),Nat.le_trans h.sz hb.size⟩
theorem ints_block{w w':World}{B B':Nat}{v:Value}{l:List Int}(h:IntsR w B v l)(hB:B<=B')(hb:0<l.length->∀k,v.ownBlock=some k->w'.heap[k]?=w.heap[k]?):IntsR w' B' v l:=by
 obtain⟨ao,cap,b,off,rfl,h1,h2⟩:=h
 refine⟨ao,cap,b,off,rfl,fun hl=>⟨(h1 hl).1,Nat.lt_of_lt_of_le (h1 hl).2 hB⟩,fun j hj=>?_⟩
 have hl:0<l.length:=by omega
 rw[World.cell?_of_block (w:=w) (hb hl b (by rw[(h1 hl).1];rfl)),h2 j hj]
structure LS (w wr:World) (f:Pu.Fn) (mk mv:Value) (x:FV) (d t:Value) (D T:List (Nat × Fl.S)):Prop where
 mf:MF w wr mk mv x
 od:wr.ownsRow (w.heap.size+2) 158 3 d (D.map (encP f)).length (dc (D.map (encP f)))
 ot:wr.ownsRow (w.heap.size+2) 158 3 t (T.map (encP f)).length (dc (T.map (encP f)))
 ne:∀k,d.ownBlock=some k->t.ownBlock≠some k
section
variable {w wr w':World} {f:Pu.Fn} {mk mv:Value} {x:FV} {d t:Value} {D T:List (Nat × Fl.S)}
theorem LS.below(h:LS w wr f mk mv x d t D T)(hb:Below wr.heap.size wr w'):LS w w' f mk mv x d t D T:=
 ⟨h.mf.below hb h.mf.sz,owns_block h.od fun k hk=>hb.block k (h.od.lt k hk).2,owns_block h.ot fun k hk=>hb.block k (h.ot.lt k hk).2,h.ne⟩
theorem LS.set(h:LS w wr f mk mv x d t D T){q i:Nat}(v:Value)(hq:w.heap.size+2<=q)(hd:d.ownBlock≠some q)(ht:t.ownBlock≠some q):LS w (wr.setCell ⟨q,i,none⟩ v) f mk mv x d t D T:=
 ⟨h.mf.below ((Below.refl (w.heap.size+2) wr).setCell (p:=⟨q,i,none⟩) hq v) (Nat.le_refl _),
  owns_block h.od fun k hk=>Below.heap_setCell _ _ _ _ (by rintro rfl;exact hd hk),
  owns_block h.ot fun k hk=>Below.heap_setCell _ _ _ _ (by rintro rfl;exact ht hk),h.ne⟩
end
structure LJ (w wr:World) (f:Pu.Fn) (mk mv:Value) (x:FV) (d t:Value) (D T:List (Nat × Fl.S)) (q:Nat) (a0:Value) (s1 s2:ByteArray) (lv:Value) (L:List Int):Prop where
 ls:LS w wr f mk mv x d t D T
 bq:F3 wr q 158 a0 (.string s1) (.string s2)
 l:IntsR wr wr.heap.size lv L
 Q:w.heap.size+2<=q
 dq:d.ownBlock≠some q
 tq:t.ownBlock≠some q
 dl:0<L.length->∀k,lv.ownBlock=some k->k<wr.heap.size/\d.ownBlock≠some k/\t.ownBlock≠some k/\k≠q
section
variable {w wr w':World} {f:Pu.Fn} {mk mv:Value} {x:FV} {d t:Value} {D T:List (Nat × Fl.S)} {q:Nat} {a0:Value} {s1 s2:ByteArray} {lv:Value} {L:List Int}
theorem LJ.below(h:LJ w wr f mk mv x d t D T q a0 s1 s2 lv L)(hb:Below wr.heap.size wr w'):LJ w w' f mk mv x d t D T q a0 s1 s2 lv L:=
 ⟨h.ls.below hb,(hb.block _ h.bq.lt).trans h.bq,ints_block h.l hb.size fun hl k hk=>hb.block k (h.dl hl k hk).1,h.Q,h.dq,h.tq,fun hl k hk=>⟨Nat.lt_of_lt_of_le (h.dl hl k hk).1 hb.size,(h.dl hl k hk).2⟩⟩
theorem LJ.set(h:LJ w wr f mk mv x d t D T q a0 s1 s2 lv L)(v:Value):LJ w (wr.setCell ⟨q,0,none⟩ v) f mk mv x d t D T q v s1 s2 lv L:=
 ⟨h.ls.set v h.Q h.dq h.tq,h.bq.set0 v,ints_block h.l (by simp) fun hl k hk=>Below.heap_setCell _ _ _ _ (h.dl hl k hk).2.2.2,h.Q,h.dq,h.tq,fun hl k hk=>⟨by simpa using (h.dl hl k hk).1,(h.dl hl k hk).2⟩⟩
theorem LJ.moreD(h:LJ w wr f mk mv x d t D T q a0 s1 s2 lv L){d':Value}{D':List (Nat × Fl.S)}(hg:wr.grownBy w' d.ownBlock)(ho:w'.ownsRow (w.heap.size+2) 158 3 d' (D'.map (encP f)).length (dc (D'.map (encP f))))(hb:d'.ownBlock=d.ownBlock\/d'.ownBlock=some wr.heap.size):LJ w w' f mk mv x d' t D' T q a0 s1 s2 lv L:=by
 have hlo:∀k,d.ownBlock=some k->w.heap.size+2<=k:=fun k hk=>(h.ls.od.lt k hk).1
 have hbel:Below (w.heap.size+2) wr w':=(Below.refl _ _).grown hg h.ls.mf.sz hlo
 have hnew:∀k,k<wr.heap.size->d.ownBlock≠some k->d'.ownBlock≠some k:=fun k hk hn e=>by
  rcases hb with hb|hb
  ·rw[hb]at e;exact hn e
  ·rw[hb]at e;cases e;omega
 refine⟨⟨h.ls.mf.below hbel (Nat.le_refl _),ho,owns_block h.ls.ot fun k hk=>hg.block k (h.ls.ot.lt k hk).2 (fun e=>h.ls.ne k e.symm hk),fun k hk e=>?_⟩,(hg.block _ h.bq.lt fun e=>h.dq e.symm).trans h.bq,ints_block h.l hg.size fun hl k hk=>hg.block k (h.dl hl k hk).1 fun e=>(h.dl hl k hk).2.1 e.symm,h.Q,hnew q h.bq.lt h.dq,h.tq,fun hl k hk=>⟨Nat.lt_of_lt_of_le (h.dl hl k hk).1 hg.size,hnew k (h.dl hl k hk).1 (h.dl hl k hk).2.1,(h.dl hl k hk).2.2⟩⟩
 exact hnew k (h.ls.ot.lt k e).2 (fun e2=>h.ls.ne k e2 e) hk
theorem LJ.moreT(h:LJ w wr f mk mv x d t D T q a0 s1 s2 lv L){t':Value}{T':List (Nat × Fl.S)}(hg:wr.grownBy w' t.ownBlock)(ho:w'.ownsRow (w.heap.size+2) 158 3 t' (T'.map (encP f)).length (dc (T'.map (encP f))))(hb:t'.ownBlock=t.ownBlock\/t'.ownBlock=some wr.heap.size):LJ w w' f mk mv x d t' D T' q a0 s1 s2 lv L:=by
 have hlo:∀k,t.ownBlock=some k->w.heap.size+2<=k:=fun k hk=>(h.ls.ot.lt k hk).1
 have hbel:Below (w.heap.size+2) wr w':=(Below.refl _ _).grown hg h.ls.mf.sz hlo
 have hnew:∀k,k<wr.heap.size->t.ownBlock≠some k->t'.ownBlock≠some k:=fun k hk hn e=>by
  rcases hb with hb|hb
  ·rw[hb]at e;exact hn e
  ·rw[hb]at e;cases e;omega
 exact⟨⟨h.ls.mf.below hbel (Nat.le_refl _),owns_block h.ls.od fun k hk=>hg.block k (h.ls.od.lt k hk).2 (fun e=>h.ls.ne k hk e.symm),ho,fun k hk=>hnew k (h.ls.od.lt k hk).2 (h.ls.ne k hk)⟩,(hg.block _ h.bq.lt fun e=>h.tq e.symm).trans h.bq,ints_block h.l hg.size fun hl k hk=>hg.block k (h.dl hl k hk).1 fun e=>(h.dl hl k hk).2.2.1 e.symm,h.Q,h.dq,hnew q h.bq.lt h.tq,fun hl k hk=>⟨Nat.lt_of_lt_of_le (h.dl hl k hk).1 hg.size,(h.dl hl k hk).2.1,hnew k (h.dl hl k hk).1 (h.dl hl k hk).2.2.1,(h.dl hl k hk).2.2.2⟩⟩
end
theorem enc_inj{m:Pu.Md}{f:Pu.Fn}(mo:MdOk m)(fl:FnLow m f)(hp:(Fl.places f).length<=8){a b:Nat × Fl.S}(ha:StWf m f a.2)(hb:StWf m f b.2)(h:encP f a=encP f b):a=b:=by
 obtain⟨a1,a2⟩:=a
 obtain⟨b1,b2⟩:=b
 unfold encP at h
 simp only[Pr.mk.injEq]at h
 obtain⟨rfl,h2,h3⟩:=h
 have e:a2=b2:=st_inj ha hb mo.nk fl.pl hp h2 h3
 rw[e]
theorem isK_iff{m:Pu.Md}{f:Pu.Fn}(mo:MdOk m)(fl:FnLow m f)(hp:(Fl.places f).length<=8){D:List (Nat × Fl.S)}(hD:∀x∈D,StWf m f x.2){q:Nat × Fl.S}(hq:StWf m f q.2):isK (D.map (encP f)) (encP f q)=true ↔ q∈D:=by
 unfold isK
 rw[decide_eq_true_eq,List.mem_map]
 constructor
 ·rintro⟨y,hy,e⟩
  rw[<-enc_inj mo fl hp (hD y hy) hq e];exact hy
 ·exact fun h=>⟨q,h,rfl⟩
theorem othK_yes{f:Pu.Fn}{D:List (Nat × Fl.S)}{q:Nat × Fl.S}(h:othK (D.map (encP f)) (encP f q)=true):∃y∈D,y.1=q.1/\y.2≠q.2:=by
 unfold othK at h
 rw[List.any_eq_true]at h
 obtain⟨z,hz,h2⟩:=h
 obtain⟨y,hy,rfl⟩:=List.mem_map.1 hz
 simp only[Bool.and_eq_true,decide_eq_true_eq]at h2
 refine⟨y,hy,h2.1,fun e=>h2.2 ?_⟩
 obtain⟨y1,y2⟩:=y
 obtain⟨q1,q2⟩:=q
 have h3:y1=q1:=h2.1
 simp only at e
 rw[h3,e]
theorem othK_no{m:Pu.Md}{f:Pu.Fn}(mo:MdOk m)(fl:FnLow m f)(hp:(Fl.places f).length<=8){D:List (Nat × Fl.S)}(hD:∀x∈D,StWf m f x.2){q:Nat × Fl.S}(hq:StWf m f q.2)(h:othK (D.map (encP f)) (encP f q)=false):∀x∈D,x.1=q.1->x=q:=by
 intro x hx h1
 unfold othK at h
 rw[List.any_eq_false]at h
 have h2:=h (encP f x) (List.mem_map.2 ⟨x,hx,rfl⟩)
 simp only[Bool.and_eq_true,decide_eq_true_eq,not_and,ne_eq,Decidable.not_not]at h2
 exact enc_inj mo fl hp (hD x hx) hq (h2 h1)
end Go.Proofs.YtjamgmbdilkbcaaGreat
