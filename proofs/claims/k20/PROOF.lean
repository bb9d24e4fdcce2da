import PyProof.Rows.All
import Wide.All
import OpenK.AllK
import Wide.FinOn
import Lean
import PyProof.EqAt
import PyProof.EqKinds
import PyProof.TupleCall
import PySem.Challenge.RW_byestand_k20_who_meets_whom
import KE.KNestM
import KE.KRevSl
set_option Elab.async false
set_option linter.all false
set_option maxRecDepth 100000
set_option genSizeOf false
theorem bH{a b c:Nat}(h:a<b)(k:b<=c):a<c:=Nat.lt_of_lt_of_le h k
theorem aA(n:Nat):n<=n:=Nat.le_refl n
theorem bu{α:Type _}{xs:List α}{i:Nat}{a:α}(h:xs[i]? =some a):∃ h:i<xs.length,xs[i] =a:=List.getElem?_eq_some_iff.mp h
noncomputable abbrev ak:=PySem.W.Frag
namespace L2
open PySem PySem.Spec PyProof.Rows
noncomputable abbrev Key:=Sum Int Str
noncomputable def zx:Key->Value->Bool
 | .inl k,v=>Value.isInt k v
 | .inr x,v=>Value.isStrOf x v
noncomputable def acO(w:World):Key->Int
 | .inl k=>hashInt k
 | .inr x=>hashStr w x
theorem fP:∀ {k:Key} {v:Value},zx k v=true->(∃ i t,k=Sum.inl i/\v=Value.int i t)\/(∃ x t,k=Sum.inr x/\v=Value.str x t)
 | .inl i,v,h=>by
   obtain⟨t,e⟩:=Value.isInt_shape (k:=i) (v:=v) h
   exact .inl ⟨i,t,rfl,e⟩
 | .inr x,v,h=>by
   obtain⟨t,e⟩:=Value.isStrOf_shape (x:=x) (v:=v) h;exact .inr ⟨x,t,rfl,e⟩
theorem RC(i:Int)(t:Tok):zx (.inl i) (.int i t)=true:=by simp[zx,Value.isInt]
theorem RD(x:Str)(t:Tok):zx (.inr x) (.str x t)=true:=by simp[zx,Value.isStrOf]
theorem Y6(a b:Int):decide ((Sum.inl a:Key)=Sum.inl b)=(a==b):=by
 by_cases e:a=b
 · subst e;simp
 · have h:¬ (Sum.inl a:Key)=Sum.inl b:=fun q=>e (Sum.inl.inj q);rw[decide_eq_false h];exact(beq_eq_false_iff_ne.mpr e).symm
theorem Y7(a b:Str):decide ((Sum.inr a:Key)=Sum.inr b)=decide (a=b):=by
 by_cases e:a=b
 · subst e;simp
 · have h:¬ (Sum.inr a:Key)=Sum.inr b:=fun q=>e (Sum.inr.inj q);rw[decide_eq_false h,decide_eq_false e]
theorem Y8(a:Int)(b:Str):decide ((Sum.inl a:Key)=Sum.inr b)=false:=decide_eq_false (fun q=>nomatch q)
theorem Y9(a:Str)(b:Int):decide ((Sum.inr a:Key)=Sum.inl b)=false:=decide_eq_false (fun q=>nomatch q)
noncomputable def gH(prog:Program)(w:World):PySem.KeyKind prog w Key where
 is:=zx
 hash:=acO w
 inj:=fun v a b ha hb=>by
  rcases fP ha with ⟨i,t,rfl,rfl⟩ | ⟨x,t,rfl,rfl⟩
  · rcases fP hb with ⟨j,u,rfl,e⟩ | ⟨y,u,rfl,e⟩
    · injection e with e1 _;rw[e1]
    · exact nomatch e
  · rcases fP hb with ⟨j,u,rfl,e⟩ | ⟨y,u,rfl,e⟩
    · exact nomatch e
    · injection e with e1 _;rw[e1]
 byValue:=fun k v h=>by
  rcases fP h with ⟨i,t,rfl,rfl⟩ | ⟨x,t,rfl,rfl⟩ <;> rfl
 pyHash:=fun hv h=>by
  rcases fP hv with ⟨i,t,rfl,rfl⟩ | ⟨x,t,rfl,rfl⟩
  · exact wpAny_pyHash_int h
  · exact wpAny_pyHash_str h
 eqBool:=fun hu hv h=>by
  rcases fP hu with ⟨i,t,rfl,rfl⟩ | ⟨x,t,rfl,rfl⟩
  · rcases fP hv with ⟨j,u,rfl,rfl⟩ | ⟨y,u,rfl,rfl⟩
    · rw[Y6]at h;exact wpAny_eqBool_int h
    · rw[Y8]at h;exact SeqAt.EqAt.int_str i t y u _ _ _ _ h
  · rcases fP hv with ⟨j,u,rfl,rfl⟩ | ⟨y,u,rfl,rfl⟩
    · rw[Y9]at h;exact SeqAt.EqAt.str_int x t j u _ _ _ _ h
    · rw[Y7]at h;exact wpAny_eqBool_str h
 «strs»:=fun k x t v h=>by
  rcases fP h with ⟨i,u,rfl,e⟩ | ⟨y,u,rfl,e⟩
  · exact nomatch e
  · injection e with e1 _;subst e1;cases v <;> rfl
theorem Mr(prog:Program)(w:World)(i:Int)(t:Tok):(gH prog w).is (.inl i) (.int i t)=true:=RC i t
theorem Ms(prog:Program)(w:World)(x:Str)(t:Tok):(gH prog w).is (.inr x) (.str x t)=true:=RD x t
inductive V where
 | non | bl (b:Bool) | int (i:Int) | str (x:Str) | byt (b:Array UInt8) | flt (b:UInt64) | ref (a:Addr) | ty (n:String)
 deriving DecidableEq
noncomputable def RelV:V->Value->Prop
 | .non,u=>u=Value.none
 | .bl b,u=>u=Value.bool b
 | .int i,u=>∃ t,u=Value.int i t
 | .str x,u=>∃ t,u=Value.str x t
 | .byt b,u=>∃ t,u=Value.bytes b t
 | .flt b,u=>∃ t,u=Value.float b t
 | .ref a,u=>u=Value.ref a
 | .ty n,u=>u=Value.type n
noncomputable abbrev Vals:List V->List Value->Prop:=Paired RelV
theorem Vals.length{xs:List V}{us:List Value}(r:Vals xs us):xs.length=us.length:=Paired.length r
theorem Vals.get:∀ {xs:List V} {us:List Value} {i:Nat} {x:V},Vals xs us->xs[i]? =some x->∃ u,us[i]? =some u/\RelV x u
 | _,_,_,_,.nil,e=>by simp at e
 | _,_,0,_,.cons r _,e=>by simp at e;subst e;exact⟨_,rfl,r⟩
 | _,_,i+1,x,.cons _ t,e=>by
   obtain⟨u,h1,h2⟩:=Vals.get (i:=i) (x:=x) t (by simpa using e);exact⟨u,by simpa using h1,h2⟩
theorem Vals.append:∀ {xs ys:List V} {us ws:List Value},Vals xs us->Vals ys ws->Vals (xs++ys) (us++ws)
 | _,_,_,_,.nil,s=>s
 | _,_,_,_,.cons r t,s=>.cons r (Vals.append t s)
theorem Vals.take:∀ {xs:List V} {us:List Value} (n:Nat),Vals xs us->Vals (xs.take n) (us.take n)
 | _,_,0,_=>.nil
 | _,_,_+1,.nil=>.nil
 | _,_,n+1,.cons r t=>.cons r (Vals.take n t)
theorem Vals.drop:∀ {xs:List V} {us:List Value} (n:Nat),Vals xs us->Vals (xs.drop n) (us.drop n)
 | _,_,0,r=>r
 | _,_,_+1,.nil=>.nil
 | _,_,n+1,.cons _ t=>Vals.drop n t
noncomputable def mj:Option V->Option Value->Prop
 | some v,some u=>RelV v u
 | none,none=>True
 | _,_=>False
noncomputable def KV{κ:Type}:List (κ × V)->List (κ × Value)->Prop:=Paired fun(p:κ × V) (q:κ × Value)=>p.1=q.1/\RelV p.2 q.2
noncomputable def kV:Key->V
 | .inl i=>.int i
 | .inr x=>.str x
inductive HO where
 | lst (xs:List V)
 | tup (xs:List V)
 | dK (kvs:List (Key × V)) | dT (kvs:List (List Key × V))
 | set (S:Int->Bool) (n:Nat)
 | ins (C dx:Addr) (fs:List (Str × V))
 | own (x:Addr)
 | xd (fs:List (Str × V))
 | met (f x:Addr)
 | rng (lo hi:Int)
 | frz (o:Obj) (u:HO)
 | tbl (ps:Array Value)
 | ext (φ:Heap->Prop)
noncomputable abbrev Hp:=Addr->Option HO
noncomputable def upd(H:Hp)(a:Addr)(o:HO):Hp:=fun b=>if b=a then some o else H b
theorem az{H:Hp}{a:Addr}{o:HO}:upd H a o a=some o:=by unfold upd;rw[if_pos rfl]
theorem aB{H:Hp}{a b:Addr}{o:HO}(h:b ≠ a):upd H a o b=H b:=by unfold upd;rw[if_neg h]
theorem Xk{H:Hp}{a:Addr}{o u:HO}:upd (upd H a o) a u=upd H a u:=by
 funext b;unfold upd;split <;> rfl
theorem Wq{H:Hp}{a b:Addr}{o u:HO}(h:H a=some o)(h':H b=some u)(d:o ≠ u):a ≠ b:=by
 intro e;subst e;rw[h]at h';exact d (Option.some.inj h')
theorem bL{H:Hp}{a b:Addr}{o:HO}(h:H a=some o)(h':H b=none):a ≠ b:=by
 intro e;subst e;rw[h]at h';cases h'
section
variable(P:Program)(w:World)
noncomputable def bO(H:Hp)(h:Heap)(a:Addr):HO->Prop
 | .lst xs=>xs.length<=sizeLine/\∃(its:List Value) (n:Nat),Vals xs its/\h.get? a=some { cls:=.type "list",data:=.seq its.toArray n }
 | .tup xs=>xs.length<=sizeLine/\∃ its:List Value,Vals xs its/\IsTup h a its.toArray
 | .dK kvs=>kvs.length<=sizeLine/\(a==sysModules)=false/\∃ vs,KV kvs vs/\h.DictOf (gH P w) a vs
 | .dT kvs=>kvs.length<=sizeLine/\(a==sysModules)=false/\∃ xs:List (List Key × Addr × Value),
    Paired (fun(p:List Key × V) (q:List Key × Addr × Value)=>p.1=q.1/\H q.2.1=some (.tup (p.1.map kV))/\RelV p.2 q.2.2) kvs xs/\
    ∃ o es ep,h.get? a=some o/\o.ExactDict/\o.data= .dict es ep/\es.toList=xs.map (entryOfKey (tupleKind (gH P w)))/\(xs.map (·.1)).Nodup
 | .set S n=>h.SetOf (intKind P w) a S n
 | .ins C dx fs=>H dx=some (.own a)/\fs.length<=1000/\dx ≠ a/\h.get? a=some (PySem.W.instObj C dx)/\
    ∃ mA,h.Ns1 dx mA/\(∀ f,mj (fs.lookup f) (mA f))/\PySem.Within mA (fs.map (·.1))
 | .own _=>∃ o,h.get? a=some o
 | .xd fs=>∃ mA,h.Ns1 a mA/\∀ f,mj (fs.lookup f) (mA f)
 | .rng lo hi=>∃ t u v,h.get? a=some { cls:=.type "range",data:=.fields #[.int lo t,.int hi u,.int 1 v] }
 | .frz o u=>h.get? a=some o/\bO H h a u
 | .tbl ps=>h.get? a=some { cls:=.none,data:=.fields ps }
 | .met f x=>h.get? a=some (PySem.W.methodObj (.ref f) (.ref x))
 | .ext φ=>φ h/\(∃ o,h.get? a=some o)/\∀ h1 h2:Heap,φ h1->(∀ o,h1.get? a=some o->h2.get? a=some o)->φ h2
noncomputable def HOk(H:Hp)(h:Heap):Prop:=∀ a o,H a=some o->bO P w H h a o
end
section
variable{P:Program}{w:World}{H H':Hp}{h h':Heap}{a:Addr}{o:HO}
theorem bO.lt(x:bO P w H h a o):a<h.objs.size:=by
 cases o with
 | lst xs=>obtain⟨_,_,_,_,e⟩:=x;exact Heap.lt_size e
 | tup xs=>obtain⟨_,_,_,p⟩:=x;exact p.lt
 | dK kvs=>obtain⟨_,_,_,_,o,_,_,e,_⟩:=x;exact Heap.lt_size e
 | dT kvs=>obtain⟨_,_,_,_,o,_,_,e,_⟩:=x;exact Heap.lt_size e
 | set S n=>obtain⟨o,_,_,_,e,_⟩:=x;exact Heap.lt_size e
 | ins C dx fs=>obtain⟨_,_,_,e,_⟩:=x;exact Heap.lt_size e
 | own y=>obtain⟨_,e⟩:=x;exact Heap.lt_size e
 | xd fs=>obtain⟨_,⟨_,_,_,e,_⟩,_⟩:=x;exact Heap.lt_size e
 | rng lo hi=>obtain⟨_,_,_,e⟩:=x;exact Heap.lt_size e
 | frz ob u=>obtain⟨e,_⟩:=x;exact Heap.lt_size e
 | tbl ps=>exact Heap.lt_size (show h.get? a=some _ from x)
 | met f y=>exact Heap.lt_size (show h.get? a=some _ from x)
 | ext φ=>obtain⟨_,⟨_,e⟩,_⟩:=x;exact Heap.lt_size e
theorem Paired.nU{α β:Type}{F G:α->β->Prop}:∀ {l₁:List α} {l₂:List β},Paired F l₁ l₂->(∀ a b,F a b->G a b)->Paired G l₁ l₂
 | _,_,.nil,_=>.nil
 | _,_,.cons r t,f=>.cons (f _ _ r) (Paired.nU t f)
theorem bO.stay(x:bO P w H h a o)(k:∀ b u,(b=a\/H b=some (.own a))->h.get? b=some u->h'.get? b=some u)
 (ho:∀ b,H b=some (.own a)->H' b=some (.own a)) (ht:∀ b xs,H b=some (.tup xs)->H' b=some (.tup xs)):bO P w H' h' a o:=by
 induction o with
 | lst xs=>obtain⟨z,its,n,r,e⟩:=x;exact⟨z,its,n,r,k _ _ (.inl rfl) e⟩
 | tup xs=>obtain⟨z,its,r,ob,e,c⟩:=x;exact⟨z,its,r,ob,k _ _ (.inl rfl) e,c⟩
 | dK kvs=>obtain⟨z,y,vs,r,ob,es,ep,e,c⟩:=x;exact⟨z,y,vs,r,ob,es,ep,k _ _ (.inl rfl) e,c⟩
 | dT kvs=>
   obtain⟨z,y,xs,r,ob,es,ep,e,c⟩:=x
   exact⟨z,y,xs,Paired.nU r fun p q z=>⟨z.1,ht _ _ z.2.1,z.2.2⟩,ob,es,ep,k _ _ (.inl rfl) e,c⟩
 | set S n=>obtain⟨ob,es,ep,t,e,c⟩:=x;exact⟨ob,es,ep,t,k _ _ (.inl rfl) e,c⟩
 | ins C dx fs=>
   obtain⟨d,z,ne,e,mA,⟨od,es,ep,e2,c⟩,r⟩:=x
   exact⟨ho _ d,z,ne,k _ _ (.inl rfl) e,mA,⟨od,es,ep,k _ _ (.inr d) e2,c⟩,r⟩
 | own y=>obtain⟨ob,e⟩:=x;exact⟨ob,k _ _ (.inl rfl) e⟩
 | xd fs=>obtain⟨mA,⟨od,es,ep,e,c⟩,r⟩:=x;exact⟨mA,⟨od,es,ep,k _ _ (.inl rfl) e,c⟩,r⟩
 | rng lo hi=>obtain⟨t,u,v,e⟩:=x;exact⟨t,u,v,k _ _ (.inl rfl) e⟩
 | frz ob u ih=>obtain⟨e,q⟩:=x;exact⟨k _ _ (.inl rfl) e,ih q⟩
 | tbl ps=>
   have e:h.get? a=some { cls:=.none,data:=.fields ps }:=x;show h'.get? a=some { cls:=.none,data:=.fields ps }
   exact k a _ (.inl rfl) e
 | met f y=>
   have e:h.get? a=some (PySem.W.methodObj (.ref f) (.ref y)):=x;show h'.get? a=some (PySem.W.methodObj (.ref f) (.ref y))
   exact k a _ (.inl rfl) e
 | ext φ=>obtain⟨p,⟨o,e⟩,st⟩:=x;exact⟨st _ _ p fun o q=>k _ _ (.inl rfl) q,⟨o,k _ _ (.inl rfl) e⟩,st⟩
theorem HOk.lt(x:HOk P w H h)(e:H a=some o):a<h.objs.size:=(x a o e).lt
theorem HOk.fresh(x:HOk P w H h)(e:h.objs.size<=a):H a=none:=by
 cases q:H a with
 | none=>rfl
 | some u=>exact absurd (bH (x.lt q) e) (Nat.lt_irrefl _)
theorem HOk.kept(x:HOk P w H h)(k:∀ b u,h.get? b=some u->h'.get? b=some u):HOk P w H h':=fun a o e=>
 (x a o e).stay (fun b u _ q=>k b u q) (fun _ q=>q) fun _ _ q=>q
theorem HOk.laid(x:HOk P w H h)(k:∀ b u,h.get? b=some u->h'.get? b=some u)(hp:h.objs.size<=a)(new:bO P w (upd H a o) h' a o):HOk P w (upd H a o) h':=fun b u e=>by
 have hn:=x.fresh hp
 by_cases hb:b=a
 · subst hb;rw[az]at e;cases e;exact new
 · rw[aB hb]at e;exact(x b u e).stay (fun c v _ q=>k c v q) (fun c q=>by rw[aB (bL q hn)];exact q) fun c xs q=>by rw[aB (bL q hn)];exact q
end
noncomputable def Rd(H:Hp)(a:Addr)(u:HO):Prop:=H a=some u\/∃ o,H a=some (.frz o u)
theorem Rd.ok{P:Program}{w:World}{H:Hp}{h:Heap}{a:Addr}{u:HO}(r:Rd H a u)(x:HOk P w H h):bO P w H h a u:=by
 rcases r with r | ⟨o,r⟩
 · exact x a u r
 · obtain⟨_,q⟩:=x a _ r;exact q
noncomputable def Mut:Option HO->Prop
 | some (.lst _)=>True
 | some (.dK _)=>True
 | some (.dT _)=>True
 | some (.set _ _)=>True
 | some (.ins _ _ _)=>True
 | some (.ext _)=>True
 | _=>False
section
variable{P:Program}{w:World}{H:Hp}{h h':Heap}{x e:Addr}{o':HO}
theorem HOk.write(ok:HOk P w H h)(mu:Mut (H x))(he:e=x\/H e=some (.own x))(k:∀ b u,b ≠ e->h.get? b=some u->h'.get? b=some u)(heo:∃ u,h'.get? e=some u)
 (new:bO P w (upd H x o') h' x o'):HOk P w (upd H x o') h':=fun b u q=>by
 have Y_:∀ c y,H c=some (.own y)->c ≠ x:=fun c y r z=>by subst z;rw[r]at mu;exact mu
 have acP:∀ c xs,H c=some (.tup xs)->c ≠ x:=fun c xs r z=>by subst z;rw[r]at mu;exact mu
 by_cases hb:b=x
 · subst hb;rw[az]at q;cases q;exact new
 · rw[aB hb]at q
   by_cases hbe:b=e
   · have q':H b=some (.own x):=by
      rcases he with z | z
      · exact absurd (hbe.trans z) hb
      · rw[hbe];exact z
     rw[q]at q';cases q';obtain⟨v,hv⟩:=heo;exact⟨v,by rw[hbe];exact hv⟩
   · refine(ok b u q).stay (fun c v hc r=>k c v ?_ r) (fun c r=>by rw[aB (Y_ c b r)];exact r) fun c xs r=>by rw[aB (acP c xs r)];exact r
     rcases hc with rfl | hc
     · exact hbe
     · rintro rfl
       rcases he with z | z
       · exact Y_ c b hc z
       · rw[hc]at z;cases z;exact hb rfl
end
structure Un (fs ex:List Addr)(H H':Hp)(h h':Heap):Prop where
 keep:∀ b o,h.get? b=some o->H b=none->b ∉ fs->b ∉ ex->h'.get? b=some o
 slot:∀ b o,h.get? b=some o->H b=none->b ∈ fs->b ∉ ex->∃ sl,h'.get? b=some { o with slots:=sl }
 free:∀ b o,h.get? b=some o->H b=none->b ∉ ex->H' b=none
 there:∀ b o,h.get? b=some o->b ∉ ex->∃ o',h'.get? b=some o'
 tups:∀ b xs,H b=some (.tup xs)->H' b=some (.tup xs)
 mq:∀ b o u,H b=some (.frz o u)->H' b=some (.frz o u)
 mz:∀ b ps,H b=some (.tbl ps)->∃ more,H' b=some (.tbl (ps++more))
section
variable{fs fs' ex ex':List Addr}{H H1 H2:Hp}{h h1 h2 h':Heap}{a x e:Addr}{o:HO}
theorem Un.any(u:Un fs ex H H1 h h1){b:Addr}{ob:Obj}(q:h.get? b=some ob)(n:H b=none)(hx:b ∉ ex):∃ sl,h1.get? b=some { ob with slots:=sl }:=by
 by_cases hb:b ∈ fs
 · exact u.slot b ob q n hb hx
 · exact⟨ob.slots,u.keep b ob q n hb hx⟩
theorem Un.trans(a:Un fs ex H H1 h h1)(b:Un fs ex H1 H2 h1 h2):Un fs ex H H2 h h2 where
 keep:=fun c ob q n hc hx=>b.keep c ob (a.keep c ob q n hc hx) (a.free c ob q n hx) hc hx
 slot:=fun c ob q n hc hx=>by
  obtain⟨sl,e1⟩:=a.slot c ob q n hc hx;obtain⟨sl',e2⟩:=b.slot c _ e1 (a.free c ob q n hx) hc hx;exact⟨sl',e2⟩
 free:=fun c ob q n hx=>by
  obtain⟨o',e1⟩:=a.there c ob q hx;exact b.free c o' e1 (a.free c ob q n hx) hx
 there:=fun c ob q hx=>by
  obtain⟨o',e1⟩:=a.there c ob q hx;exact b.there c o' e1 hx
 tups:=fun c xs q=>b.tups c xs (a.tups c xs q)
 mq:=fun c ob xs q=>b.mq c ob xs (a.mq c ob xs q)
 mz:=fun c ps q=>by
  obtain⟨m1,e1⟩:=a.mz c ps q;obtain⟨m2,e2⟩:=b.mz c _ e1;exact⟨m1++m2,by rw[e2,Array.append_assoc]⟩
theorem Un.kept(k:∀ b u,h.get? b=some u->h'.get? b=some u):Un fs ex H H h h':=
 ⟨fun b ob q _ _ _=>k b ob q,fun b ob q _ _ _=>⟨ob.slots,k b ob q⟩,fun _ _ _ n _=>n,fun b ob q _=>⟨ob,k b ob q⟩,fun _ _ q=>q,fun _ _ _ q=>q,fun _ ps q=>⟨#[],by rw[q];simp⟩⟩
theorem Un.refl:Un fs ex H H h h:=Un.kept fun _ _ q=>q
theorem Un.laid(k:∀ b u,h.get? b=some u->h'.get? b=some u)(hp:h.objs.size<=a)(hn:H a=none):Un fs ex H (upd H a o) h h' where
 keep:=fun b u q _ _ _=>k b u q
 slot:=fun b u q _ _ _=>⟨u.slots,k b u q⟩
 free:=fun b u q n _=>by rw[aB (Nat.ne_of_lt (bH (Heap.lt_size q) hp))];exact n
 there:=fun b u q _=>⟨u,k b u q⟩
 tups:=fun b xs q=>by rw[aB (bL q hn)];exact q
 mq:=fun b u xs q=>by rw[aB (bL q hn)];exact q
 mz:=fun b ps q=>⟨#[],by rw[aB (bL q hn),q];simp⟩
theorem Un.write(mu:Mut (H x))(he:e=x\/H e=some (.own x))(k:∀ b u,b ≠ e->h.get? b=some u->h'.get? b=some u)(heo:∃ u,h'.get? e=some u):Un fs ex H (upd H x o) h h':=by
 have hx:∀ b,H b=none->b ≠ x:=fun b n z=>by subst z;rw[n]at mu;exact mu
 have hb:∀ b,H b=none->b ≠ e:=fun b n z=>by
  subst z
  rcases he with r | r
  · exact hx b n r
  · rw[n]at r;cases r
 have hm:∀ b u,H b=some u->¬ Mut (some u)->b ≠ x:=fun b u q nm z=>by subst z;rw[q]at mu;exact nm mu
 refine⟨fun b u q n _ _=>k b u (hb b n) q,fun b u q n _ _=>⟨u.slots,k b u (hb b n) q⟩,fun b u q n _=>by rw[aB (hx b n)];exact n,fun b u q _=>?_,
  fun b xs q=>by rw[aB (hm b _ q fun z=>z)];exact q,fun b u xs q=>by rw[aB (hm b _ q fun z=>z)];exact q,fun b ps q=>⟨#[],by rw[aB (hm b _ q fun z=>z),q];simp⟩⟩
 by_cases hbe:b=e
 · subst hbe;exact heo
 · exact⟨u,k b u hbe q⟩
theorem Un.mono(u:Un fs ex H H1 h h1)(hs:∀ b ∈ fs,b ∈ fs')(hx:∀ b ∈ ex,b ∈ ex'):Un fs' ex' H H1 h h1:=
 ⟨fun b ob q n hb he=>u.keep b ob q n (fun z=>hb (hs b z)) fun z=>he (hx b z),fun _ _ q n _ he=>u.any q n fun z=>he (hx _ z),fun b ob q n he=>u.free b ob q n fun z=>he (hx b z),fun b ob q he=>u.there b ob q fun z=>he (hx b z),u.tups,u.mq,u.mz⟩
end
noncomputable def trk(h:Heap)(H:Hp):List Addr:=(List.range h.objs.size).filter fun a=>(H a).isSome
noncomputable def uD(h:Heap)(H:Hp):Heap:=PySem.W.hideAll h (trk h H)
theorem RG(h:Heap)(H:Hp):(uD h H).objs.size=h.objs.size:=PySem.W.hideAll_size _ _
theorem Uw{h:Heap}{H:Hp}{b:Addr}{o:Obj}(e:h.get? b=some o)(n:H b=none):(uD h H).get? b=some o:=
 PySem.W.hideAll_get _ e fun hm=>by
  have q:(H b).isSome=true:=(List.mem_filter.mp hm).2;rw[n]at q;simp at q
theorem Xl{h:Heap}{H:Hp}{b:Addr}{o:Obj}(e:(uD h H).get? b=some o):h.get? b=some o/\H b=none:=by
 have e':h.get? b=some o:=PySem.W.of_hideAll (trk h H) e;refine⟨e',?_⟩
 cases q:H b with
 | none=>rfl
 | some x=>
   have hm:b ∈ trk h H:=List.mem_filter.mpr ⟨List.mem_range.mpr (Heap.lt_size e'),by simp[q]⟩;have z:(uD h H).get? b=none:=PySem.W.hideAll_none (trk h H) hm;rw[z]at e;cases e
noncomputable def Xm(g h:Heap)(L:Addr):List (Addr × Obj):=(List.range h.objs.size).filterMap fun a=>if a=L\/(g.get? a).isSome=true then none else(h.get? a).map fun o=>(a,o)
noncomputable def rest(g h:Heap)(L d:Addr):List (Addr × Obj):=(Xm g h L).filter fun p=>decide (p.1 ≠ d)
structure Mod (K:ak)(mg:Str->Option Value)(base:Heap):Prop where
 kin:K.In base
 glob:base.Ns mainGlobals mg
 blt:∃ mb,base.Ns builtinsNs mb/\∀ x:Str,x ≠ "__name__"->mb x=bootBuiltins x
 nolimit:base.NoLimit
structure Cx where
 prog:Program
 w:World
 K:ak
 mg:Str->Option Value
 base:Heap
 A:Around
 N:List Str
 s₀:Shared
 H₀:Hp
 env:Env
 outer:List Env
 stack:List Env
 ex:List Addr
 fn:Str->Bool
 calm:Bool
 pn:List (Addr × Obj)
 xe:Value->Shared->Prop
noncomputable def frs(l:List Env):List Addr:=l.filterMap (·.frame)
noncomputable abbrev Cx.fs(X:Cx):List Addr:=frs X.outer
noncomputable def Vis(sc:Scope)(x:Str):Prop:=sc.names.lookup x=some .local\/sc.names.lookup x=some .cell\/sc.names.lookup x=some .free
noncomputable def Loc(sc:Scope)(x:Str):Prop:=sc.names.lookup x=some .local\/sc.names.lookup x=some .cell
noncomputable def Look(env:Env)(h:Heap)(m:Str->Option Value)(x:Str)(u:Value):Prop:=
 (env.kindOf x=some .local/\m x=some u)\/((env.kindOf x=some .cell\/env.kindOf x=some .free)/\∃ c,env.cells.lookup x=some c/\h.IsCell c (some u))
structure Cx.Ok (X:Cx):Prop where
 mod:Mod X.K X.mg X.base
 kind:X.env.scope.kind= .function
 glob:X.env.globals=mainGlobals
 blt:X.env.builtins=builtinsNs
 above:X.s₀.heap.objs.size<=X.env.locals
 inj:∀ x y c,X.env.cells.lookup x=some c->X.env.cells.lookup y=some c->x=y
 has:∀ x,(X.env.kindOf x=some .cell\/X.env.kindOf x=some .free)->∃ c,X.env.cells.lookup x=some c
 cab:∀ x c,X.fn x=true->X.env.cells.lookup x=some c->X.s₀.heap.objs.size<=c
 hd:X.calm=true->X.A.handled=none
 frames:X.A.frames=some X.stack
 stk:X.stack=X.outer\/(X.stack=X.env::X.outer/\X.env.frame=some X.env.locals)
 exf:∀ b ∈ X.ex,b ≠ X.env.locals/\∀ x c,X.env.cells.lookup x=some c->c ≠ b
 bs:∀ b o,X.base.get? b=some o->X.s₀.heap.get? b=some o/\X.H₀ b=none
 bsz:X.base.objs.size<=X.s₀.heap.objs.size
 uE:∀ b o,X.base.get? b=some o->b ∉ X.ex
 x_:∀ b ∈ X.ex,b ∉ X.fs
 mC:X.s₀.heap.FunFrames X.base X.outer
 frf:∀ b ∈ X.fs,X.H₀ b=none
structure Inv (X:Cx)(pins:List (Addr × Obj))(σ:List (Option V))(H:Hp)(s:Shared):Prop where
 ok:X.Ok
 os:s.os=X.s₀.os
 bare:AllBare s.gens
 base:Un X.fs X.ex X.H₀ H X.s₀.heap s.heap
 loc:∃ m,s.heap.Ns X.env.locals m/\∀(i:Nat) (x:Str) (v:V),X.N[i]? =some x->σ[i]? =some (some v)->Vis X.env.scope x->∃ u,RelV v u/\Look X.env s.heap m x u
 cell:∀ x c,X.env.cells.lookup x=some c->∃ v,s.heap.IsCell c v
 free:H X.env.locals=none
 jl:∀ x c,X.env.cells.lookup x=some c->H c=none
 pin:∀ p ∈ X.pn++pins,s.heap.get? p.1=some p.2/\H p.1=none/\p.1 ≠ X.env.locals/\p.1 ∉ X.fs/\∀ v,p.2.data ≠ .cell v
 hok:HOk X.prog X.w H s.heap
 len:σ.length=X.N.length
section
variable{X:Cx}{pins:List (Addr × Obj)}{σ:List (Option V)}{H H':Hp}{s:Shared}{h':Heap}
theorem Cx.Ok.acQ(ok:X.Ok){b:Addr}{o:Obj}(e:X.base.get? b=some o):b ∉ X.fs:=fun hb=>by
 have:=(ok.mC.mem hb).1;rw[e]at this;cases this
theorem Inv.bs(I:Inv X pins σ H s):∀ b o,X.base.get? b=some o->s.heap.get? b=some o/\H b=none:=fun b o e=>
 ⟨I.base.keep b o (I.ok.bs b o e).1 (I.ok.bs b o e).2 (I.ok.acQ e) (I.ok.uE b o e),I.base.free b o (I.ok.bs b o e).1 (I.ok.bs b o e).2 (I.ok.uE b o e)⟩
theorem Inv.bk(I:Inv X pins σ H s):∀ b o,X.base.get? b=some o->s.heap.get? b=some o:=fun b o e=>(I.bs b o e).1
theorem Inv.mod(I:Inv X pins σ H s):Mod X.K X.mg X.base:=I.ok.mod
theorem Inv.kIn(I:Inv X pins σ H s):X.K.In s.heap:=I.ok.mod.kin.keeps I.bk
theorem Inv.nolimit(I:Inv X pins σ H s):s.heap.NoLimit:=I.ok.mod.nolimit.keeps I.bk
theorem Inv.fr(I:Inv X pins σ H s):∃ m,Fr X.base X.env.locals s.heap m:=
 let ⟨m,hn,_⟩:=I.loc
 ⟨m,hn,I.bk,Nat.le_trans I.ok.bsz I.ok.above⟩
theorem Inv.lt(I:Inv X pins σ H s):X.env.locals<s.heap.objs.size:=let ⟨_,hn,_⟩:=I.loc;hn.lt
theorem Inv.sz(I:Inv X pins σ H s):X.s₀.heap.objs.size<=s.heap.objs.size:=Nat.le_trans I.ok.above (Nat.le_of_lt I.lt)
theorem Inv.Za(I:Inv X pins σ H s){a:Addr}(h:s.heap.objs.size<=a):a ∉ X.fs:=fun hb=>by
 obtain⟨_,o,ho,_⟩:=I.ok.mC.mem hb;exact absurd (bH (Heap.lt_size ho) (Nat.le_trans I.sz h)) (Nat.lt_irrefl _)
theorem Inv.cne(I:Inv X pins σ H s):∀ x c,X.env.cells.lookup x=some c->c ≠ X.env.locals:=fun x c e z=>by
 obtain⟨v,o,ho,hd⟩:=I.cell x c e;obtain⟨m,⟨o',es,ep,ho',hd',_⟩,_⟩:=I.loc;rw[z,ho']at ho;cases ho;rw[hd']at hd;cases hd
theorem Inv.mC(I:Inv X pins σ H s):s.heap.FunFrames X.base X.outer:=by
 have all:∀(l:List Env),(∀ b ∈ frs l,b ∈ X.fs)->X.s₀.heap.FunFrames X.base l->s.heap.FunFrames X.base l:=by
  intro l
  induction l with
  | nil=>intro _ _;trivial
  | cons env r ih=>
    intro hs hl;obtain⟨hk,⟨L,o,hf,hn,ho,hd⟩,hr⟩:=hl;have hL:L ∈ X.fs:=hs L (by unfold frs;rw[List.filterMap_cons,hf];exact List.mem_cons_self);obtain⟨sl,e⟩:=I.base.slot L o ho (I.ok.frf L hL) hL fun z=>I.ok.x_ L z hL;exact⟨hk,⟨L,_,hf,hn,e,hd⟩,ih (fun b hb=>hs b (by unfold frs;rw[List.filterMap_cons,hf];exact List.mem_cons_of_mem _ hb)) hr⟩
 exact all X.outer (fun _ hb=>hb) I.ok.mC
theorem Inv.stack(I:Inv X pins σ H s):s.heap.FunFrames X.base X.stack:=by
 rcases I.ok.stk with e | ⟨e,hf⟩
 · rw[e];exact I.mC
 · rw[e];obtain⟨m,hn,_⟩:=I.loc;refine .cons (by rw[I.ok.kind];decide) hf hn ?_ I.mC;exact Heap.get?_none_of_le (Nat.le_trans I.ok.bsz I.ok.above)
theorem Inv.yd(I:Inv X pins σ H s):∀ b ∈ frs X.stack,b ∈ X.env.locals::X.fs:=fun b hb=>by
 rcases I.ok.stk with e | ⟨e,hf⟩
 · rw[e]at hb;exact List.mem_cons_of_mem _ hb
 · rw[e]at hb;unfold frs at hb;rw[List.filterMap_cons,hf]at hb;exact hb
theorem Inv.qj(I:Inv X pins σ H s):∀ b ∈ frs X.stack,H b=none:=fun b hb=>by
 rcases List.mem_cons.mp (I.yd b hb) with e | hb
 · rw[e];exact I.free
 · obtain⟨_,o,ho,_⟩:=I.ok.mC.mem hb;exact I.base.free b o ho (I.ok.frf b hb) fun z=>I.ok.x_ b z hb
theorem Inv.step{g':Array GenState}{t':Nat}{d':Drawn}{ch:List Addr}(I:Inv X pins σ H s)
 (hch:∀ b ∈ ch,(b ∈ X.ex\/X.s₀.heap.objs.size<=b)/\b ≠ X.env.locals/\(∀ x c,X.env.cells.lookup x=some c->c ≠ b)/\∀ p ∈ X.pn++pins,p.1 ≠ b)
 (keep:∀ b o,b ≠ X.env.locals->b ∉ X.fs->b ∉ ch->s.heap.get? b=some o->H b=none->h'.get? b=some o)
 (slot:∀ b o,b ≠ X.env.locals->b ∈ X.fs->b ∉ ch->s.heap.get? b=some o->H b=none->∃ sl,h'.get? b=some { o with slots:=sl }) (free:∀ b o,b ∉ ch->s.heap.get? b=some o->H b=none->H' b=none)
 (there:∀ b o,b ∉ ch->s.heap.get? b=some o->∃ o',h'.get? b=some o')
 (tups:∀ b xs,H b=some (.tup xs)->H' b=some (.tup xs)) (mq:∀ b o u,H b=some (.frz o u)->H' b=some (.frz o u)) (mz:∀ b ps,H b=some (.tbl ps)->∃ more,H' b=some (.tbl (ps++more)))
 (ns:∀ m,s.heap.Ns X.env.locals m->h'.Ns X.env.locals m) (hok:HOk X.prog X.w H' h') (hg:AllBare g'):
 Inv X pins σ H' { s with heap:=h',gens:=g',drawn:=d',toks:=t' }:=by
 have neL:∀ b o,X.s₀.heap.get? b=some o->b ≠ X.env.locals:=fun b o e=>Nat.ne_of_lt (bH (Heap.lt_size e) I.ok.above)
 have neC:∀ b o,X.s₀.heap.get? b=some o->b ∉ X.ex->b ∉ ch:=fun b o e hx hb=>by
  rcases (hch b hb).1 with z | z
  · exact hx z
  · exact absurd (bH (Heap.lt_size e) z) (Nat.lt_irrefl _)
 have cellK:∀ x c,X.env.cells.lookup x=some c->∀ v,s.heap.IsCell c v->h'.IsCell c v:=fun x c e v ⟨o,ho,hd⟩=>by
  have nch:c ∉ ch:=fun z=>(hch c z).2.2.1 x c e rfl
  by_cases hc:c ∈ X.fs
  · obtain⟨sl,q⟩:=slot c o (I.cne x c e) hc nch ho (I.jl x c e);exact⟨_,q,hd⟩
  · exact⟨o,keep c o (I.cne x c e) hc nch ho (I.jl x c e),hd⟩
 refine⟨I.ok,I.os,hg,⟨fun b o e n hb hx=>?_,fun b o e n hb hx=>?_,fun b o e n hx=>?_,fun b o e hx=>?_,fun b xs e=>tups b xs (I.base.tups b xs e),fun b o xs e=>mq b o xs (I.base.mq b o xs e),fun b ps e=>?_⟩,?_,fun x c e=>?_,?_,fun x c e=>?_,fun p hp=>?_,hok,I.len⟩
 · exact keep b o (neL b o e) hb (neC b o e hx) (I.base.keep b o e n hb hx) (I.base.free b o e n hx)
 · obtain⟨sl,e1⟩:=I.base.slot b o e n hb hx;obtain⟨sl',e2⟩:=slot b _ (neL b o e) hb (neC b o e hx) e1 (I.base.free b o e n hx);exact⟨sl',e2⟩
 · obtain⟨o',e1⟩:=I.base.there b o e hx;exact free b o' (neC b o e hx) e1 (I.base.free b o e n hx)
 · obtain⟨o',e1⟩:=I.base.there b o e hx;exact there b o' (neC b o e hx) e1
 · obtain⟨m1,e1⟩:=I.base.mz b ps e;obtain⟨m2,e2⟩:=mz b _ e1;exact⟨m1++m2,by rw[e2,Array.append_assoc]⟩
 · obtain⟨m,hn,hl⟩:=I.loc;refine⟨m,ns m hn,fun i x v e1 e2 e3=>?_⟩;obtain⟨u,r,l⟩:=hl i x v e1 e2 e3;refine⟨u,r,?_⟩
   rcases l with l | ⟨k,c,e,z⟩
   · exact .inl l
   · exact .inr ⟨k,c,e,cellK x c e _ z⟩
 · obtain⟨v,z⟩:=I.cell x c e;exact⟨v,cellK x c e v z⟩
 · obtain⟨m,⟨o,_,_,ho,_⟩,_⟩:=I.loc;exact free _ o (fun z=>(hch _ z).2.1 rfl) ho I.free
 · obtain⟨v,o,ho,hd⟩:=I.cell x c e;exact free c o (fun z=>(hch c z).2.2.1 x c e rfl) ho (I.jl x c e)
 · obtain⟨e,n,ne,nf,d⟩:=I.pin p hp;have nch:p.1 ∉ ch:=fun z=>(hch p.1 z).2.2.2 p hp rfl;exact⟨keep p.1 p.2 ne nf nch e n,free p.1 p.2 nch e n,ne,nf,d⟩
theorem Inv.un{t':Nat}(I:Inv X pins σ H s)(u:Un X.fs [] H H' s.heap h')(hok:HOk X.prog X.w H' h'):Inv X pins σ H' { s with heap:=h',toks:=t' }:=by
 obtain⟨m,⟨o,es,ep,ho,r⟩,_⟩:=id I.loc;obtain⟨sl,hL⟩:=u.any ho I.free (by simp)
 exact I.step (g':=s.gens) (d':=s.drawn) (ch:=[]) (fun _ z=>nomatch z) (fun b o _ hb _ e n=>u.keep b o e n hb (by simp)) (fun b o _ hb _ e n=>u.slot b o e n hb (by simp)) (fun b o _ e n=>u.free b o e n (by simp)) (fun b o _ e=>u.there b o e (by simp)) u.tups u.mq u.mz (fun m' hm=>by
  obtain⟨o',es',ep',ho',r'⟩:=hm;rw[ho]at ho';cases ho'
  exact⟨_,es',ep',hL,r'⟩) hok I.bare
theorem Inv.call{g':Array GenState}{t':Nat}{d':Drawn}{ch:List Addr}(I:Inv X pins σ H s)(u:Un (frs X.stack) ch H H' s.heap h')(hok:HOk X.prog X.w H' h')(hg:AllBare g')
 (hch:∀ b ∈ ch,(b ∈ X.ex\/X.s₀.heap.objs.size<=b)/\b ≠ X.env.locals/\(∀ x c,X.env.cells.lookup x=some c->c ≠ b)/\∀ p ∈ X.pn++pins,p.1 ≠ b):
 Inv X pins σ H' { s with heap:=h',gens:=g',drawn:=d',toks:=t' }:=by
 obtain⟨m,⟨o,es,ep,ho,r⟩,_⟩:=id I.loc;obtain⟨sl,hL⟩:=u.any ho I.free fun z=>(hch _ z).2.1 rfl
 exact I.step (ch:=ch) hch (fun b o hL hb hc e n=>u.keep b o e n (fun z=>(List.mem_cons.mp (I.yd b z)).elim hL hb) hc) (fun b o _ _ hc e n=>u.any e n hc) (fun b o hc e n=>u.free b o e n hc) (fun b o hc e=>u.there b o e hc) u.tups u.mq u.mz (fun m' hm=>by
  obtain⟨o',es',ep',ho',r'⟩:=hm;rw[ho]at ho';cases ho'
  exact⟨_,es',ep',hL,r'⟩) hok hg
theorem Inv.turned{t':Nat}{it:Addr}(I:Inv X pins σ H s)(k:∀ b o,b ≠ it->s.heap.get? b=some o->h'.get? b=some o)(hn:H it=none)(hL:it ≠ X.env.locals)
 (h1:it ∈ X.ex\/X.s₀.heap.objs.size<=it) (h2:∀ x c,X.env.cells.lookup x=some c->c ≠ it) (h3:∀ p ∈ X.pn++pins,p.1 ≠ it):Inv X pins σ H { s with heap:=h',toks:=t' }:=by
 have nit:∀ b u,H b=some u->b ≠ it:=fun b u e z=>by rw[z,hn]at e;cases e
 refine I.step (g':=s.gens) (d':=s.drawn) (ch:=[it]) (fun b hb=>?_) (fun b o _ _ hc e _=>k b o (fun z=>hc (by simp[z])) e) (fun b o _ _ hc e _=>⟨o.slots,k b o (fun z=>hc (by simp[z])) e⟩) (fun _ _ _ _ n=>n)
  (fun b o hc e=>⟨o,k b o (fun z=>hc (by simp[z])) e⟩) (fun _ _ e=>e) (fun _ _ _ e=>e) (fun b ps e=>⟨#[],by rw[e];simp⟩) (fun m hm=>?_) (fun b u e=>?_) I.bare
 · have e:b=it:=by simpa using hb
   subst e;exact⟨h1,hL,h2,h3⟩
 · obtain⟨o,es,ep,ho,r⟩:=hm;exact⟨o,es,ep,k _ o (Ne.symm hL) ho,r⟩
 · refine(I.hok b u e).stay (fun c v hc q=>k c v ?_ q) (fun _ q=>q) fun _ _ q=>q
   rcases hc with z | z
   · rw[z];exact nit b u e
   · exact nit c _ z
theorem Inv.tok(I:Inv X pins σ H s)(t:Nat):Inv X pins σ H { s with toks:=t }:=I.un (h':=s.heap) (t':=t) Un.refl I.hok
theorem Inv.kept{t':Nat}(I:Inv X pins σ H s)(k:∀ b u,s.heap.get? b=some u->h'.get? b=some u):Inv X pins σ H { s with heap:=h',toks:=t' }:=I.un (Un.kept k) (I.hok.kept k)
theorem Inv.laid{a:Addr}{o:HO}{t':Nat}(I:Inv X pins σ H s)(k:∀ b u,s.heap.get? b=some u->h'.get? b=some u)(hp:s.heap.objs.size<=a)(new:bO X.prog X.w (upd H a o) h' a o):
 Inv X pins σ (upd H a o) { s with heap:=h',toks:=t' }:=I.un (Un.laid k hp (I.hok.fresh hp)) (I.hok.laid k hp new)
theorem Inv.write{x e:Addr}{o:HO}{t':Nat}(I:Inv X pins σ H s)(mu:Mut (H x))(he:e=x\/H e=some (.own x))(k:∀ b u,b ≠ e->s.heap.get? b=some u->h'.get? b=some u)(heo:∃ u,h'.get? e=some u)
 (new:bO X.prog X.w (upd H x o) h' x o):Inv X pins σ (upd H x o) { s with heap:=h',toks:=t' }:=I.un (Un.write mu he k heo) (I.hok.write mu he k heo new)
theorem Inv.weak{σ':List (Option V)}(I:Inv X pins σ H s)(hl:σ'.length=σ.length)(w:∀(i:Nat) v,σ'[i]? =some (some v)->σ[i]? =some (some v)):Inv X pins σ' H s:=
 ⟨I.ok,I.os,I.bare,I.base,let ⟨m,hn,hl'⟩:=I.loc;⟨m,hn,fun i x v e1 e2 e3=>hl' i x v e1 (w i v e2) e3⟩,I.cell,I.free,I.jl,I.pin,I.hok,hl.trans I.len⟩
theorem Inv.Ek{B_:List (Addr × Obj)}(I:Inv X pins σ H s)(h:∀ p ∈ B_,s.heap.get? p.1=some p.2/\H p.1=none/\p.1 ≠ X.env.locals/\p.1 ∉ X.fs/\∀ v,p.2.data ≠ .cell v):Inv X B_ σ H s:=
 ⟨I.ok,I.os,I.bare,I.base,I.loc,I.cell,I.free,I.jl,fun p hp=>(List.mem_append.mp hp).elim (fun z=>I.pin p (List.mem_append_left _ z)) (h p),I.hok,I.len⟩
theorem Jv{N:List Str}(hN:N.Nodup){i j:Nat}{x:Str}(a:N[i]? =some x)(b:N[j]? =some x):i=j:=by
 obtain⟨h1,e1⟩:=bu a;obtain⟨h2,e2⟩:=bu b;exact(List.getElem_inj hN).mp (e1.trans e2.symm)
theorem RJ{M:Model}{A:Around}{E:Value->Shared->Prop}{i:Nat}{x:Str}{v:V}{u:Value}{Q:Unit->Shared->Prop}(I:Inv X pins σ H s)(hN:X.N.Nodup)(hi:X.N[i]? =some x)(hx:Loc X.env.scope x)(r:RelV v u)
 (h:∀ s',Inv X pins (σ.set i (some v)) H s'->(∃ a,Heap.SameBut a s.heap s'.heap/\(a=X.env.locals\/X.env.cells.lookup x=some a))->Q () s') (hf:X.fn x=true\/X.env.scope.names.lookup x=some .local:=by first | exact .inl rfl | exact .inr rfl | assumption):wpAny M A (storeName X.env x u) Q E s:=by
 obtain⟨m,hn,hl⟩:=id I.loc;have hcls:(X.env.scope.kind == .class||(X.env.scope.kind == .module&&X.env.locals != X.env.globals))=false:=by rw[I.ok.kind];rfl
 have Zb:i<σ.length:=by rw[I.len];exact(bu hi).1
 have cne:=I.cne
 have tracked:∀ {a:Addr} {h':Heap},(∃ o,s.heap.get? a=some o/\H a=none)->Heap.SameBut a s.heap h'->HOk X.prog X.w H h':=fun {a h'} ha hs b ob e=>by
  obtain⟨_,_,hfree⟩:=ha;refine(I.hok b ob e).stay (fun c w' hc q=>(hs.2 c ?_).trans q) (fun _ q=>q) fun _ _ q=>q;rintro rfl
  rcases hc with rfl | hc
  · rw[hfree]at e;cases e
  · rw[hfree]at hc;cases hc
 rcases hx with hk | hk
 · refine wpAny_storeName_local hk hn (fun h' hn' hs=>?_) hcls;obtain⟨oL,_,_,hoL,_⟩:=id hn;refine h _ ⟨I.ok,I.os,I.bare,⟨fun b o e n hb hx=>?_,fun b o e n hb hx=>?_,I.base.free,fun b o e hx=>?_,I.base.tups,I.base.mq,I.base.mz⟩,⟨_,hn',fun j y v' e1 e2 e3=>?_⟩,fun y c e=>?_,I.free,I.jl,fun p hp=>?_,tracked ⟨oL,hoL,I.free⟩ hs,by simpa using I.len⟩ ⟨_,hs,.inl rfl⟩
   · exact(hs.2 b (Nat.ne_of_lt (bH (Heap.lt_size e) I.ok.above))).trans (I.base.keep b o e n hb hx)
   · obtain⟨sl,e1⟩:=I.base.slot b o e n hb hx;exact⟨sl,(hs.2 b (Nat.ne_of_lt (bH (Heap.lt_size e) I.ok.above))).trans e1⟩
   · obtain⟨o',e1⟩:=I.base.there b o e hx;exact⟨o',(hs.2 b (Nat.ne_of_lt (bH (Heap.lt_size e) I.ok.above))).trans e1⟩
   · by_cases hj:j=i
     · subst hj;rw[hi]at e1;cases e1;rw[List.getElem?_set_self Zb]at e2;cases e2;exact⟨u,r,.inl ⟨hk,by simp⟩⟩
     · rw[List.getElem?_set_ne (Ne.symm hj)]at e2;obtain⟨u',r',q⟩:=hl j y v' e1 e2 e3;refine⟨u',r',?_⟩
       rcases q with ⟨k,e⟩ | ⟨k,c,e,z⟩
       · refine .inl ⟨k,?_⟩;have:y ≠ x:=fun e=>hj (Jv hN e1 (e ▸ hi));simp[this,e]
       · exact .inr ⟨k,c,e,z.sameBut hs (cne y c e)⟩
   · obtain⟨w',z⟩:=I.cell y c e;exact⟨w',z.sameBut hs (cne y c e)⟩
   · obtain⟨e,n,ne,nf,d⟩:=I.pin p hp;exact⟨(hs.2 p.1 ne).trans e,n,ne,nf,d⟩
 · have hfn:X.fn x=true:=by
    rcases hf with z | z
    · exact z
    · rw[z]at hk;cases hk
   obtain⟨c,hc⟩:=I.ok.has x (.inl hk);obtain⟨w',z⟩:=I.cell x c hc;refine wpAny_storeName_cell I.ok.kind hk hc z (fun h' hc' hs=>?_);obtain⟨oc,hoc,acR⟩:=id z;refine h { s with heap:=h' } ⟨I.ok,I.os,I.bare,⟨fun b o e n hb hx=>?_,fun b o e n hb hx=>?_,I.base.free,fun b o e hx=>?_,I.base.tups,I.base.mq,I.base.mz⟩,⟨m,hn.sameBut hs (Ne.symm (cne x c hc)),fun j y v' e1 e2 e3=>?_⟩,fun y c' e=>?_,I.free,I.jl,fun p hp=>?_,tracked ⟨oc,hoc,I.jl x c hc⟩ hs,by simpa using I.len⟩ ⟨c,hs,.inr hc⟩
   · exact(hs.2 b (Nat.ne_of_lt (bH (Heap.lt_size e) (I.ok.cab x c hfn hc)))).trans (I.base.keep b o e n hb hx)
   · obtain⟨sl,e1⟩:=I.base.slot b o e n hb hx;exact⟨sl,(hs.2 b (Nat.ne_of_lt (bH (Heap.lt_size e) (I.ok.cab x c hfn hc)))).trans e1⟩
   · obtain⟨o',e1⟩:=I.base.there b o e hx;exact⟨o',(hs.2 b (Nat.ne_of_lt (bH (Heap.lt_size e) (I.ok.cab x c hfn hc)))).trans e1⟩
   · by_cases hj:j=i
     · subst hj;rw[hi]at e1;cases e1;rw[List.getElem?_set_self Zb]at e2;cases e2;exact⟨u,r,.inr ⟨.inl hk,c,hc,hc'⟩⟩
     · rw[List.getElem?_set_ne (Ne.symm hj)]at e2;obtain⟨u',r',q⟩:=hl j y v' e1 e2 e3;refine⟨u',r',?_⟩
       rcases q with q | ⟨k,c',e,z'⟩
       · exact .inl q
       · refine .inr ⟨k,c',e,z'.sameBut hs ?_⟩;rintro rfl;exact hj (Jv hN e1 (I.ok.inj _ _ _ e hc ▸ hi))
   · by_cases hcc:c'=c
     · subst hcc;exact⟨_,hc'⟩
     · obtain⟨w2,z2⟩:=I.cell y c' e;exact⟨w2,z2.sameBut hs hcc⟩
   · obtain⟨e,n,ne,nf,d⟩:=I.pin p hp;refine⟨(hs.2 p.1 ?_).trans e,n,ne,nf,d⟩;intro q;rw[q,hoc]at e;have q':oc=p.2:=Option.some.inj e;exact d w' (by rw[<- q'];exact acR)
theorem vQ{M:Model}{A:Around}{E:Value->Shared->Prop}{i:Nat}{x:Str}{v:V}{u:Value}{Q:Unit->Shared->Prop}(I:Inv X pins σ H s)(hN:X.N.Nodup)(hi:X.N[i]? =some x)(hx:Loc X.env.scope x)(r:RelV v u)
 (h:∀ s',Inv X pins (σ.set i (some v)) H s'->Q () s') (hf:X.fn x=true\/X.env.scope.names.lookup x=some .local:=by first | exact .inl rfl | exact .inr rfl | assumption):wpAny M A (storeName X.env x u) Q E s:=
 RJ I hN hi hx r (fun s' I' _=>h s' I') hf
theorem Inv.call'{s':Shared}{ch:List Addr}(I:Inv X pins σ H s)(ho:s'.os=s.os)(u:Un (frs X.stack) ch H H' s.heap s'.heap)(hok:HOk X.prog X.w H' s'.heap)(hg:AllBare s'.gens)
 (hch:∀ b ∈ ch,(b ∈ X.ex\/X.s₀.heap.objs.size<=b)/\b ≠ X.env.locals/\(∀ x c,X.env.cells.lookup x=some c->c ≠ b)/\∀ p ∈ X.pn++pins,p.1 ≠ b):Inv X pins σ H' s':=by
 obtain⟨h',g',d',t',o'⟩:=s';have e:o'=s.os:=ho;subst e;exact I.call (g':=g') (t':=t') (d':=d') u hok hg hch
end
noncomputable abbrev XK:=Value->Option Addr->Hp->Prop
noncomputable abbrev St:=List (Option V)
noncomputable abbrev VK:=V->Hp->Prop
noncomputable abbrev TE:=St->Hp->VK->Prop
noncomputable abbrev TT:=St->Hp->(Bool->Hp->Prop)->Prop
noncomputable abbrev TA:=St->Hp->(List V->Hp->Prop)->Prop
structure Ends where
 nx:St->Hp->Prop
 rt:VK
 bk:St->Hp->Prop:=fun _ _=>False
 ct:St->Hp->Prop:=fun _ _=>False
noncomputable abbrev TS:=Ends->St->Hp->Prop
noncomputable def EP(X:Cx)(pins:List (Addr × Obj))(σ:St)(Q:VK)(u:Value)(s':Shared):Prop:=∃ v H',Inv X pins σ H' s'/\RelV v u/\Q v H'
noncomputable def TP(X:Cx)(pins:List (Addr × Obj))(σ:St)(Q:Bool->Hp->Prop)(b:Bool)(s':Shared):Prop:=∃ H',Inv X pins σ H' s'/\Q b H'
noncomputable def AP(X:Cx)(pins:List (Addr × Obj))(σ:St)(Q:List V->Hp->Prop)(us:List Value)(s':Shared):Prop:=∃ vs H',Inv X pins σ H' s'/\Vals vs us/\Q vs H'
noncomputable def SP(X:Cx)(pins:List (Addr × Obj))(D:Ends)(f:Flow)(s':Shared):Prop:=
 match f with
 | .next=>∃ σ' H',Inv X pins σ' H' s'/\D.nx σ' H'
 | .brk=>∃ σ' H',Inv X pins σ' H' s'/\D.bk σ' H'
 | .cont=>∃ σ' H',Inv X pins σ' H' s'/\D.ct σ' H'
 | .ret u=>∃ v σ' H',Inv X pins σ' H' s'/\RelV v u/\D.rt v H'
noncomputable def PE(X:Cx)(e:Expr)(t:TE):Prop:=
 ∀(pins:List (Addr × Obj)) (s:Shared) (σ:St) (H:Hp) (Q:VK),Inv X pins σ H s->t σ H Q->wpAny (model X.prog X.w) X.A (eval e X.env) (EP X pins σ Q) X.xe s
noncomputable def PT(X:Cx)(e:Expr)(t:TT):Prop:=
 ∀(pins:List (Addr × Obj)) (s:Shared) (σ:St) (H:Hp) (Q:Bool->Hp->Prop),Inv X pins σ H s->t σ H Q->wpAny (model X.prog X.w) X.A (isTrue e X.env (eval e X.env)) (TP X pins σ Q) X.xe s
noncomputable def PW(X:Cx)(e:Expr)(t:TT):Prop:=
 ∀(whole:Sem Value) (pins:List (Addr × Obj)) (s:Shared) (σ:St) (H:Hp) (Q:Bool->Hp->Prop),Inv X pins σ H s->t σ H Q->wpAny (model X.prog X.w) X.A (isTrue e X.env whole) (TP X pins σ Q) X.xe s
theorem PW.pt{X:Cx}{e:Expr}{t:TT}(h:PW X e t):PT X e t:=h _
noncomputable def PA(X:Cx)(es:List Expr)(t:TA):Prop:=
 ∀(pos:Pos) (pins:List (Addr × Obj)) (s:Shared) (σ:St) (H:Hp) (Q:List V->Hp->Prop),Inv X pins σ H s->t σ H Q->wpAny (model X.prog X.w) X.A (spliced (backTo pos (starEach es X.env))) (AP X pins σ Q) X.xe s
noncomputable def PS(X:Cx)(st:Stmt)(t:TS):Prop:=
 ∀(pins:List (Addr × Obj)) (s:Shared) (σ:St) (H:Hp) (D:Ends),Inv X pins σ H s->t D σ H->wpAny (model X.prog X.w) X.A (exec st X.env) (SP X pins D) X.xe s
noncomputable def PSs(X:Cx)(st:List Stmt)(t:TS):Prop:=
 ∀(pins:List (Addr × Obj)) (s:Shared) (σ:St) (H:Hp) (D:Ends),Inv X pins σ H s->t D σ H->wpAny (model X.prog X.w) X.A (execs st X.env) (SP X pins D) X.xe s
theorem thn{α:Type}{t:Sem α}{Q Q':α->Shared->Prop}{M:Model}{A:Around}{E:Value->Shared->Prop}{s:Shared}(h:wpAny M A t Q E s)(hQ:∀ a s,Q a s->Q' a s):wpAny M A t Q' E s:=wpAny_mono h hQ fun _ _ x=>x
section
variable{X:Cx}
noncomputable def Zc(i:Nat):TE:=fun σ H Q=>∃ v,σ[i]? =some (some v)/\Q v H
noncomputable def tC(v:V):TE:=fun _ H Q=>Q v H
theorem Cd{i:Nat}{x:Str}{pos:Pos}(hN:X.N[i]? =some x)(hv:Vis X.env.scope x)(hd:(x==("__debug__":Str))=false:=by decide)(hcd:(x==("__classdict__":Str))=false:=by decide):PE X (.Name x pos) (Zc i):=by
 intro pins s σ H Q I h;obtain⟨v,e,h⟩:=h;obtain⟨m,hn,hl⟩:=I.loc;obtain⟨u,r,l⟩:=hl i x v hN e hv;have fin:EP X pins σ Q u s:=⟨v,H,I,r,h⟩
 rcases l with ⟨hk,hm⟩ | ⟨hk,c,hc,hcell⟩
 · exact wpAny_Name (wpAny_loadName_local I.ok.kind hk hn hm fin) hd
 · rcases hk with hk | hk
   · exact wpAny_Name (wpAny_loadName_cell I.ok.kind hk hc hcell fin) hd
   · exact wpAny_Name (wpAny_loadName_free I.ok.kind hk hc hcell fin hcd) hd
theorem cX{i j pos}:PE X (.Constant (.int i) j pos) (tC (.int i)):=fun _ _ _ H _ I h=>wpAny_Constant_int ⟨.int i,H,I.tok _,⟨_,rfl⟩,h⟩
theorem abG{b j pos}:PE X (.Constant (.bool b) j pos) (tC (.bl b)):=fun _ _ _ H _ I h=>Constant_bool ⟨.bl b,H,I,rfl,h⟩
theorem Zd{j pos}:PE X (.Constant .none j pos) (tC .non):=fun _ _ _ H _ I h=>Constant_none ⟨.non,H,I,rfl,h⟩
theorem qM{x j pos}:PE X (.Constant (.str x) j pos) (tC (.str x)):=fun _ _ _ H _ I h=>Calls.Constant_str ⟨.str x,H,I.tok _,⟨_,rfl⟩,h⟩
noncomputable def Gl(X:Cx)(x:Str):Prop:=X.env.kindOf x=some .globalImplicit
theorem o8{E:Value->Shared->Prop}{pins:List (Addr × Obj)}{s:Shared}{σ:St}{H:Hp}{x:Str}{u:Value}{pos:Pos}{Q:Value->Shared->Prop}(I:Inv X pins σ H s)(hg:Gl X x)(hm:X.mg x=some u)(h:Q u s)
 (hd:(x==("__debug__":Str))=false:=by decide):wpAny (model X.prog X.w) X.A (eval (.Name x pos) X.env) Q E s:=
 Calls.Name_function_global I.ok.kind hg (Calls.loadGlobal_global (by rw[I.ok.glob];exact I.mod.glob.keeps I.bk) hm h) hd
theorem qN{E:Value->Shared->Prop}{pins:List (Addr × Obj)}{s:Shared}{σ:St}{H:Hp}{x:Str}{u:Value}{pos:Pos}{Q:Value->Shared->Prop}(I:Inv X pins σ H s)(hg:Gl X x)(hm:X.mg x=none)(hv:bootBuiltins x=some u)(h:Q u s)
 (hn:x ≠ "__name__":=by decide) (hd:(x==("__debug__":Str))=false:=by decide):wpAny (model X.prog X.w) X.A (eval (.Name x pos) X.env) Q E s:=by
 obtain⟨mb,h1,h2⟩:=I.mod.blt;exact Calls.Name_function_global I.ok.kind hg (Calls.loadGlobal_builtin (by rw[I.ok.glob];exact I.mod.glob.keeps I.bk) hm (by rw[I.ok.blt];exact h1.keeps I.bk) ((h2 x hn).trans hv) h) hd
theorem Nb{x:Str}{v:V}{u:Value}{pos:Pos}(hg:Gl X x)(hm:X.mg x=some u)(r:RelV v u)(hd:(x==("__debug__":Str))=false:=by decide):PE X (.Name x pos) (tC v):=
 fun _ _ _ H _ I h=>o8 I hg hm ⟨v,H,I,r,h⟩ hd
theorem Xn{x:Str}{v:V}{u:Value}{pos:Pos}(hg:Gl X x)(hm:X.mg x=none)(hv:bootBuiltins x=some u)(r:RelV v u)(hn:x ≠ "__name__":=by decide)(hd:(x==("__debug__":Str))=false:=by decide):PE X (.Name x pos) (tC v):=
 fun _ _ _ H _ I h=>qN I hg hm hv ⟨v,H,I,r,h⟩ hn hd
variable{a b:Expr}{ta tb:TE}{pos:Pos}
noncomputable def PC(X:Cx)(op:CmpOp)(a b:Expr)(t:TE):Prop:=
 ∀(pins:List (Addr × Obj)) (s:Shared) (σ:St) (H:Hp) (Q:VK),Inv X pins σ H s->t σ H Q->
  wpAny (model X.prog X.w) X.A (eval a X.env) (fun v s₁=>wpAny (model X.prog X.w) X.A (eval b X.env) (fun u s₂=>wpAny (model X.prog X.w) X.A (compareOp op v u) (EP X pins σ Q) X.xe s₂) X.xe s₁) X.xe s
theorem Jw(b:Expr){op:CmpOp}(h:op ≠ .In)(h2:op ≠ .NotIn):behindInMarks op b=false:=by
 have e1:(op==CmpOp.In)=false:=by cases op <;> first | rfl | exact absurd rfl h
 have e2:(op==CmpOp.NotIn)=false:=by cases op <;> first | rfl | exact absurd rfl h2
 cases b <;> simp[behindInMarks,e1,e2]
noncomputable def acS(ta:TE):TE:=fun σ H Q=>ta σ H fun x H1=>Q (.bl (decide (x= .non))) H1
noncomputable def abH(ta:TE):TE:=fun σ H Q=>ta σ H fun x H1=>Q (.bl (!decide (x= .non))) H1
theorem RelV.Jx{x:V}{v:Value}(r:RelV x v):(v==Value.none)=decide (x= .non):=by
 cases x with
 | non=>cases r;rfl
 | bl _=>cases r;rfl
 | int _=>obtain⟨t,rfl⟩:=r;rfl
 | str _=>obtain⟨t,rfl⟩:=r;rfl
 | byt _=>obtain⟨t,rfl⟩:=r;rfl
 | flt _=>obtain⟨t,rfl⟩:=r;rfl
 | ref _=>cases r;rfl
 | ty _=>cases r;rfl
theorem RK{j pos'}(ha:PE X a ta):PC X .Is a (.Constant .none j pos') (acS ta):=by
 intro pins s σ H Q I h;refine thn (ha pins s σ H _ I h) fun v s1 ⟨x,H1,I1,r1,q1⟩=>?_;exact Constant_none (is_none_gen ⟨.bl _,H1,I1,by rw[r1.Jx];rfl,q1⟩)
theorem Nf{j pos'}(ha:PE X a ta):PC X .IsNot a (.Constant .none j pos') (abH ta):=by
 intro pins s σ H Q I h;refine thn (ha pins s σ H _ I h) fun v s1 ⟨x,H1,I1,r1,q1⟩=>?_;exact Constant_none (isnot_none_gen ⟨.bl _,H1,I1,by rw[r1.Jx];rfl,q1⟩)
noncomputable def tB(t:TE):TT:=fun σ H Q=>t σ H fun x H1=>∃ c,x= .bl c/\Q c H1
theorem Ze{op:CmpOp}{t:TE}(h:PC X op a b t)(h1:behindInMarks op b=false:=by first | exact Jw _ (by decide) (by decide) | rfl):PE X (.Compare a [op] [b] pos) t:=fun pins s σ H Q I hw=>wpAny_Compare1 (h pins s σ H Q I hw) h1
theorem Jy{op:CmpOp}{t:TE}(h:PC X op a b t)(h1:behindInMarks op b=false:=by first | exact Jw _ (by decide) (by decide) | rfl):PT X (.Compare a [op] [b] pos) (tB t):=by
 intro pins s σ H Q I hw;refine wpAny_isTrue_Compare1 (thn (h pins s σ H _ I hw) fun v s1 h1=>thn h1 fun u s2 h2=>thn h2 fun c s3 ⟨x,H1,I1,r1,q1⟩=>?_) h1;obtain⟨d,rfl,q⟩:=q1;cases r1;exact wpAny_truthy_bool ⟨H1,I1,q⟩
theorem Zf{e:Expr}{t:TE}(h:PE X e t)(he:∀ whole,isTrue e X.env whole=(do let v <- whole;standAt e.pos;holding [v] (truthy v)):=by intro _;rfl):PT X e (tB t):=by
 intro pins s σ H Q I hw;refine isTrue_plain (thn (h pins s σ H _ I hw) fun v s1 ⟨x,H1,I1,r1,q1⟩=>?_) (he _);obtain⟨d,rfl,q⟩:=q1;cases r1;exact wpAny_truthy_bool ⟨H1,I1,q⟩
variable{tA tB':TT}{rest:List Expr}
noncomputable def Zg(t u:TT):TT:=fun σ H Q=>t σ H fun c H1=>if c=true then u σ H1 Q else Q false H1
noncomputable def tOr(t u:TT):TT:=fun σ H Q=>t σ H fun c H1=>if c=true then Q true H1 else u σ H1 Q
noncomputable def acT(t:TT):TT:=fun σ H Q=>t σ H fun c H1=>Q (!c) H1
theorem pw_and1(ha:PT X a tA):PW X (.BoolOp .And [a] pos) tA:=by
 intro wh pins s σ H Q I h;refine isTrue_and (thn (ha pins s σ H Q I h) fun c s1 e=>?_)
 cases c with
 | true=>exact isTrue_and_nil e
 | false=>exact e
theorem pw_or1(ha:PT X a tA):PW X (.BoolOp .Or [a] pos) tA:=by
 intro wh pins s σ H Q I h;refine isTrue_or (thn (ha pins s σ H Q I h) fun c s1 e=>?_)
 cases c with
 | false=>exact isTrue_or_nil e
 | true=>exact e
theorem pw_and(ha:PT X a tA)(hb:PW X (.BoolOp .And (b::rest) pos) tB'):PW X (.BoolOp .And (a::b::rest) pos) (Zg tA tB'):=by
 intro wh pins s σ H Q I h;refine isTrue_and (thn (ha pins s σ H _ I h) fun c s1 ⟨H1,I1,q1⟩=>?_)
 cases c with
 | true=>exact hb wh pins s1 σ H1 Q I1 q1
 | false=>exact⟨H1,I1,q1⟩
theorem pw_or(ha:PT X a tA)(hb:PW X (.BoolOp .Or (b::rest) pos) tB'):PW X (.BoolOp .Or (a::b::rest) pos) (tOr tA tB'):=by
 intro wh pins s σ H Q I h;refine isTrue_or (thn (ha pins s σ H _ I h) fun c s1 ⟨H1,I1,q1⟩=>?_)
 cases c with
 | true=>exact⟨H1,I1,q1⟩
 | false=>exact hb wh pins s1 σ H1 Q I1 q1
theorem RL(ha:PT X a tA):PT X (.UnaryOp .Not a pos) (acT tA):=by
 intro pins s σ H Q I h;exact isTrue_not (ha pins s σ H (fun c H1=>Q (!c) H1) I h)
noncomputable def Wr(ta tb:TE):TE:=fun σ H Q=>ta σ H fun x H1=>∃ c,x= .bl c/\if c=true then tb σ H1 Q else Q (.bl false) H1
noncomputable def acU(ta tb:TE):TE:=fun σ H Q=>ta σ H fun x H1=>∃ c,x= .bl c/\if c=true then Q (.bl true) H1 else tb σ H1 Q
noncomputable def abI(ta:TE):TE:=fun σ H Q=>ta σ H fun x H1=>∃ c,x= .bl c/\Q (.bl (!c)) H1
theorem uY{op}{t:TE}(h:PE X a t):PE X (.BoolOp op [a] pos) t:=fun pins s σ H Q I hw=>BoolOp_one (h pins s σ H Q I hw)
theorem Zh(ha:PE X a ta)(hb:PE X (.BoolOp .And (b::rest) pos) tb):PE X (.BoolOp .And (a::b::rest) pos) (Wr ta tb):=by
 intro pins s σ H Q I h;refine BoolOp_and (thn (ha pins s σ H _ I h) fun v s1 ⟨x,H1,I1,r1,q1⟩=>?_);obtain⟨c,rfl,q1⟩:=q1;cases r1;refine wpAny_truthy_bool ?_
 cases c with
 | true=>exact hb pins s1 σ H1 Q I1 q1
 | false=>exact⟨.bl false,H1,I1,rfl,q1⟩
theorem Zi(ha:PE X a ta):PE X (.UnaryOp .Not a pos) (abI ta):=by
 intro pins s σ H Q I h;refine UnaryOp_ (thn (ha pins s σ H _ I h) fun v s1 ⟨x,H1,I1,r1,q1⟩=>?_);obtain⟨c,rfl,q1⟩:=q1;cases r1;exact not_of (wpAny_truthy_bool ⟨.bl (!c),H1,I1,rfl,q1⟩)
noncomputable def tIf(t:TT)(ta tb:TE):TE:=fun σ H Q=>t σ H fun c H1=>if c=true then ta σ H1 Q else tb σ H1 Q
theorem Jz{c:Expr}(hc:PT X c tA)(ha:PE X a ta)(hb:PE X b tb):PE X (.IfExp c a b pos) (tIf tA ta tb):=by
 intro pins s σ H Q I h;refine wpAny_IfExp (thn (hc pins s σ H _ I h) fun d s1 ⟨H1,I1,q1⟩=>?_)
 cases d with
 | true=>exact ha pins s1 σ H1 Q I1 q1
 | false=>exact hb pins s1 σ H1 Q I1 q1
end
noncomputable def SqL(K:ak)(H:Hp)(a:Addr)(xs:List V):Prop:=
 Rd H a (.lst xs)\/
  ∃(o:Obj) (its:Array Value) (n:Nat),K.lookup a=some o/\o.cls= .type "list"/\o.dict=none/\o.data= .seq its n/\its.size<=sizeLine/\Vals xs its.toList
noncomputable def SqT(K:ak)(H:Hp)(a:Addr)(xs:List V):Prop:=
 Rd H a (.tup xs)\/
  ∃(o:Obj) (its:Array Value) (n:Nat),K.lookup a=some o/\o.cls= .type "tuple"/\o.data= .seq its n/\its.size<=sizeLine/\Vals xs its.toList
noncomputable def acV:Value->Option V
 | .none=>some .non
 | .bool b=>some (.bl b)
 | .int i _=>some (.int i)
 | .str x _=>some (.str x)
 | .bytes b _=>some (.byt b)
 | .float b _=>some (.flt b)
 | .ref a=>some (.ref a)
 | .type n=>some (.ty n)
 | _=>none
theorem RelV.abs{x:V}{u:Value}(r:RelV x u):acV u=some x:=by
 cases x with
 | non=>cases r;rfl
 | bl _=>cases r;rfl
 | int _=>obtain⟨t,rfl⟩:=r;rfl
 | str _=>obtain⟨t,rfl⟩:=r;rfl
 | byt _=>obtain⟨t,rfl⟩:=r;rfl
 | flt _=>obtain⟨t,rfl⟩:=r;rfl
 | ref _=>cases r;rfl
 | ty _=>cases r;rfl
theorem RelV.inj{x y:V}{u:Value}(r:RelV x u)(q:RelV y u):x=y:=Option.some.inj (r.abs.symm.trans q.abs)
theorem Vals.inj:∀ {xs ys:List V} {us:List Value},Vals xs us->Vals ys us->xs=ys
 | _,_,_,.nil,.nil=>rfl
 | _,_,_,.cons r t,.cons r' t'=>by rw[r.inj r',Vals.inj t t']
section
variable{X:Cx}{pins:List (Addr × Obj)}{σ:St}{H:Hp}{s:Shared}{a:Addr}{xs ys:List V}
theorem SqL.of{K:ak}(h:H a=some (.lst xs)):SqL K H a xs:=.inl (.inl h)
theorem SqT.of{K:ak}(h:H a=some (.tup xs)):SqT K H a xs:=.inl (.inl h)
theorem Inv.list(I:Inv X pins σ H s)(h:SqL X.K H a xs):∃ its:List Value,Vals xs its/\PlainL s.heap a its.toArray/\xs.length<=sizeLine:=by
 rcases h with h | ⟨o,its,n,hk,hc,hd,hs,hz,r⟩
 · obtain⟨z,its,n,r,e⟩:=h.ok I.hok;exact⟨its,r,⟨_,n,e,rfl,rfl,rfl⟩,z⟩
 · refine⟨its.toList,r,⟨o,n,I.kIn a o hk,hc,hd,by simpa using hs⟩,?_⟩;have e:=r.length;simp only[Array.length_toList]at e;omega
theorem Inv.tuple(I:Inv X pins σ H s)(h:SqT X.K H a xs):∃ its:List Value,Vals xs its/\IsTup s.heap a its.toArray/\xs.length<=sizeLine:=by
 rcases h with h | ⟨o,its,n,hk,hc,hs,hz,r⟩
 · obtain⟨z,its,r,p⟩:=h.ok I.hok;exact⟨its,r,p,z⟩
 · refine⟨its.toList,r,⟨o,I.kIn a o hk,hc,n,by simpa using hs⟩,?_⟩;have e:=r.length;simp only[Array.length_toList]at e;omega
theorem Inv.Ay(I:Inv X pins σ H s)(h:SqL X.K H a xs)(h':SqL X.K H a ys):xs=ys:=by
 obtain⟨its,r,⟨o,n,e,_,_,d⟩,_⟩:=I.list h;obtain⟨its',r',⟨o',n',e',_,_,d'⟩,_⟩:=I.list h';rw[e]at e';cases e';rw[d]at d';injection d' with d1 _;have:its=its':=by simpa using congrArg Array.toList d1
 subst this;exact r.inj r'
theorem Inv.RM(I:Inv X pins σ H s)(h:SqT X.K H a xs)(h':SqT X.K H a ys):xs=ys:=by
 obtain⟨its,r,⟨o,e,_,n,d⟩,_⟩:=I.tuple h;obtain⟨its',r',⟨o',e',_,n',d'⟩,_⟩:=I.tuple h';rw[e]at e';cases e';rw[d]at d';injection d' with d1 _;have:its=its':=by simpa using congrArg Array.toList d1
 subst this;exact r.inj r'
end
noncomputable abbrev Cx.wish(X:Cx)(E:Value->Shared->Prop):Cx:={ X with xe:=E }
noncomputable abbrev Cx.nox(X:Cx):Cx:=X.wish fun _ _=>False
theorem Cx.Ok.wish{X:Cx}(ok:X.Ok)(E:Value->Shared->Prop):(X.wish E).Ok:=
 ⟨ok.mod,ok.kind,ok.glob,ok.blt,ok.above,ok.inj,ok.has,ok.cab,ok.hd,ok.frames,ok.stk,ok.exf,ok.bs,ok.bsz,ok.uE,ok.x_,ok.mC,ok.frf⟩
theorem Cx.Ok.qO{X:Cx}{E:Value->Shared->Prop}(ok:(X.wish E).Ok):X.Ok:=
 ⟨ok.mod,ok.kind,ok.glob,ok.blt,ok.above,ok.inj,ok.has,ok.cab,ok.hd,ok.frames,ok.stk,ok.exf,ok.bs,ok.bsz,ok.uE,ok.x_,ok.mC,ok.frf⟩
section
variable{X:Cx}{pins:List (Addr × Obj)}{σ:St}{H:Hp}{s:Shared}{E:Value->Shared->Prop}
theorem Inv.wish(I:Inv X pins σ H s)(E:Value->Shared->Prop):Inv (X.wish E) pins σ H s:=⟨I.ok.wish E,I.os,I.bare,I.base,I.loc,I.cell,I.free,I.jl,I.pin,I.hok,I.len⟩
theorem Inv.qO(I:Inv (X.wish E) pins σ H s):Inv X pins σ H s:=⟨I.ok.qO,I.os,I.bare,I.base,I.loc,I.cell,I.free,I.jl,I.pin,I.hok,I.len⟩
theorem SP.qO{D:Ends}{f:Flow}{s':Shared}(h:SP (X.wish E) pins D f s'):SP X pins D f s':=by
 cases f with
 | next=>obtain⟨σ',H',I,q⟩:=h;exact⟨σ',H',I.qO,q⟩
 | brk=>obtain⟨σ',H',I,q⟩:=h;exact⟨σ',H',I.qO,q⟩
 | cont=>obtain⟨σ',H',I,q⟩:=h;exact⟨σ',H',I.qO,q⟩
 | ret u=>obtain⟨v,σ',H',I,r,q⟩:=h;exact⟨v,σ',H',I.qO,r,q⟩
theorem PSs.nox{st:List Stmt}{t:TS}(h:PSs X.nox st t):PSs X st t:=fun pins s σ H D I hw=>
 wpAny_mono (h pins s σ H D (I.wish _) hw) (fun _ _ q=>q.qO) fun _ _ z=>False.elim z
end
section
variable{X:Cx}{st:Stmt}{rest:List Stmt}{t u:TS}{e:Expr}{te:TE}{pos:Pos}
noncomputable def abJ:TS:=fun D σ H=>D.nx σ H
noncomputable def acW(t u:TS):TS:=fun D σ H=>t { D with nx:=u D } σ H
theorem uZ:PSs X [] abJ:=fun _ _ σ H _ I h=>wpAny_execs_nil ⟨σ,H,I,h⟩
theorem cJ(h1:PS X st t)(h2:PSs X rest u):PSs X (st::rest) (acW t u):=by
 intro pins s σ H D I h;refine wpAny_execs_cons (thn (h1 pins s σ H { D with nx:=u D } I h) fun f s1 q=>?_)
 cases f with
 | next=>
   obtain⟨σ',H',I',q⟩:=q
   exact h2 pins s1 σ' H' D I' q
 | ret v=>exact q
 | brk=>exact q
 | cont=>exact q
theorem b7(h1:PS X st t):PSs X [st] t:=by
 intro pins s σ H D I h;refine wpAny_execs_cons (thn (h1 pins s σ H D I h) fun f s1 q=>?_)
 cases f with
 | next=>exact wpAny_execs_nil q
 | ret v=>exact q
 | brk=>exact q
 | cont=>exact q
noncomputable def abK:TS:=fun D σ H=>D.ct σ H
theorem Mt:PS X (.Continue pos) abK:=fun _ _ σ H _ I h=>wpAny_Continue ⟨σ,H,I,h⟩
theorem Inv.quiet{pins:List (Addr × Obj)}{σ:St}{H:Hp}{s:Shared}(I:Inv X pins σ H s):interactive X.env=false:=by simp[interactive,I.ok.kind]
noncomputable def abL(te:TE):TS:=fun D σ H=>te σ H fun _ H1=>D.nx σ H1
theorem jH(he:PE X e te)(hs:swapsWith e none pos.line X.env=pure false:=by rfl):PS X (.Expr e pos) (abL te):=by
 intro pins s σ H D I h;exact wpAny_Expr_any (thn (he pins s σ H _ I h) fun v s1 ⟨x,H1,I1,r1,q1⟩=>⟨σ,H1,I1,q1⟩) I.quiet hs
noncomputable def acX(te:TE):TS:=fun D σ H=>te σ H D.rt
theorem kj(he:PE X e te):PS X (.Return (some e) pos) (acX te):=by
 intro pins s σ H D I h;exact wpAny_Return_some (thn (he pins s σ H _ I h) fun v s1 ⟨x,H1,I1,r1,q1⟩=>⟨x,σ,H1,I1,r1,q1⟩)
noncomputable def acY(c:TT)(t u:TS):TS:=fun D σ H=>c σ H fun b H1=>if b=true then t D σ H1 else u D σ H1
theorem zy{c:Expr}{a b:List Stmt}{tc:TT}(hc:PT X c tc)(ha:PSs X a t)(hb:PSs X b u):PS X (.If c a b pos) (acY tc t u):=by
 intro pins s σ H D I h;refine wpAny_If (thn (hc pins s σ H _ I h) fun d s1 ⟨H1,I1,q1⟩=>?_)
 cases d with
 | true=>exact ha pins s1 σ H1 D I1 q1
 | false=>exact hb pins s1 σ H1 D I1 q1
end
noncomputable abbrev TG:=V->St->Hp->(St->Hp->Prop)->Prop
noncomputable abbrev TGs:=List V->St->Hp->(St->Hp->Prop)->Prop
noncomputable def PG(X:Cx)(target:Expr)(t:TG):Prop:=
 ∀(pins:List (Addr × Obj)) (s:Shared) (σ:St) (H:Hp) (v:V) (u:Value) (Q:St->Hp->Prop),Inv X pins σ H s->RelV v u->t v σ H Q->
  wpAny (model X.prog X.w) X.A (assign target X.env u) (fun _ s'=>∃ σ' H',Inv X pins σ' H' s'/\Q σ' H') X.xe s
noncomputable def PGs(X:Cx)(ts:List Expr)(t:TGs):Prop:=
 ∀(pins:List (Addr × Obj)) (s:Shared) (σ:St) (H:Hp) (vs:List V) (us:List Value) (Q:St->Hp->Prop),Inv X pins σ H s->Vals vs us->t vs σ H Q->
  wpAny (model X.prog X.w) X.A (assignInOrder ((assignEach ts X.env).map (·.2)) us) (fun _ s'=>∃ σ' H',Inv X pins σ' H' s'/\Q σ' H') X.xe s
section
variable{X:Cx}{pos:Pos}
noncomputable def Jc(i:Nat):TG:=fun v σ H Q=>Q (σ.set i (some v)) H
theorem ql{i:Nat}{x:Str}(hN:X.N.Nodup)(hi:X.N[i]? =some x)(hx:Loc X.env.scope x)(hf:X.fn x=true\/X.env.scope.names.lookup x=some .local:=by first | exact .inl rfl | exact .inr rfl | assumption):PG X (.Name x pos) (Jc i):=by
 intro pins s σ H v u Q I r h;exact wpAny_assign_Name (vQ I hN hi hx r (fun s' I'=>⟨_,H,I',h⟩) hf)
noncomputable def acZ:TGs:=fun vs σ H Q=>vs= []/\Q σ H
noncomputable def abM(t:TG)(u:TGs):TGs:=fun vs σ H Q=>∃ v r,vs=v::r/\t v σ H fun σ' H'=>u r σ' H' Q
theorem Xo:PGs X [] acZ:=by
 intro pins s σ H vs us Q I r h;obtain⟨e,h⟩:=h;subst e;cases r;exact assignInOrder_nil ⟨σ,H,I,h⟩
theorem Ux{e:Expr}{es:List Expr}{t:TG}{u:TGs}(h1:PG X e t)(h2:PGs X es u)
 (hs:(assignEach (e::es) X.env).map (·.2)=assign e X.env::(assignEach es X.env).map (·.2):=by rfl):PGs X (e::es) (abM t u):=by
 intro pins s σ H vs us Q I r h;obtain⟨v,vr,e1,h⟩:=h;subst e1
 cases r with
 | cons r rr=>
   rw[hs];refine assignInOrder_cons (thn (h1 pins s σ H _ _ _ I r h) fun _ s1 ⟨σ1,H1,I1,q1⟩=>?_);exact h2 pins s1 σ1 H1 _ _ Q I1 rr q1
noncomputable def ac0(K:ak)(n:Nat)(t:TGs):TG:=fun v σ H Q=>∃ a xs,v= .ref a/\SqT K H a xs/\xs.length=n/\t xs σ H Q
theorem Zj{es:List Expr}{k:Nat}{t:TGs}{n:Nat}(hc:X.calm=true)(h:PGs X es t)
 (hn:(assignEach es X.env).length=n:=by rfl) (hst:(assignEach es X.env).findIdx? (·.1)=none:=by rfl):PG X (.Tuple es k pos) (ac0 X.K n t):=by
 intro pins s σ H v u Q I r hw;obtain⟨a,xs,e1,hq,hl,hw⟩:=hw;subst e1;cases r;obtain⟨its,rv,ht,hz⟩:=I.tuple hq;refine assign_Tuple_tuple (I.ok.hd hc) ht (by simp[hn,<- hl,rv.length]) hst fun h' hx=>?_;have I1:Inv X pins σ H { s with heap:=h' }:=I.kept (t':=s.toks) fun b o e=>hx b o (Nat.ne_of_lt (Heap.lt_size e)) e;exact h pins _ σ H xs _ Q I1 (by simpa using rv) hw
noncomputable def O_(te:TE)(g:TG):TS:=fun D σ H=>te σ H fun x H1=>g x σ H1 D.nx
theorem Zk{tg e:Expr}{te:TE}{g:TG}(he:PE X e te)(hg:PG X tg g)(hs:swapsWithSole [tg] e pos.line X.env=pure false:=by rfl)(hw:swappedStores [tg] e X.env=pure none:=by rfl)
 (h1:(assignEach [tg] X.env).map (·.2)= [assign tg X.env]:=by rfl):PS X (.Assign [tg] e pos) (O_ te g):=by
 intro pins s σ H D I h;refine wpAny_Assign_stores (thn (he pins s σ H _ I h) fun v s1 ⟨x,H1,I1,r1,q1⟩=>?_) hs hw;rw[h1];exact thn (hg pins s1 σ H1 x v _ I1 r1 q1) fun _ s2 q=>q
theorem pF{i:Nat}{x:Str}{e:Expr}{te:TE}{pos':Pos}(hN:X.N.Nodup)(hi:X.N[i]? =some x)(hx:Loc X.env.scope x)(he:PE X e te)(hs:swapsWith e (some (.Name x pos')) pos.line X.env=pure false:=by rfl)(hf:X.fn x=true\/X.env.scope.names.lookup x=some .local:=by first | exact .inl rfl | exact .inr rfl | assumption):
 PS X (.Assign [.Name x pos'] e pos) (O_ te (Jc i)):=by
 intro pins s σ H D I h;refine wpAny_Assign_Name (thn (he pins s σ H _ I h) fun v s1 ⟨y,H1,I1,r1,q1⟩=>?_) hs;exact vQ I1 hN hi hx r1 (fun s2 I2=>⟨_,H1,I2,q1⟩) hf
end
section
variable{X:Cx}{pos:Pos}
noncomputable def RN(c:TT)(tb:TS):TS:=fun D σ H=>∃ W:Nat->St->Hp->Prop,(∃ m,W m σ H)/\∀ m σ H,W m σ H->
 c σ H fun b H1=>if b=true then ∃ N:St->Hp->Prop,(∀ σ' H',N σ' H'->∃ m',m'<m/\W m' σ' H')/\tb { D with nx:=N,ct:=N,bk:=D.nx } σ H1 else D.nx σ H1
theorem Uy{c:Expr}{body:List Stmt}{tc:TT}{tb:TS}(hp:PassesOwn (model X.prog X.w) X.A X.env X.xe)(hc:PT X c tc)(hb:PSs X body tb):PS X (.While c body [] pos) (RN tc tb):=by
 intro pins s σ H D I h;obtain⟨W,⟨m0,w0⟩,turn⟩:=h;refine wpAny_While (codeAny_whileLoop (fun n s'=>∃ σ' H',Inv X pins σ' H' s'/\W n σ' H') ?_ m0 ⟨σ,H,I,w0⟩);rintro n s1 ⟨σ1,H1,I1,w1⟩;refine wpAny_passesOwn hp (thn (hc pins s1 σ1 H1 _ I1 (turn n σ1 H1 w1)) fun b s2 ⟨H2,I2,q2⟩=>?_)
 cases b with
 | true=>
   obtain⟨N,hN,q2⟩:=q2;rw[if_pos rfl];refine wpAny_passesOwn hp (thn (hb pins s2 σ1 H2 _ I2 q2) fun f s3 q3=>?_)
   cases f with
   | next=>
     obtain⟨σ3,H3,I3,n3⟩:=q3;obtain⟨m',hm,w3⟩:=hN σ3 H3 n3
     exact⟨m',hm,σ3,H3,I3,w3⟩
   | cont=>
     obtain⟨σ3,H3,I3,n3⟩:=q3;obtain⟨m',hm,w3⟩:=hN σ3 H3 n3
     exact⟨m',hm,σ3,H3,I3,w3⟩
   | brk=>exact q3
   | ret v=>exact q3
 | false=>
   rw[if_neg Bool.false_ne_true];exact wpAny_execs_nil ⟨σ1,H2,I2,q2⟩
end
structure It where
 go:Nat->Hp->Prop
 yld:Nat->Hp->V->Hp->Prop
 stop:Nat->Hp->Prop
noncomputable def nW(X:Cx)(pins:List (Addr × Obj))(H:Hp)(b:Addr):Prop:=
 H b=none/\b ≠ X.env.locals/\b ∉ X.fs/\(b ∈ X.ex\/X.s₀.heap.objs.size<=b)/\(∀ x c,X.env.cells.lookup x=some c->c ≠ b)/\∀ p ∈ X.pn++pins,p.1 ≠ b
theorem Inv.JB{X:Cx}{pins:List (Addr × Obj)}{σ:St}{H H':Hp}{s:Shared}{b:Addr}(I:Inv X pins σ H s)(hb:s.heap.objs.size<=b)(hn:H' b=none):nW X pins H' b:=by
 refine⟨hn,Nat.ne_of_gt (bH I.lt hb),I.Za hb,.inr (Nat.le_trans I.sz hb),fun x c e z=>?_,fun p hp z=>?_⟩
 · obtain⟨v,q⟩:=I.cell x c e;exact absurd (bH q.lt (by rw[z];exact hb)) (Nat.lt_irrefl _)
 · exact absurd (bH (Heap.lt_size (I.pin p hp).1) (by rw[z];exact hb)) (Nat.lt_irrefl _)
structure Turn (P:Program)(w:World)(K:ak)(tg:Expr)(J:It)(fp:List Addr)(it:Addr)(tn:Nat->Heap->Prop):Prop where
 mem:it ∈ fp
 obj:∀ i h,tn i h->∀ b ∈ fp,∃ o,h.get? b=some o/\∀ v,o.data ≠ .cell v
 keep:∀ i h h',tn i h->(∀ b ∈ fp,∀ o,h.get? b=some o->h'.get? b=some o)->tn i h'
 item:∀(X:Cx),X.prog=P->X.w=w->X.K=K->X.calm=true->∀(i:Nat) (pins:List (Addr × Obj)) (s:Shared) (σ:St) (H:Hp) (E:Value->Shared->Prop),Inv X pins σ H s->(∀ b ∈ fp,nW X pins H b)->tn i s.heap->J.go i H->
  wpAny (model P w) X.A (pyNext (.ref it)) (fun r s1=>∃ u,r=some u/\
   wpAny (model P w) X.A (letOwnedTupleGo tg (.ref it) u) (fun _ s2=>∃ x H',Inv X pins σ H' s2/\RelV x u/\J.yld i H x H'/\tn (i+1) s2.heap/\∀ b ∈ fp,H' b=none) E s1) E s
 done:∀(X:Cx),X.prog=P->X.w=w->X.K=K->X.calm=true->∀(i:Nat) (pins:List (Addr × Obj)) (s:Shared) (σ:St) (H:Hp) (E:Value->Shared->Prop),Inv X pins σ H s->(∀ b ∈ fp,nW X pins H b)->tn i s.heap->J.stop i H->
  wpAny (model P w) X.A (pyNext (.ref it)) (fun r s1=>r=none/\Inv X pins σ H s1) E s
 self:∀(A:Around) (i:Nat) (s:Shared) (Q:Value->Shared->Prop) (E:Value->Shared->Prop),tn i s.heap->Q (.ref it) s->wpAny (model P w) A (pyIter (.ref it)) Q E s
noncomputable abbrev TI:=St->Hp->(It->Hp->Prop)->Prop
noncomputable def PIE(X:Cx)(pins:List (Addr × Obj))(σ:St)(tg:Expr)(R:It->Hp->Prop)(itv:Value)(s2:Shared):Prop:=
 ∃(it:Addr) (fp:List Addr) (tn:Nat->Heap->Prop) (J:It) (H':Hp),itv= .ref it/\Inv X pins σ H' s2/\Turn X.prog X.w X.K tg J fp it tn/\tn 0 s2.heap/\(∀ b ∈ fp,nW X pins H' b)/\R J H'
noncomputable def PI(X:Cx)(tg iter:Expr)(wi:TI):Prop:=
 ∀(pins:List (Addr × Obj)) (s:Shared) (σ:St) (H:Hp) (R:It->Hp->Prop),Inv X pins σ H s->wi σ H R->
  wpAny (model X.prog X.w) X.A (eval iter X.env) (fun v s1=>wpAny (model X.prog X.w) X.A (pyIter v) (PIE X pins σ tg R) X.xe s1) X.xe s
theorem Jd{M:Model}{A:Around}{E:Value->Shared->Prop}{s:Shared}{tg:Expr}{it:Addr}{u:Value}{o:Obj}{n:String}{vs:Array Value}{Q:Unit->Shared->Prop}(ho:s.heap.get? it=some o)(hc:o.cls= .type n)(hd:o.data= .fields vs)
 (hn:["enumerate","zip","dict_itemiterator","dict_reverseitemiterator","odict_iterator","itertools.zip_longest","itertools.pairwise"].contains n=false) (hQ:Q () s):wpAny M A (letOwnedTupleGo tg (.ref it) u) Q E s:=by
 unfold letOwnedTupleGo
 cases tg <;> first
  | exact wpAny_pure hQ
  | (cases u <;> first
      | exact wpAny_pure hQ
      | (refine wpAny_bind (wpAny_load ho ?_)
         rw[hc,hd];show wpAny M A (if(["enumerate","zip","dict_itemiterator","dict_reverseitemiterator","odict_iterator","itertools.zip_longest","itertools.pairwise"].contains n&&vs[0]? == some (rawInt _))=true then _ else _) Q E s;rw[if_neg (by intro h;rw[hn,Bool.false_and]at h;cases h)]
         exact wpAny_pure hQ))
noncomputable def Itl(K:ak)(a:Addr):It:=
 ⟨fun i H=>∃ xs x,SqL K H a xs/\xs[i]? =some x,fun i H x H'=>H'=H/\∀ xs,SqL K H a xs->xs[i]? =some x,fun i H=>∃ xs,SqL K H a xs/\xs.length<=i⟩
noncomputable def Itt(K:ak)(a:Addr):It:=
 ⟨fun i H=>∃ xs x,SqT K H a xs/\xs[i]? =some x,fun i H x H'=>H'=H/\∀ xs,SqT K H a xs->xs[i]? =some x,fun i H=>∃ xs,SqT K H a xs/\xs.length<=i⟩
noncomputable def Itr(lo:Int)(n:Nat):It:=⟨fun i _=>i<n,fun i H x H'=>H'=H/\x= .int (lo+i),fun i _=>n<=i⟩
theorem RP{P:Program}{w:World}{K:ak}{tg:Expr}(a it:Addr):Turn P w K tg (Itl K a) [it] it (fun i h=>h.IsListIter it a i) where
 mem:=by simp
 obj:=fun i h st b hb=>by
  have e:b=it:=by simpa using hb
  subst e;obtain⟨o,e,c,d⟩:=st;exact⟨o,e,fun v z=>by rw[d]at z;cases z⟩
 keep:=fun i h h' st k=>st.at fun o e=>k it (by simp) o e
 item:=by
  intro X hP hw hK hc i pins s σ H E I hf st hg;subst hP hw hK;obtain⟨xs,x,hq,hx⟩:=hg;obtain⟨its,rv,p,hz⟩:=I.list hq;obtain⟨u,hu,ru⟩:=rv.get hx;obtain⟨f0,f1,f2,f3,f4,f5⟩:=hf it (by simp);refine wpAny_pyNext_list_item st p.isList (x:=u) (by simpa using hu) fun h' st' sb=>?_;have I1:Inv X pins σ H { s with heap:=h' }:=I.turned (t':=s.toks) (fun b o hb e=>(sb.2 b hb).trans e) f0 f1 f3 f4 f5;obtain⟨o,e,c,d⟩:=id st';exact⟨u,rfl,Jd (s:={ s with heap:=h' }) e c d (by decide) ⟨x,H,I1,ru,⟨rfl,fun ys hy=>by rw[I.Ay hy hq];exact hx⟩,st',fun b hb=>(hf b hb).1⟩⟩
 done:=by
  intro X hP hw hK hc i pins s σ H E I hf st hg;subst hP hw hK;obtain⟨xs,hq,hx⟩:=hg;obtain⟨its,rv,p,hz⟩:=I.list hq;obtain⟨f0,f1,f2,f3,f4,f5⟩:=hf it (by simp);have hl:=rv.length;exact wpAny_pyNext_list_end (I.ok.hd hc) st p.isList (by simp;omega) fun h' eb=>⟨rfl,I.turned (t':=s.toks) (fun b o hb e=>eb b o hb e) f0 f1 f3 f4 f5⟩
 self:=fun _ _ _ _ _ st h=>wpAny_pyIter_listiter st h
theorem Pa{P:Program}{w:World}{K:ak}{tg:Expr}(a it:Addr):Turn P w K tg (Itt K a) [it] it (fun i h=>h.IsTupleIter it a i) where
 mem:=by simp
 obj:=fun i h st b hb=>by
  have e:b=it:=by simpa using hb
  subst e;obtain⟨o,e,c,d⟩:=st;exact⟨o,e,fun v z=>by rw[d]at z;cases z⟩
 keep:=fun i h h' st k=>st.at fun o e=>k it (by simp) o e
 item:=by
  intro X hP hw hK hc i pins s σ H E I hf st hg;subst hP hw hK;obtain⟨xs,x,hq,hx⟩:=hg;obtain⟨its,rv,p,hz⟩:=I.tuple hq;obtain⟨u,hu,ru⟩:=rv.get hx;obtain⟨f0,f1,f2,f3,f4,f5⟩:=hf it (by simp);refine wpAny_pyNext_tuple_item st (show s.heap.IsTuple a its.toArray from p) (x:=u) (by simpa using hu) fun h' st' sb=>?_;have I1:Inv X pins σ H { s with heap:=h' }:=I.turned (t':=s.toks) (fun b o hb e=>(sb.2 b hb).trans e) f0 f1 f3 f4 f5;obtain⟨o,e,c,d⟩:=id st';exact⟨u,rfl,Jd (s:={ s with heap:=h' }) e c d (by decide) ⟨x,H,I1,ru,⟨rfl,fun ys hy=>by rw[I.RM hy hq];exact hx⟩,st',fun b hb=>(hf b hb).1⟩⟩
 done:=by
  intro X hP hw hK hc i pins s σ H E I hf st hg;subst hP hw hK;obtain⟨xs,hq,hx⟩:=hg;obtain⟨its,rv,p,hz⟩:=I.tuple hq;obtain⟨f0,f1,f2,f3,f4,f5⟩:=hf it (by simp);have hl:=rv.length;exact wpAny_pyNext_tuple_end (I.ok.hd hc) st (show s.heap.IsTuple a its.toArray from p) (by simp;omega) fun h' eb=>⟨rfl,I.turned (t':=s.toks) (fun b o hb e=>eb b o hb e) f0 f1 f3 f4 f5⟩
 self:=fun _ _ _ _ _ st h=>wpAny_pyIter_tupleiter st h
theorem Pb{P:Program}{w:World}{K:ak}{tg:Expr}(it:Addr)(lo:Int)(n:Nat):Turn P w K tg (Itr lo n) [it] it (fun i h=>IsRangeIter h it (lo+(i:Nat)*1) ((n:Int) - (i:Nat)) 1) where
 mem:=by simp
 obj:=fun i h st b hb=>by
  have e:b=it:=by simpa using hb
  subst e
  exact⟨_,st,fun v z=>by
   have z':Data.fields _=Data.cell v:=z
   cases z'⟩
 keep:=fun i h h' st k=>k it (by simp) _ st
 item:=by
  intro X hP hw hK hc i pins s σ H E I hf st hg;subst hP hw hK;obtain⟨f0,f1,f2,f3,f4,f5⟩:=hf it (by simp);have W:=Walks.range (prog:=X.prog) (w:=X.w) (I.ok.hd hc) it lo 1 n;refine W.item i s _ _ hg st fun v h' tk hv st' kk=>?_;obtain⟨t,rfl⟩:=hv;have I1:Inv X pins σ H { s with heap:=h',toks:=tk }:=I.turned (fun b o hb e=>kk b o (by simpa using hb) e) f0 f1 f3 f4 f5;refine⟨_,rfl,Jd (s:={ s with heap:=h',toks:=tk }) (n:="range_iterator") st' rfl rfl (by decide) ⟨.int (lo+i),H,I1,⟨t,?_⟩,⟨rfl,rfl⟩,st',fun b hb=>(hf b hb).1⟩⟩;rw[Int.mul_one]
 done:=by
  intro X hP hw hK hc i pins s σ H E I hf st hg;subst hP hw hK;obtain⟨f0,f1,f2,f3,f4,f5⟩:=hf it (by simp);exact wpAny_pyNext_range_end (I.ok.hd hc) st (by have:n<=i:=hg;omega) fun h' eb=>⟨rfl,I.turned (t':=s.toks) (fun b o hb e=>eb b o hb e) f0 f1 f3 f4 f5⟩
 self:=fun _ _ _ _ _ st h=>wpAny_pyIter_rangeiter st h
section
variable{X:Cx}{tg:Expr}
noncomputable def Ph(K:ak)(tl:TE):TI:=fun σ H R=>tl σ H fun x H1=>∃ a,x= .ref a/\(∃ xs,SqL K H1 a xs)/\R (Itl K a) H1
noncomputable def Uz(K:ak)(tl:TE):TI:=fun σ H R=>tl σ H fun x H1=>∃ a,x= .ref a/\(∃ xs,SqT K H1 a xs)/\R (Itt K a) H1
theorem qm{l:Expr}{tl:TE}(hl:PE X l tl):PI X tg l (Ph X.K tl):=by
 intro pins s σ H R I h;refine thn (hl pins s σ H _ I h) fun v s1 ⟨x,H1,I1,r1,q1⟩=>?_;obtain⟨a,e,⟨xs,hq⟩,q⟩:=q1;subst e;cases r1;obtain⟨its,rv,p,hz⟩:=I1.list hq;refine wpAny_pyIter_list p.isList ?_;refine⟨s1.heap.objs.size,[s1.heap.objs.size],_,_,H1,rfl,I1.kept (t':=s1.toks) fun b o e=>Heap.get?_push_of_some _ e,RP a _,⟨_,Heap.get?_push_size _ rfl,rfl,rfl⟩,fun b hb=>?_,q⟩;have e:b=s1.heap.objs.size:=by simpa using hb
 subst e;exact I1.JB (aA _) (I1.hok.fresh (aA _))
theorem Zm{l:Expr}{tl:TE}(hl:PE X l tl):PI X tg l (Uz X.K tl):=by
 intro pins s σ H R I h;refine thn (hl pins s σ H _ I h) fun v s1 ⟨x,H1,I1,r1,q1⟩=>?_;obtain⟨a,e,⟨xs,hq⟩,q⟩:=q1;subst e;cases r1;obtain⟨its,rv,p,hz⟩:=I1.tuple hq;refine wpAny_pyIter_tuple (show s1.heap.IsTuple a its.toArray from p) ?_;refine⟨s1.heap.objs.size,[s1.heap.objs.size],_,_,H1,rfl,I1.kept (t':=s1.toks) fun b o e=>Heap.get?_push_of_some _ e,Pa a _,⟨_,Heap.get?_push_size _ rfl,rfl,rfl⟩,fun b hb=>?_,q⟩;have e:b=s1.heap.objs.size:=by simpa using hb
 subst e;exact I1.JB (aA _) (I1.hok.fresh (aA _))
theorem JC{pins:List (Addr × Obj)}{σ:St}{H:Hp}{s:Shared}{R:It->Hp->Prop}{E:Value->Shared->Prop}{lo hi:Int}{t u v:Tok}{tk:Nat}(I:Inv X pins σ H s)(h1: -(2 ^ 62)<=lo)(h2:lo<2 ^ 62)(h3: -(2 ^ 62)<=hi)(h4:hi<2 ^ 62)
 (q:R (Itr lo (hi - lo).toNat) H):wpAny (model X.prog X.w) X.A (pyIter (.ref s.heap.objs.size)) (PIE X pins σ tg R) E { s with heap:=s.heap.push { cls:=.type "range",data:=.fields #[.int lo t,.int hi u,.int 1 v] },toks:=tk }:=by
 refine wpAny_pyIter_range (IsRange.new ..) (small_one h1 h2 h3 h4) ?_;have I1:Inv X pins σ H { s with heap:=s.heap.push { cls:=.type "range",data:=.fields #[.int lo t,.int hi u,.int 1 v] },toks:=tk }:=I.kept fun b o e=>Heap.get?_push_of_some _ e
 refine⟨(s.heap.push { cls:=.type "range",data:=.fields #[.int lo t,.int hi u,.int 1 v] }).objs.size,[(s.heap.push { cls:=.type "range",data:=.fields #[.int lo t,.int hi u,.int 1 v] }).objs.size],_,_,H,rfl,
  I1.kept (t':=tk) fun b o e=>Heap.get?_push_of_some _ e,Pb _ lo (hi - lo).toNat,?_,fun b hb=>?_,q⟩
 · have e1:lo+((0:Nat):Int)*1=lo:=by simp
   have e2:(((hi - lo).toNat:Nat):Int) - ((0:Nat):Int)=Builtin.Range.rangeSize lo hi 1:=by rw[rangeSize_one];split <;> omega
   show IsRangeIter _ _ (lo+((0:Nat):Int)*1) ((((hi - lo).toNat:Nat):Int) - ((0:Nat):Int)) 1;rw[e1,e2];exact Heap.get?_push_size _ rfl
 · have e:b=(s.heap.push { cls:=.type "range",data:=.fields #[.int lo t,.int hi u,.int 1 v] }).objs.size:=by simpa using hb
   subst e;exact I1.JB (aA _) (I1.hok.fresh (aA _))
noncomputable def Ws(ta:TA):TI:=fun σ H R=>ta σ H fun vs H1=>∃ j:Int,vs= [.int j]/\-(2 ^ 62)<=j/\j<2 ^ 62/\R (Itr 0 j.toNat) H1
noncomputable def Wt(ta:TA):TI:=fun σ H R=>ta σ H fun vs H1=>∃ i j:Int,vs= [.int i,.int j]/\(-(2 ^ 62)<=i/\i<2 ^ 62/\-(2 ^ 62)<=j/\j<2 ^ 62)/\R (Itr i (j - i).toNat) H1
theorem fX{a:Expr}{ta:TA}{p pos:Pos}(hg:Gl X "range")(hm:X.mg "range" =none)(ha:PA X [a] ta)(hs:starEach [a] X.env= [(false,eval a X.env)]:=by rfl):PI X tg (.Call (.Name "range" p) [a] [] pos) (Ws ta):=by
 intro pins s σ H R I h;refine Call_ (qN I hg hm boot_range (PyProof.Rows.callWith_type1 (thn (ha pos pins s σ H _ I h) fun us s1 ⟨vs,H1,I1,r1,q1⟩=>?_) hs rfl));obtain⟨j,e,q1,q2,q⟩:=q1;subst e
 cases r1 with
 | cons r rr=>
   cases rr;obtain⟨t,rfl⟩:=r;exact call_range_1 (JC I1 (by omega) (by omega) q1 q2 (by simpa using q))
theorem GC{a b:Expr}{ta:TA}{p pos:Pos}(hg:Gl X "range")(hm:X.mg "range" =none)(ha:PA X [a,b] ta)(hs:starEach [a,b] X.env= [(false,eval a X.env),(false,eval b X.env)]:=by rfl)(hs2:starEach [b] X.env= [(false,eval b X.env)]:=by rfl):
 PI X tg (.Call (.Name "range" p) [a,b] [] pos) (Wt ta):=by
 intro pins s σ H R I h;refine Call_ (qN I hg hm boot_range (PyProof.Rows.callWith_type1 (thn (ha pos pins s σ H _ I h) fun us s1 ⟨vs,H1,I1,r1,q1⟩=>?_) (by rw[hs,hs2]) (by rw[hs2];rfl)));obtain⟨i,j,e,⟨q1,q2,q3,q4⟩,q⟩:=q1;subst e
 cases r1 with
 | cons r rr=>
   cases rr with
   | cons r' rr=>
     cases rr;obtain⟨t,rfl⟩:=r;obtain⟨t',rfl⟩:=r';exact call_range_2 (JC I1 q1 q2 q3 q4 q)
noncomputable def Zn(wi:TI)(g:TG)(tb:TS):TS:=fun D σ H=>wi σ H fun J H1=>∃ W:Nat->Nat->St->Hp->Prop,(∃ m,W 0 m σ H1)/\∀ i m σ H,W i m σ H->
 (J.stop i H/\D.nx σ H)\/(J.go i H/\∃ N:St->Hp->Prop,(∀ σ' H',N σ' H'->∃ m',m'<m/\W (i+1) m' σ' H')/\∀ x H',J.yld i H x H'->g x σ H' fun σ2 H2=>tb { D with nx:=N,ct:=N,bk:=D.nx } σ2 H2)
noncomputable def ye(fp:List Addr)(h:Heap):List (Addr × Obj):=fp.filterMap fun b=>(h.get? b).map fun o=>(b,o)
theorem rC{fp:List Addr}{h:Heap}{b:Addr}{o:Obj}(hb:b ∈ fp)(e:h.get? b=some o):(b,o) ∈ ye fp h:=List.mem_filterMap.mpr ⟨b,hb,by rw[e];rfl⟩
theorem RQ{fp:List Addr}{h:Heap}{p:Addr × Obj}(hp:p ∈ ye fp h):p.1 ∈ fp/\h.get? p.1=some p.2:=by
 obtain⟨b,hb,e⟩:=List.mem_filterMap.mp hp
 cases q:h.get? b with
 | none=>rw[q]at e;cases e
 | some o=>
   rw[q]at e;have e':(b,o)=p:=Option.some.inj e;subst e';exact⟨hb,q⟩
theorem Inv.pinned{pins:List (Addr × Obj)}{σ:St}{H:Hp}{s:Shared}{fp:List Addr}(I:Inv X pins σ H s)(hf:∀ b ∈ fp,nW X pins H b)(ho:∀ b ∈ fp,∃ o,s.heap.get? b=some o/\∀ v,o.data ≠ .cell v):Inv X (pins++ye fp s.heap) σ H s:=
 I.Ek fun p hp=>(List.mem_append.mp hp).elim (fun z=>I.pin p (List.mem_append_right _ z)) fun z=>by
  obtain⟨hb,e⟩:=RQ z;obtain⟨f0,f1,f2,_⟩:=hf p.1 hb;obtain⟨o,e',d⟩:=ho p.1 hb;rw[e]at e';cases e';exact⟨e,f0,f1,f2,d⟩
theorem Inv.sr{pins pl:List (Addr × Obj)}{σ:St}{H:Hp}{s:Shared}(I:Inv X (pins++pl) σ H s):Inv X pins σ H s:=I.Ek fun p hp=>I.pin p (List.mem_append_right _ (List.mem_append_left _ hp))
theorem yf{iter:Expr}{body:List Stmt}{wi:TI}{g:TG}{tb:TS}{pos:Pos}(hp:PassesOwn (model X.prog X.w) X.A X.env X.xe)(hc:X.calm=true)(hi:PI X tg iter wi)(hg:PG X tg g)(hb:PSs X body tb)
 (hs:∀ x,foldedSetIterable iter X.env x=pure x:=by intro _;rfl):PS X (.For tg iter body [] pos) (Zn wi g tb):=by
 intro pins s σ H D I h;refine wpAny_For (thn (hi pins s σ H _ I h) fun v s1 h1=>thn h1 fun itv s2 h2=>?_) hs;obtain⟨it,fp,tn,J,H2,e,I2,T,st2,f2,W,⟨m0,w0⟩,turn⟩:=h2;subst e;have stat:∀ {H':Hp},(∀ b ∈ fp,H' b=none)->∀ b ∈ fp,nW X pins H' b:=fun hn b hb=>⟨hn b hb,(f2 b hb).2⟩;refine codeAny_forLoop_any (fun n s'=>∃ i σ' H',Inv X pins σ' H' s'/\tn i s'.heap/\(∀ b ∈ fp,H' b=none)/\W i n σ' H') ?_ m0 ⟨0,σ,H2,I2,st2,fun b hb=>(f2 b hb).1,w0⟩;rintro n s3 ⟨i,σ3,H3,I3,st3,fr3,w3⟩
 rcases turn i n σ3 H3 w3 with ⟨stop,qn⟩ | ⟨go,N,hN,step⟩
 · refine wpAny_passesOwn hp (thn (T.done X rfl rfl rfl hc i pins s3 σ3 H3 X.xe I3 (stat fr3) st3 stop) fun r s4 ⟨hr,I4⟩=>?_);subst hr;exact wpAny_execs_nil ⟨σ3,H3,I4,qn⟩
 · refine wpAny_passesOwn hp (thn (T.item X rfl rfl rfl hc i pins s3 σ3 H3 X.xe I3 (stat fr3) st3 go) fun r s4 ⟨u,hr,h4⟩=>?_);subst hr;refine wpAny_passesOwn hp (thn h4 fun _ s5 ⟨x,H5,I5,r5,y5,st5,fr5⟩=>?_);have I5':=I5.pinned (stat fr5) (T.obj _ _ st5);refine wpAny_passesOwn hp (thn (hg _ s5 σ3 H5 x u _ I5' r5 (step x H5 y5)) fun _ s6 ⟨σ6,H6,I6,q6⟩=>?_);refine wpAny_passesOwn hp (thn (hb _ s6 σ6 H6 _ I6 q6) fun f s7 q7=>?_)
   have again:∀ {σ7:St} {H7:Hp},Inv X (pins++ye fp s5.heap) σ7 H7 s7->N σ7 H7->∃ m,m<n/\∃ i σ' H',Inv X pins σ' H' s7/\tn i s7.heap/\(∀ b ∈ fp,H' b=none)/\W i m σ' H':=fun {σ7 H7} I7 n7=>by
    obtain⟨m',hm,w7⟩:=hN σ7 H7 n7;refine⟨m',hm,i+1,σ7,H7,I7.sr,T.keep _ _ _ st5 fun b hb o e=>(I7.pin (b,o) (List.mem_append_right _ (List.mem_append_right _ (rC hb e)))).1,fun b hb=>?_,w7⟩;obtain⟨o,e,d⟩:=T.obj _ _ st5 b hb;exact(I7.pin (b,o) (List.mem_append_right _ (List.mem_append_right _ (rC hb e)))).2.1
   cases f with
   | next=>obtain⟨σ7,H7,I7,n7⟩:=q7;exact again I7 n7
   | cont=>obtain⟨σ7,H7,I7,n7⟩:=q7;exact again I7 n7
   | brk=>obtain⟨σ7,H7,I7,q7⟩:=q7;exact⟨σ7,H7,I7.sr,q7⟩
   | ret v=>obtain⟨x7,σ7,H7,I7,r7,q7⟩:=q7;exact⟨x7,σ7,H7,I7.sr,r7,q7⟩
end
theorem vR{K:ak}{a:Addr}{xs:List V}{g:TG}{tb:TS}{D:Ends}{σ:St}{H:Hp}(Pv:Nat->St->Hp->Prop)(h0:Pv 0 σ H)(hl:∀ i σ H,i<=xs.length->Pv i σ H->SqL K H a xs)
 (hs:∀ i x σ H,xs[i]? =some x->Pv i σ H->g x σ H fun σ2 H2=>tb { D with nx:=Pv (i+1),ct:=Pv (i+1),bk:=D.nx } σ2 H2) (hd:∀ σ H,Pv xs.length σ H->D.nx σ H):
 ∃ W:Nat->Nat->St->Hp->Prop,(∃ m,W 0 m σ H)/\∀ i m σ H,W i m σ H->
   ((Itl K a).stop i H/\D.nx σ H)\/((Itl K a).go i H/\∃ N:St->Hp->Prop,(∀ σ' H',N σ' H'->∃ m',m'<m/\W (i+1) m' σ' H')/\∀ x H',(Itl K a).yld i H x H'->g x σ H' fun σ2 H2=>tb { D with nx:=N,ct:=N,bk:=D.nx } σ2 H2):=by
 refine⟨fun i m σ H=>m=xs.length - i/\i<=xs.length/\Pv i σ H,⟨xs.length,by simp,Nat.zero_le _,h0⟩,?_⟩;rintro i m σ H ⟨rfl,hi,p⟩;have q:=hl i σ H hi p
 by_cases hlt:i<xs.length
 · refine .inr ⟨⟨xs,xs[i],q,by simp[hlt]⟩,Pv (i+1),fun σ' H' p'=>⟨xs.length - (i+1),by omega,rfl,hlt,p'⟩,fun x H' y=>?_⟩;obtain⟨e,y⟩:=y;subst e;exact hs i x σ _ (y xs q) p
 · have e:i=xs.length:=by omega
   subst e;exact .inl ⟨⟨xs,q,aA _⟩,hd σ H p⟩
noncomputable abbrev R2:=V->V->Hp->VK->Prop
noncomputable def OpR(X:Cx)(f:Value->Value->Sem Value)(r:R2):Prop:=
 ∀(pins:List (Addr × Obj)) (s:Shared) (σ:St) (H:Hp) (x y:V) (v u:Value) (Q:VK),Inv X pins σ H s->RelV x v->RelV y u->r x y H Q->
  wpAny (model X.prog X.w) X.A (f v u) (EP X pins σ Q) X.xe s
noncomputable def UnR(X:Cx)(f:Value->Sem Value)(r:V->Hp->VK->Prop):Prop:=
 ∀(pins:List (Addr × Obj)) (s:Shared) (σ:St) (H:Hp) (x:V) (v:Value) (Q:VK),Inv X pins σ H s->RelV x v->r x H Q->
  wpAny (model X.prog X.w) X.A (f v) (EP X pins σ Q) X.xe s
noncomputable def lW(X:Cx)(f:Value)(r:List V->Hp->VK->Prop):Prop:=
 ∀(pins:List (Addr × Obj)) (s:Shared) (σ:St) (H:Hp) (xs:List V) (us:List Value) (Q:VK),Inv X pins σ H s->Vals xs us->r xs H Q->
  wpAny (model X.prog X.w) X.A (call f us) (EP X pins σ Q) X.xe s
noncomputable def ac1(X:Cx)(r:V->Hp->(Bool->Hp->Prop)->Prop):Prop:=
 ∀(pins:List (Addr × Obj)) (s:Shared) (σ:St) (H:Hp) (x:V) (v:Value) (Q:Bool->Hp->Prop),Inv X pins σ H s->RelV x v->r x H Q->
  wpAny (model X.prog X.w) X.A (truthy v) (TP X pins σ Q) X.xe s
noncomputable def tOp(r:R2)(ta tb:TE):TE:=fun σ H Q=>ta σ H fun x H1=>tb σ H1 fun y H2=>r x y H2 Q
noncomputable def tUn(r:V->Hp->VK->Prop)(ta:TE):TE:=fun σ H Q=>ta σ H fun x H1=>r x H1 Q
noncomputable def rI(C:Int->Int->Prop)(g:Int->Int->V):R2:=fun x y H Q=>∃ i j,x= .int i/\y= .int j/\C i j/\Q (g i j) H
noncomputable def rI0(g:Int->Int->V):R2:=fun x y H Q=>∃ i j,x= .int i/\y= .int j/\Q (g i j) H
noncomputable def rU(g:Int->V):V->Hp->VK->Prop:=fun x H Q=>∃ i,x= .int i/\Q (g i) H
section
variable{X:Cx}{a b c:Expr}{ta tb tc:TE}{pos:Pos}
theorem UG(ha:PE X a ta)(hb:PE X b tb){pins:List (Addr × Obj)}{s:Shared}{σ:St}{H:Hp}{R:V->V->Hp->Prop}(I:Inv X pins σ H s)
 (h:ta σ H fun x H1=>tb σ H1 fun y H2=>R x y H2) {Q:Value->Shared->Prop} {f:Value->Value->Sem Value}
 (hf:∀ v u s2 x y H2,Inv X pins σ H2 s2->RelV x v->RelV y u->R x y H2->wpAny (model X.prog X.w) X.A (f v u) Q X.xe s2):
 wpAny (model X.prog X.w) X.A (eval a X.env) (fun v s₁=>wpAny (model X.prog X.w) X.A (eval b X.env) (fun u s₂=>wpAny (model X.prog X.w) X.A (f v u) Q X.xe s₂) X.xe s₁) X.xe s:=by
 refine thn (ha pins s σ H _ I h) fun v s1 ⟨x,H1,I1,r1,q1⟩=>?_;refine thn (hb pins s1 σ H1 _ I1 q1) fun u s2 ⟨y,H2,I2,r2,q2⟩=>?_;exact hf v u s2 x y H2 I2 r1 r2 q2
theorem eU{op:Operator}{r:R2}(ho:OpR X (binaryOp op) r)(ha:PE X a ta)(hb:PE X b tb):PE X (.BinOp a op b pos) (tOp r ta tb):=by
 intro pins s σ H Q I h;exact wpAny_BinOp (UG ha hb I h fun v u s2 x y H2 I2 rx ry q=>ho pins s2 σ H2 x y v u Q I2 rx ry q)
theorem abN{op:UnaryOp}{r:V->Hp->VK->Prop}(ho:UnR X (unaryOp op) r)(ha:PE X a ta):PE X (.UnaryOp op a pos) (tUn r ta):=by
 intro pins s σ H Q I h;exact UnaryOp_ (thn (ha pins s σ H _ I h) fun v s1 ⟨x,H1,I1,r1,q1⟩=>ho pins s1 σ H1 x v Q I1 r1 q1)
theorem opI{f:Value->Value->Sem Value}{C:Int->Int->Prop}{g:Int->Int->Int}
 (rule:∀(i j:Int) (t u:Tok) (s:Shared) (Q:Value->Shared->Prop) (E:Value->Shared->Prop),C i j->Q (.int (g i j) s.toks) { s with toks:=s.toks+1 }->wpAny (model X.prog X.w) X.A (f (.int i t) (.int j u)) Q E s):
 OpR X f (rI C fun i j=>.int (g i j)):=by
 intro pins s σ H x y v u Q I rx ry h;obtain⟨i,j,rfl,rfl,hc,q⟩:=h;obtain⟨t,rfl⟩:=rx;obtain⟨t',rfl⟩:=ry;exact rule i j t t' s _ _ hc ⟨.int (g i j),H,I.tok _,⟨_,rfl⟩,q⟩
theorem Zo{f:Value->Value->Sem Value}{g:Int->Int->Int}
 (rule:∀(i j:Int) (t u:Tok) (s:Shared) (Q:Value->Shared->Prop) (E:Value->Shared->Prop),Q (.int (g i j) s.toks) { s with toks:=s.toks+1 }->wpAny (model X.prog X.w) X.A (f (.int i t) (.int j u)) Q E s):
 OpR X f (rI0 fun i j=>.int (g i j)):=by
 intro pins s σ H x y v u Q I rx ry h;obtain⟨i,j,rfl,rfl,q⟩:=h;obtain⟨t,rfl⟩:=rx;obtain⟨t',rfl⟩:=ry;exact rule i j t t' s _ _ ⟨.int (g i j),H,I.tok _,⟨_,rfl⟩,q⟩
theorem UJ{f:Value->Value->Sem Value}{g:Int->Int->Bool}
 (rule:∀(i j:Int) (t u:Tok) (s:Shared) (Q:Value->Shared->Prop) (E:Value->Shared->Prop),Q (.bool (g i j)) s->wpAny (model X.prog X.w) X.A (f (.int i t) (.int j u)) Q E s):
 OpR X f (rI0 fun i j=>.bl (g i j)):=by
 intro pins s σ H x y v u Q I rx ry h;obtain⟨i,j,rfl,rfl,q⟩:=h;obtain⟨t,rfl⟩:=rx;obtain⟨t',rfl⟩:=ry;exact rule i j t t' s _ _ ⟨.bl (g i j),H,I,rfl,q⟩
noncomputable def UL(i j:Int):Prop:=0<=j/\j<=1000000/\i.natAbs<2 ^ 64
noncomputable def UT(i j:Int):Prop:=(-(2 ^ 64)<i/\i<2 ^ 64)\/(-(2 ^ 64)<j/\j<2 ^ 64)
theorem UT.ok{i j:Int}(h:UT i j):IntMulOk i j:=by
 rcases h with ⟨h1,h2⟩ | ⟨h1,h2⟩
 · exact .of_left (intBits_le_64 h1 h2)
 · exact .of_right (intBits_le_64 h1 h2)
theorem b8:OpR X (binaryOp .Add) (rI0 fun i j=>.int (i+j)):=Zo fun _ _ _ _ _ _ _ q=>add_int q
theorem fC:OpR X (binaryOp .Sub) (rI0 fun i j=>.int (i - j)):=Zo fun _ _ _ _ _ _ _ q=>sub_int q
theorem bQ:OpR X (binaryOp .Mod) (rI (fun _ j=>0<j) fun i j=>.int (i % j)):=opI fun i j _ _ _ _ _ hc q=>by
 have h1:(0:Int)<j:=hc;exact mod_int' (by omega) (by rw[Int.fmod_eq_emod_of_nonneg i (by omega)];exact q)
theorem JD:OpR X (binaryOp .Pow) (rI UL fun i j=>.int (i ^ j.toNat)):=opI fun _ _ _ _ _ _ _ hc q=>pow_int_small hc.1 hc.2.1 hc.2.2 q
theorem unI{f:Value->Sem Value}{g:Int->Int}
 (rule:∀(i:Int) (t:Tok) (s:Shared) (Q:Value->Shared->Prop) (E:Value->Shared->Prop),Q (.int (g i) s.toks) { s with toks:=s.toks+1 }->wpAny (model X.prog X.w) X.A (f (.int i t)) Q E s):
 UnR X f (rU fun i=>.int (g i)):=by
 intro pins s σ H x v Q I rx h;obtain⟨i,rfl,q⟩:=h;obtain⟨t,rfl⟩:=rx;exact rule i t s _ _ ⟨.int (g i),H,I.tok _,⟨_,rfl⟩,q⟩
theorem JF:UnR X (unaryOp .USub) (rU fun i=>.int (-i)):=unI fun _ _ _ _ _ q=>neg_int q
end
noncomputable def Zq:V->V->Bool
 | .non,.non=>true | .non,.int _=>true | .int _,.non=>true | .non,.bl _=>true | .bl _,.non=>true | .non,.str _=>true | .str _,.non=>true
 | .int _,.int _=>true | .bl _,.bl _=>true | .str _,.str _=>true | .byt _,.byt _=>true
 | .int _,.str _=>true | .str _,.int _=>true | .bl _,.str _=>true | .str _,.bl _=>true
 | _,_=>false
noncomputable def rEq:R2:=fun x y H Q=>Zq x y=true/\Q (.bl (decide (x=y))) H
noncomputable def rNe:R2:=fun x y H Q=>Zq x y=true/\Q (.bl (!decide (x=y))) H
theorem Ng{i j:Int}:decide (V.int i=V.int j)=(i==j):=by
 rw[Bool.eq_iff_iff];simp
theorem RT{i j:Bool}:decide (V.bl i=V.bl j)=(i==j):=by
 rw[Bool.eq_iff_iff];simp
theorem Nh{i j:Str}:decide (V.str i=V.str j)=(i==j):=by
 rw[Bool.eq_iff_iff];simp
theorem Ni{i j:Array UInt8}:decide (V.byt i=V.byt j)=(i.toList==j.toList):=by
 rw[Bool.eq_iff_iff];cases i;cases j;simp
section
variable{X:Cx}{a b c:Expr}{ta tb tc:TE}{pos:Pos}
theorem bN{pins:List (Addr × Obj)}{σ:St}{H:Hp}{s:Shared}{Q:VK}{k k':Bool}(I:Inv X pins σ H s)(q:Q (.bl k) H)(e:k=k'):EP X pins σ Q (.bool k') s:=by
 subst e;exact⟨.bl k,H,I,rfl,q⟩
theorem abO:OpR X (compareOp .Eq) rEq:=by
 intro pins s σ H x y v u Q I rx ry h;obtain⟨hs,q⟩:=h
 cases x with
 | non=>
   cases rx
   cases y with
   | non=>cases ry;exact PySem.EqNone.eq_none_none (bN I q (by simp))
   | bl j=>cases ry;exact PySem.EqNone.eq_none_bool (bN I q (by simp))
   | int j=>obtain⟨t',rfl⟩:=ry;exact PySem.EqNone.eq_none_int (bN I q (by simp))
   | str j=>obtain⟨t',rfl⟩:=ry;exact PySem.EqNone.eq_none_str (bN I q (by simp))
   | _=>exact absurd (show false=true from hs) Bool.false_ne_true
 | bl i=>
   cases rx
   cases y with
   | non=>cases ry;exact PySem.EqNone.eq_bool_none (bN I q (by simp))
   | bl j=>cases ry;exact eq_bool (bN I q RT)
   | str j=>obtain⟨t',rfl⟩:=ry;exact PySem.EqMixed.eq_bool_str (bN I q (by simp))
   | _=>exact absurd (show false=true from hs) Bool.false_ne_true
 | int i=>
   obtain⟨t,rfl⟩:=rx
   cases y with
   | non=>cases ry;exact PySem.EqNone.eq_int_none (bN I q (by simp))
   | int j=>obtain⟨t',rfl⟩:=ry;exact eq_int (bN I q Ng)
   | str j=>obtain⟨t',rfl⟩:=ry;exact PySem.EqMixed.eq_int_str (bN I q (by simp))
   | _=>exact absurd (show false=true from hs) Bool.false_ne_true
 | str i=>
   obtain⟨t,rfl⟩:=rx
   cases y with
   | non=>cases ry;exact PySem.EqNone.eq_str_none (bN I q (by simp))
   | bl j=>cases ry;exact PySem.EqMixed.eq_str_bool (bN I q (by simp))
   | int j=>obtain⟨t',rfl⟩:=ry;exact PySem.EqMixed.eq_str_int (bN I q (by simp))
   | str j=>obtain⟨t',rfl⟩:=ry;exact eq_str (bN I q Nh)
   | _=>exact absurd (show false=true from hs) Bool.false_ne_true
 | byt i=>
   obtain⟨t,rfl⟩:=rx
   cases y with
   | byt j=>obtain⟨t',rfl⟩:=ry;exact PySem.W.eq_bytes (bN I q Ni)
   | _=>exact absurd (show false=true from hs) Bool.false_ne_true
 | _=>cases y <;> exact absurd (show false=true from hs) Bool.false_ne_true
theorem abP:OpR X (compareOp .NotEq) rNe:=by
 intro pins s σ H x y v u Q I rx ry h;obtain⟨hs,q⟩:=h
 cases x with
 | non=>
   cases rx
   cases y with
   | non=>cases ry;exact PySem.EqNone.ne_none_none (bN I q (by simp))
   | bl j=>cases ry;exact PySem.EqNone.ne_none_bool (bN I q (by simp))
   | int j=>obtain⟨t',rfl⟩:=ry;exact PySem.EqNone.ne_none_int (bN I q (by simp))
   | str j=>obtain⟨t',rfl⟩:=ry;exact PySem.EqNone.ne_none_str (bN I q (by simp))
   | _=>exact absurd (show false=true from hs) Bool.false_ne_true
 | bl i=>
   cases rx
   cases y with
   | non=>cases ry;exact PySem.EqNone.ne_bool_none (bN I q (by simp))
   | bl j=>cases ry;exact ne_bool (bN I q (congrArg not RT))
   | str j=>obtain⟨t',rfl⟩:=ry;exact PySem.EqMixed.ne_bool_str (bN I q (by simp))
   | _=>exact absurd (show false=true from hs) Bool.false_ne_true
 | int i=>
   obtain⟨t,rfl⟩:=rx
   cases y with
   | non=>cases ry;exact PySem.EqNone.ne_int_none (bN I q (by simp))
   | int j=>obtain⟨t',rfl⟩:=ry;exact ne_int (bN I q (congrArg not Ng))
   | str j=>obtain⟨t',rfl⟩:=ry;exact PySem.EqMixed.ne_int_str (bN I q (by simp))
   | _=>exact absurd (show false=true from hs) Bool.false_ne_true
 | str i=>
   obtain⟨t,rfl⟩:=rx
   cases y with
   | non=>cases ry;exact PySem.EqNone.ne_str_none (bN I q (by simp))
   | bl j=>cases ry;exact PySem.EqMixed.ne_str_bool (bN I q (by simp))
   | int j=>obtain⟨t',rfl⟩:=ry;exact PySem.EqMixed.ne_str_int (bN I q (by simp))
   | str j=>obtain⟨t',rfl⟩:=ry;exact ne_str (bN I q (congrArg not Nh))
   | _=>exact absurd (show false=true from hs) Bool.false_ne_true
 | byt i=>
   obtain⟨t,rfl⟩:=rx
   cases y with
   | byt j=>obtain⟨t',rfl⟩:=ry;exact PySem.W.ne_bytes (bN I q (congrArg not Ni))
   | _=>exact absurd (show false=true from hs) Bool.false_ne_true
 | _=>cases y <;> exact absurd (show false=true from hs) Bool.false_ne_true
theorem zA:OpR X (compareOp .Lt) (rI0 fun i j=>.bl (decide (i<j))):=UJ fun _ _ _ _ _ _ _ q=>lt_int q
theorem Pj:OpR X (compareOp .Gt) (rI0 fun i j=>.bl (decide (j<i))):=UJ fun _ _ _ _ _ _ _ q=>gt_int q
theorem ue:OpR X (compareOp .GtE) (rI0 fun i j=>.bl (decide (j<=i))):=UJ fun _ _ _ _ _ _ _ q=>ge_int q
theorem OpR.or{f:Value->Value->Sem Value}{r r':R2}(h:OpR X f r)(h':OpR X f r'):OpR X f (fun x y H Q=>r x y H Q\/r' x y H Q):=by
 intro pins s σ H x y v u Q I rx ry q
 rcases q with q | q
 · exact h pins s σ H x y v u Q I rx ry q
 · exact h' pins s σ H x y v u Q I rx ry q
theorem aY(b:Expr){op:CmpOp}(h:op ≠ .In:=by decide)(h2:op ≠ .NotIn:=by decide):behindInMarks op b=false:=by
 have e1:(op==CmpOp.In)=false:=by cases op <;> first | rfl | exact absurd rfl h
 have e2:(op==CmpOp.NotIn)=false:=by cases op <;> first | rfl | exact absurd rfl h2
 cases b <;> simp[behindInMarks,e1,e2]
theorem Xp{op:CmpOp}{r:R2}(ho:OpR X (compareOp op) r)(ha:PE X a ta)(hb:PE X b tb)(hm:behindInMarks op b=false):PE X (.Compare a [op] [b] pos) (tOp r ta tb):=by
 intro pins s σ H Q I h;exact wpAny_Compare1 (UG ha hb I h fun v u s2 x y H2 I2 rx ry q=>ho pins s2 σ H2 x y v u Q I2 rx ry q) hm
noncomputable def abQ(t:TE):TT:=fun σ H Q=>t σ H fun x H'=>∃ k,x= .bl k/\Q k H'
theorem qp{op:CmpOp}{r:R2}(ho:OpR X (compareOp op) r)(ha:PE X a ta)(hb:PE X b tb)(hm:behindInMarks op b=false):PT X (.Compare a [op] [b] pos) (abQ (tOp r ta tb)):=by
 intro pins s σ H Q I h
 refine wpAny_isTrue_Compare1 (thn (ha pins s σ H _ I h) fun v s1 ⟨x,H1,I1,r1,q1⟩=>thn (hb pins s1 σ H1 _ I1 q1) fun u s2 ⟨y,H2,I2,r2,q2⟩=>
  thn (ho pins s2 σ H2 x y v u _ I2 r1 r2 q2) fun c s3 ⟨z,H3,I3,r3,k,e,q3⟩=>?_) hm
 subst e;cases r3;exact wpAny_truthy_bool ⟨H3,I3,q3⟩
noncomputable def Pk(K:ak)(x:V)(H:Hp)(k:Bool):Prop:=
 match x with
 | .non=>k=false
 | .bl b=>k=b
 | .int i=>k=(i != 0)
 | .str y=>y.length<=sizeLine/\k=((y.length:Int) != 0)
 | .byt y=>y.size<=sizeLine/\k=((y.size:Int) != 0)
 | .ref p=>(∃ xs,SqL K H p xs/\k= !xs.isEmpty)\/(∃ xs,SqT K H p xs/\k= !xs.isEmpty)\/∃ kvs,H p=some (.dK kvs)/\k= !kvs.isEmpty
 | _=>False
theorem Pn{κ:Type}{kvs:List (κ × V)}{vs:List (κ × Value)}(r:KV kvs vs):(!vs.isEmpty)= !kvs.isEmpty:=by
 cases r <;> rfl
theorem Ce{xs:List V}{its:List Value}(r:Vals xs its):(!its.toArray.isEmpty)= !xs.isEmpty:=by
 cases r <;> simp
theorem yg:(sizeLine:Nat)<2 ^ 63:=by rw[sizeLine_eq];decide
theorem Zr:ac1 X (fun x H Q=>∃ k,Pk X.K x H k/\Q k H):=by
 intro pins s σ H x v Q I rx h;obtain⟨k,e,q⟩:=h;have hl:=yg;have hs:sizeLine=16777216:=sizeLine_eq
 cases x with
 | non=>
   cases rx;have e':k=false:=e;subst e'
   exact truthy_none ⟨H,I,q⟩
 | bl b=>
   cases rx;have e':k=b:=e;subst e'
   exact wpAny_truthy_bool ⟨H,I,q⟩
 | int i=>
   obtain⟨t,rfl⟩:=rx;have e':k=(i != 0):=e;subst e'
   exact PySem.P.truthy_int ⟨H,I,q⟩
 | str y=>
   obtain⟨t,rfl⟩:=rx;obtain⟨hy,e'⟩:y.length<=sizeLine/\k=((y.length:Int) != 0):=e;subst e'
   exact PySem.P.truthy_str (by omega) ⟨H,I.tok _,q⟩
 | byt y=>
   obtain⟨t,rfl⟩:=rx;obtain⟨hy,e'⟩:y.size<=sizeLine/\k=((y.size:Int) != 0):=e;subst e'
   exact PySem.W.truthy_bytes (by omega) ⟨H,I.tok _,q⟩
 | ref p=>
   cases rx;have e':(∃ xs,SqL X.K H p xs/\k= !xs.isEmpty)\/(∃ xs,SqT X.K H p xs/\k= !xs.isEmpty)\/∃ kvs,H p=some (.dK kvs)/\k= !kvs.isEmpty:=e
   rcases e' with ⟨xs,hx,e'⟩ | ⟨xs,hx,e'⟩ | ⟨kvs,hx,e'⟩
   · subst e';obtain⟨its,r,pl,hz⟩:=I.list hx;have hlen:=r.length;exact wpAny_truthy_list pl.isList (by simp only[List.size_toArray];omega) ⟨H,I.tok _,by rw[Ce r];exact q⟩
   · subst e';obtain⟨its,r,pl,hz⟩:=I.tuple hx;have hlen:=r.length;exact truthy_tuple pl (by simp only[List.size_toArray];omega) ⟨H,I.tok _,by rw[Ce r];exact q⟩
   · subst e';obtain⟨hz,hS,vs,r,m⟩:kvs.length<=sizeLine/\(p==sysModules)=false/\∃ vs,KV kvs vs/\s.heap.DictOf (gH X.prog X.w) p vs:=I.hok p _ hx;have hlen:kvs.length=vs.length:=Paired.length r
     exact wpAny_truthy_dict hS m (by omega) ⟨H,I.tok _,by rw[Pn r];exact q⟩
 | _=>exact(show False from e).elim
theorem JG(ha:PE X a ta)(he:∀ whole,isTrue a X.env whole=(do let v <- whole;standAt a.pos;holding [v] (truthy v))):
 PT X a (fun σ H Q=>ta σ H fun x H'=>∃ k,Pk X.K x H' k/\Q k H'):=by
 intro pins s σ H Q I h;exact isTrue_plain (thn (ha pins s σ H _ I h) fun v s1 ⟨x,H1,I1,r1,q1⟩=>Zr pins s1 σ H1 x v Q I1 r1 q1) (he _)
theorem vals1{x:V}{us:List Value}(r:Vals [x] us):∃ u,us= [u]/\RelV x u:=by
 cases r with
 | cons r1 r2=>cases r2;exact⟨_,rfl,r1⟩
theorem vals2{x y:V}{us:List Value}(r:Vals [x,y] us):∃ u w',us= [u,w']/\RelV x u/\RelV y w':=by
 cases r with
 | cons r1 r2=>
   cases r2 with
   | cons r3 r4=>cases r4;exact⟨_,_,rfl,r1,r3⟩
theorem UW:lW X (.builtin "abs") (fun xs H Q=>∃ i,xs= [.int i]/\Q (.int (if i<0 then -i else i)) H):=by
 intro pins s σ H xs us Q I r h;obtain⟨i,rfl,q⟩:=h;obtain⟨u,rfl,t,rfl⟩:=vals1 r;exact call_abs_int fun u tk=>⟨.int (if i<0 then -i else i),H,I.tok _,⟨_,rfl⟩,q⟩
theorem RV(hc:X.calm=true):lW X (.builtin "min") (fun xs H Q=>∃ i j,xs= [.int i,.int j]/\Q (.int (if j<i then j else i)) H):=by
 intro pins s σ H xs us Q I r h;obtain⟨i,j,rfl,q⟩:=h;obtain⟨u,w',rfl,⟨t,rfl⟩,⟨t',rfl⟩⟩:=vals2 r;refine min_two_ints (I.ok.hd hc) fun h' tk k=>⟨_,H,I.kept k,?_,q⟩
 by_cases hj:j<i
 · rw[if_pos hj,if_pos hj];exact⟨_,rfl⟩
 · rw[if_neg hj,if_neg hj];exact⟨_,rfl⟩
end
structure Az (h:Heap)(x dx C:Addr)(mA:Str->Option Value):Prop where
 obj:h.get? x=some (PySem.W.instObj C dx)
 ns:h.Ns1 dx mA
 ne:dx ≠ x
theorem RX{h:Heap}{dx:Addr}{mA:Str->Option Value}(n:h.Ns1 dx mA):∃ od,h.get? dx=some od/\∀ name,PySem.W.lookIn name od=some (mA name):=by
 obtain⟨o,es,ep,ho,hd,hk,_,hm⟩:=n;refine⟨o,ho,fun name=>?_⟩;have e:=hm name;unfold nsFind findBy at e;rw[<- Array.find?_toList]at e;unfold PySem.W.lookIn;rw[hd];dsimp only
 split
 · rename_i y q;rw[q]at e;exact congrArg some e
 · rename_i q;rw[q]at e
   have a:es.toList.any (·.refKey)=false:=by
    rw[List.any_eq_false];intro y hy;obtain⟨z,t,hkey⟩:=hk y (Array.mem_toList_iff.mp hy);simp[DictEntry.refKey,hkey]
   have a':¬ es.toList.any (·.refKey)=true:=by rw[a];exact Bool.false_ne_true
   rw[if_neg a'];exact congrArg some e
theorem Az.look{h:Heap}{x dx C:Addr}{mA:Str->Option Value}(I:Az h x dx C mA):∃ od,PySem.W.InstAt h x (PySem.W.instObj C dx) C (some od)/\∀ name,PySem.W.lookIn name od=some (mA name):=
 let ⟨od,ho,hl⟩:=RX I.ns
 ⟨od,⟨I.obj,rfl,rfl,ho⟩,hl⟩
section
variable{prog:Program}{w:World}{A:Around}{E:Value->Shared->Prop}{s:Shared}{K:ak}{x dx C f:Addr}{mA:Str->Option Value}{name:Str}{v:Value}
theorem get_map{expr:Bool}{Q:Value->Shared->Prop}(X:K.In s.heap)(I:Az s.heap x dx C mA)(hg:PySem.W.plainGet K C name=true)(hh:PySem.W.hasDictIn K C=true)
 (ha:PySem.W.findIn K (.ref C) name=some none) (hv:mA name=some v) (hv':PySem.W.handedIn v=true) (h:Q v { s with toks:=s.toks+1 }):
 wpAny (model prog w) A (getAttr (.ref x) name expr) Q E s:=by
 obtain⟨od,J,hl⟩:=I.look;exact PySem.W.get_value X J (PySem.W.plainGet_of hg).1 (PySem.W.findObj_own hh ha rfl (by rw[hl,hv])) hv' h
theorem U0{pl:Sem Bool}{Q:Value × List Value->Shared->Prop}(X:K.In s.heap)(I:Az s.heap x dx C mA)(hg:PySem.W.plainGet K C name=true)
 (hf:PySem.W.findIn K (.ref C) name=some (some (.ref f))) (ht:PySem.W.isFn K (.ref f)=true) (hv:mA name=none) (h:Q (.ref f,[.ref x]) s):
 wpAny (model prog w) A (getMethod (.ref x) name pl) Q E s:=by
 obtain⟨od,J,hl⟩:=I.look;exact PySem.W.method_fn X J (PySem.W.plainGet_of hg).1 (PySem.W.plainGet_of hg).2 hf (beq_iff_eq.mp ht) (by show(PySem.W.lookIn name od).map (·.isSome)=some false;rw[hl,hv];rfl) h
theorem Xq{ns:List Str}{Q:Unit->Shared->Prop}(X:K.In s.heap)(I:Az s.heap x dx C mA)
 (hs:PySem.W.findIn K (.ref C) "__setattr__" =some (some (.builtin "object.__setattr__"))) (hp:PySem.W.plainOver K C=true) (ht:PySem.W.takerIn K C name=some none) (hh:PySem.W.hasDictIn K C=true)
 (hw:PySem.Within mA ns) (hsz:ns.length<=sizeLine)
 (h:∀ h',Az h' x dx C (fun y=>if y=name then some v else mA y)->Heap.SameBut dx s.heap h'->Q () { s with heap:=h',toks:=s.toks+2 }):
 wpAny (model prog w) A (setAttr (.ref x) name v) Q E s:=by
 obtain⟨od,J,hl⟩:=I.look;refine PySem.W.set_plain X J hs (PySem.W.osa_open (s:={ s with toks:=s.toks+1 }) (r:=none) X J hp ht fun b=>?_);obtain⟨cd,hc,hd'⟩:=PySem.W.any_some hh;have hx:s.heap.get? x=some ⟨.ref C,some dx,.plain,#[]⟩:=I.obj;refine wpAny_bind (wpAny_pure (wpAny_bind (wpAny_bind (wpAny_loadPart hx (wpAny_bind (PySem.W.Looks.here (s:={ s with toks:=s.toks+1 }) (PySem.W.looks_clsIn X hc) ?_))))));rw[hd'];refine wpAny_pure (a:=some dx) (wpAny_bind (wpAny_pure (wpAny_bind ?_)));refine wpAny_nsSet1 (s:={ s with toks:=s.toks+1 }) I.ns fun h' hn2 hs2=>?_;obtain⟨oD,esD,epD,hoD,hdD,hcD⟩:=hn2.count (PySem.Within.cons name v hw);refine wpAny_bind (wpAny_lookBehind hoD (by rw[hdD];exact pastItsLine_dict (Nat.le_trans hcD (by rw[List.length_cons];omega))) ?_);exact wpAny_pure (h _ ⟨(hs2.2 _ (Ne.symm I.ne)).trans I.obj,hn2,I.ne⟩ hs2)
theorem U3{R:Result->Shared->Prop}{vs:List Value}{kw:List (Str × Value)}(X:K.In s.heap)(hm:PySem.W.makesIn K C=true)
 (hi:PySem.W.findIn K (.ref C) "__init__" =some (some (.ref f))) (hf:PySem.W.typeIn K (.ref f)=some (.type "function"))
 (h:codeAny (model prog w) (A.under (.builtin "type.__call__" ⟨.ref C::vs,kw⟩)) (.call (.ref f) ⟨.ref (s.heap.objs.size+1)::vs,kw⟩) (PySem.W.InitBack (s.heap.objs.size+1) R)
   { s with heap:=(s.heap.push PySem.W.emptyDict).push (PySem.W.instObj C s.heap.objs.size) }):
 codeAny (model prog w) A (.call (.ref C) ⟨vs,kw⟩) R s:=by
 obtain⟨hh,g,d,t,os⟩:=s;exact PySem.W.make_core (PySem.W.makes_of X hm) (PySem.W.looks_findIn X hi) (fun self=>PySem.W.bind_fn X self hf) (.inl rfl) h
end
noncomputable def jY(f:Str)(v:V):List (Str × V)->List (Str × V)
 | []=>[(f,v)]
 | (g,x)::r=>if g=f then(g,v)::r else(g,x)::jY f v r
theorem Af(f g:Str)(v:V):∀ fs:List (Str × V),(jY f v fs).lookup g=if g=f then some v else fs.lookup g
 | []=>by
   show List.lookup g [(f,v)] =_
   by_cases h:g=f
   · have hb:(g==f)=true:=beq_iff_eq.mpr h;simp only[List.lookup,hb,if_pos h]
   · have hb:(g==f)=false:=beq_eq_false_iff_ne.mpr h
     simp only[List.lookup,hb,if_neg h]
 | (k,x)::r=>by
   have ih:=Af f g v r;rw[show jY f v ((k,x)::r)=(if k=f then(k,v)::r else(k,x)::jY f v r) from rfl]
   by_cases hk:k=f
   · rw[if_pos hk]
     by_cases h:g=k
     · have hb:(g==k)=true:=beq_iff_eq.mpr h;simp only[List.lookup,hb,if_pos (h.trans hk)]
     · have hb:(g==k)=false:=beq_eq_false_iff_ne.mpr h;simp only[List.lookup,hb,if_neg (fun e:g=f=>h (e.trans hk.symm))]
   · rw[if_neg hk]
     by_cases h:g=k
     · have hb:(g==k)=true:=beq_iff_eq.mpr h;simp only[List.lookup,hb,if_neg (fun e:g=f=>hk (h.symm.trans e))]
     · have hb:(g==k)=false:=beq_eq_false_iff_ne.mpr h;simp only[List.lookup,hb];exact ih
theorem yh(f:Str)(v:V):∀ fs:List (Str × V),f ∈ (jY f v fs).map (·.1)/\∀ g,g ∈ fs.map (·.1)->g ∈ (jY f v fs).map (·.1)
 | []=>⟨by simp[jY],fun g h=>by simp at h⟩
 | (k,x)::r=>by
   obtain⟨i1,i2⟩:=yh f v r;rw[show jY f v ((k,x)::r)=(if k=f then(k,v)::r else(k,x)::jY f v r) from rfl]
   by_cases hk:k=f
   · rw[if_pos hk];subst hk;exact⟨by simp,fun g h=>by simpa using h⟩
   · rw[if_neg hk];refine⟨?_,fun g h=>?_⟩
     · rw[List.map_cons];exact List.mem_cons_of_mem _ i1
     · rw[List.map_cons]at h ⊢
       rcases List.mem_cons.mp h with e | e
       · exact List.mem_cons.mpr (.inl e)
       · exact List.mem_cons_of_mem _ (i2 g e)
theorem Ah(f:Str)(v:V):∀ fs:List (Str × V),(jY f v fs).length<=fs.length+1
 | []=>by simp[jY]
 | (k,x)::r=>by
   have ih:=Ah f v r;rw[show jY f v ((k,x)::r)=(if k=f then(k,v)::r else(k,x)::jY f v r) from rfl]
   by_cases hk:k=f
   · rw[if_pos hk,List.length_cons,List.length_cons];omega
   · rw[if_neg hk,List.length_cons,List.length_cons];omega
theorem mj.some_of{v:V}{o:Option Value}(r:mj (some v) o):∃ u,o=some u/\RelV v u:=by
 cases o with
 | none=>exact(show False from r).elim
 | some u=>exact⟨u,rfl,r⟩
theorem mj.none_of{o:Option Value}(r:mj none o):o=none:=by
 cases o with
 | none=>rfl
 | some u=>exact(show False from r).elim
theorem GD{v:V}{u:Value}(r:RelV v u):PySem.W.handedIn u=true:=by
 cases v with
 | non=>cases (show u=Value.none from r);rfl
 | bl b=>cases (show u=Value.bool b from r);rfl
 | int i=>obtain⟨t,e⟩:=(show ∃ t,u=Value.int i t from r);cases e;rfl
 | str x=>obtain⟨t,e⟩:=(show ∃ t,u=Value.str x t from r);cases e;rfl
 | byt b=>obtain⟨t,e⟩:=(show ∃ t,u=Value.bytes b t from r);cases e;rfl
 | flt b=>obtain⟨t,e⟩:=(show ∃ t,u=Value.float b t from r);cases e;rfl
 | ref a=>cases (show u=Value.ref a from r);rfl
 | ty n=>cases (show u=Value.type n from r);rfl
section
variable{P:Program}{w:World}{H H':Hp}{h h':Heap}{a C dx:Addr}{fs fs':List (Str × V)}
theorem zB(hok:HOk P w H h)(e:H a=some (.ins C dx fs)):∃ mA,Az h a dx C mA/\(∀ f,mj (fs.lookup f) (mA f))/\PySem.Within mA (fs.map (·.1))/\fs.length<=1000/\H dx=some (.own a):=by
 obtain⟨d,z,ne,ob,mA,n,r,q⟩:=(show bO P w H h a (.ins C dx fs) from hok a _ e);exact⟨mA,⟨ob,n,ne⟩,r,q,z,d⟩
end
structure Cls (K:ak)(C:Addr):Prop where
 pg:PySem.W.plainGet K C Str.empty=true
 hd:PySem.W.hasDictIn K C=true
 po:PySem.W.plainOver K C=true
 sa:PySem.W.findIn K (.ref C) "__setattr__" =some (some (.builtin "object.__setattr__"))
theorem Cls.get{K:ak}{C:Addr}(c:Cls K C)(f:Str):PySem.W.plainGet K C f=true:=c.pg
noncomputable def cL(K:ak)(C:Addr)(f:Str):Prop:=PySem.W.findIn K (.ref C) f=some none
theorem cL.taker{K:ak}{C:Addr}{f:Str}(n:cL K C f):PySem.W.takerIn K C f=some none:=by
 unfold PySem.W.takerIn;rw[show PySem.W.findIn K (.ref C) f=some none from n];rfl
structure Con (K:ak)(C:Addr)(f:Str)(v:V)(u:Value):Prop where
 at_:PySem.W.findIn K (.ref C) f=some (some u)
 rel:RelV v u
 get:PySem.W.specialIn K u "__get__" =some none
 cp:PySem.W.copiedNames.contains f=false
structure Meth (K:ak)(C:Addr)(m:Str)(f:Addr):Prop where
 at_:PySem.W.findIn K (.ref C) m=some (some (.ref f))
 fn:PySem.W.isFn K (.ref f)=true
 kp:PySem.W.keepIn K (.ref f)=true
section
variable{X:Cx}{pins:List (Addr × Obj)}{σ:St}{H:Hp}{s:Shared}{a C dx:Addr}{fs:List (Str × V)}{f:Str}{v:V}{A:Around}{E:Value->Shared->Prop}
theorem Pq{b:Bool}{Q:Value->Shared->Prop}(I:Inv X pins σ H s)(e:H a=some (.ins C dx fs))(c:Cls X.K C)(n:cL X.K C f)(l:fs.lookup f=some v)
 (h:∀ u s',Inv X pins σ H s'->RelV v u->Q u s'):wpAny (model X.prog X.w) A (getAttr (.ref a) f b) Q E s:=by
 obtain⟨mA,O,r,_,_,_⟩:=zB I.hok e;obtain⟨u,hu,ru⟩:=mj.some_of (v:=v) (o:=mA f) (by rw[<- l];exact r f);exact get_map I.kIn O (c.get f) c.hd n hu (GD ru) (h u _ (I.tok _) ru)
theorem Cg{m:Str}{g:Addr}{pl:Sem Bool}{Q:Value × List Value->Shared->Prop}(I:Inv X pins σ H s)(e:H a=some (.ins C dx fs))(c:Cls X.K C)(k:Meth X.K C m g)(l:fs.lookup m=none)
 (h:Q (.ref g,[.ref a]) s):wpAny (model X.prog X.w) A (getMethod (.ref a) m pl) Q E s:=by
 obtain⟨mA,O,r,_,_,_⟩:=zB I.hok e;have hn:mA m=none:=mj.none_of (by rw[<- l];exact r m);exact U0 I.kIn O (c.get m) k.at_ k.fn hn h
theorem Pu{y:V}{u:Value}{Q:Unit->Shared->Prop}(I:Inv X pins σ H s)(e:H a=some (.ins C dx fs))(c:Cls X.K C)(n:cL X.K C f)(hl:fs.length<1000)(ry:RelV y u)
 (h:∀ s',Inv X pins σ (upd H a (.ins C dx (jY f y fs))) s'->Q () s'):wpAny (model X.prog X.w) A (setAttr (.ref a) f u) Q E s:=by
 obtain⟨mA,O,r,wi,_,ho⟩:=zB I.hok e;have hz:(fs.map (·.1)).length<=sizeLine:=by rw[List.length_map,sizeLine_eq];omega
 refine Xq I.kIn O c.sa c.po n.taker c.hd wi hz fun h' O' sb=>h _ ?_;have hd:∃ o,h'.get? dx=some o:=let ⟨o,_,_,e',_⟩:=O'.ns;⟨o,e'⟩;refine I.write (x:=a) (e:=dx) (by rw[e];exact True.intro) (.inr ho) (fun b q hb z=>(sb.2 b hb).trans z) hd ?_;refine⟨by rw[aB O.ne];exact ho,?_,O.ne,O'.obj,_,O'.ns,fun g=>?_,fun g hg=>?_⟩
 · have:=Ah f y fs;omega
 · show mj ((jY f y fs).lookup g) (if g=f then some u else mA g);rw[Af]
   by_cases q:g=f
   · rw[if_pos q,if_pos q];exact ry
   · rw[if_neg q,if_neg q];exact r g
 · by_cases q:g=f
   · rw[q];exact(yh f y fs).1
   · refine(yh f y fs).2 g (wi g fun z=>hg ?_);show(if g=f then some u else mA g)=none;rw[if_neg q];exact z
theorem Inv.made(I:Inv X pins σ H s):Inv X pins σ (upd (upd H s.heap.objs.size (.own (s.heap.objs.size+1))) (s.heap.objs.size+1) (.ins C s.heap.objs.size []))
 { s with heap:=(s.heap.push PySem.W.emptyDict).push (PySem.W.instObj C s.heap.objs.size) }:=by
 have e1:(s.heap.push PySem.W.emptyDict).get? s.heap.objs.size=some PySem.W.emptyDict:=Heap.get?_push_size s.heap rfl
 have e2:((s.heap.push PySem.W.emptyDict).push (PySem.W.instObj C s.heap.objs.size)).get? (s.heap.objs.size+1)=some (PySem.W.instObj C s.heap.objs.size):=by
  have:=Heap.get?_push_size (s.heap.push PySem.W.emptyDict) (o:=PySem.W.instObj C s.heap.objs.size) rfl
  rwa[Heap.size_push]at this
 have e3:(s.heap.push PySem.W.emptyDict).Ns s.heap.objs.size (fun _=>none):=⟨PySem.W.emptyDict,#[],_,e1,rfl,(fun e he=>absurd he (by simp)),fun _=>rfl⟩;have I1:=I.laid (a:=s.heap.objs.size) (o:=.own (s.heap.objs.size+1)) (h':=s.heap.push PySem.W.emptyDict) (t':=s.toks) (fun b u q=>Heap.get?_push_of_some _ q) (aA _) ⟨_,e1⟩;refine I1.laid (a:=s.heap.objs.size+1) (o:=.ins C s.heap.objs.size []) (t':=s.toks) (fun b u q=>Heap.get?_push_of_some _ q) (Nat.le_of_eq (Heap.size_push _ _)) ?_;have ne:s.heap.objs.size ≠ s.heap.objs.size+1:=Nat.ne_of_lt (Nat.lt_succ_self _);refine⟨by rw[aB ne,az],Nat.zero_le _,ne,e2,fun _=>none,(Heap.Ns1.of_empty e3).at fun o q=>Heap.get?_push_of_some _ q,fun _=>True.intro,fun y hy=>absurd rfl hy⟩
theorem Nj{prog:Program}{w:World}{env:Env}{e:Expr}{f:Str}{pos:Pos}{s:Shared}{Q:Value->Shared->Prop}(hb:attributeBase e f env (eval e env)=eval e env)
 (h:wpAny (model prog w) A (eval e env) (fun o s₁=>wpAny (model prog w) A (getAttr o f true) Q E s₁) E s):wpAny (model prog w) A (eval (.Attribute e f pos) env) Q E s:=
 Attribute_any_ h (by rw[arm_eval_Attribute,hb])
end
noncomputable def Zt(K:ak)(ta:TE)(f:Str):TE:=fun σ H Q=>ta σ H fun x H1=>∃ a C dx fs v,x= .ref a/\H1 a=some (.ins C dx fs)/\Cls K C/\cL K C f/\fs.lookup f=some v/\Q v H1
noncomputable def ac2(K:ak)(ta tv:TE)(f:Str):TS:=fun D σ H=>tv σ H fun y H1=>ta σ H1 fun x H2=>∃ a C dx fs,x= .ref a/\H2 a=some (.ins C dx fs)/\Cls K C/\cL K C f/\fs.length<1000/\
 D.nx σ (upd H2 a (.ins C dx (jY f y fs)))
section
variable{X:Cx}{o e value:Expr}{f:Str}{pos pos' tpos:Pos}{ta tv:TE}
theorem Zu(he:PE X e ta)(hb:attributeBase e f X.env (eval e X.env)=eval e X.env):PE X (.Attribute e f pos) (Zt X.K ta f):=by
 intro pins s σ H Q I h;refine Nj hb (thn (he pins s σ H _ I h) fun u s1 ⟨x,H1,I1,rx,a,C,dx,fs,v,ex,ea,c,n,l,q⟩=>?_);subst ex;obtain rfl:u=Value.ref a:=rx;exact Pq I1 ea c n l fun u' s2 I2 ru=>⟨v,H1,I2,ru,q⟩
theorem Zv(ha:PE X o ta)(hv:PE X value tv)(hs:swapsWith value (some (.Attribute o f pos')) pos.line X.env=pure false):PS X (.Assign [.Attribute o f pos'] value pos) (ac2 X.K ta tv f):=by
 intro pins s σ H D I h;refine plainObj_wpAny_Assign_Attribute (thn (hv pins s σ H _ I h) fun u s1 ⟨y,H1,I1,ry,q⟩=>thn (ha pins s1 σ H1 _ I1 q) fun ov s2 ⟨x,H2,I2,rx,a,C,dx,fs,ex,ea,c,n,l,q2⟩=>?_) hs;subst ex;obtain rfl:ov=Value.ref a:=rx;exact Pu I2 ea c n l ry fun s3 I3=>⟨σ,_,I3,q2⟩
end
section
variable{X:Cx}{pins:List (Addr × Obj)}{σ:St}{H:Hp}{s:Shared}{A:Around}{E:Value->Shared->Prop}{Q:Value->Shared->Prop}{c:Value}{b:Bool}
inductive pG (K:ak)(H:Hp):V->Value->Prop where
 | non:pG K H .non (.type "NoneType")
 | bl (x:Bool):pG K H (.bl x) (.type "bool")
 | int (i:Int):pG K H (.int i) (.type "int")
 | str (x:Str):pG K H (.str x) (.type "str")
 | flt (x:UInt64):pG K H (.flt x) (.type "float")
 | lst {a:Addr} {xs:List V} (e:H a=some (.lst xs)):pG K H (.ref a) (.type "list")
 | frz {a:Addr} {o:Obj} {xs:List V} (e:H a=some (.frz o (.lst xs))):pG K H (.ref a) (.type "list")
 | tup {a:Addr} {xs:List V} (e:H a=some (.tup xs)):pG K H (.ref a) (.type "tuple")
 | dK {a:Addr} {kvs:List (Key × V)} (e:H a=some (.dK kvs)):pG K H (.ref a) (.type "dict")
 | dT {a:Addr} {kvs:List (List Key × V)} (e:H a=some (.dT kvs)):pG K H (.ref a) (.type "dict")
 | ins {a C dx:Addr} {fs:List (Str × V)} (e:H a=some (.ins C dx fs)) (cl:Cls K C) (ha:PySem.W.findIn K (.ref C) "__class__" =some (some (.builtin "object.__class__")))
    (hn:PySem.W.specialIn K (.builtin "object.__class__") "__get__" =some (some (.builtin "getset_descriptor.__get__"))) (htk:PySem.W.takesIn K (.builtin "object.__class__")=some true)
    (hm:PySem.W.mroIn K C (.type "object")=some true):pG K H (.ref a) (.ref C)
theorem RZ{x:V}{u t:Value}(I:Inv X pins σ H s)(rx:RelV x u)(ty:pG X.K H x t)(e:PySem.W.kitOne X.K t c=some b)(h:∀ tk,Q (.bool b) { s with toks:=tk }):
 wpAny (model X.prog X.w) A (call (.builtin "isinstance") [u,c]) Q E s:=by
 cases ty with
 | non=>cases (show u=Value.none from rx);exact PySem.W.kia_one PySem.W.kitx_none I.kIn True.intro e (fun z=>nomatch z) h
 | bl y=>cases (show u=Value.bool y from rx);exact PySem.W.kia_one PySem.W.kitx_bool I.kIn True.intro e (fun z=>nomatch z) h
 | int i=>obtain⟨t,q⟩:=(show ∃ t,u=Value.int i t from rx);cases q;exact PySem.W.kia_one PySem.W.kitx_int I.kIn True.intro e (fun z=>nomatch z) h
 | str y=>obtain⟨t,q⟩:=(show ∃ t,u=Value.str y t from rx);cases q;exact PySem.W.kia_one PySem.W.kitx_str I.kIn True.intro e (fun z=>nomatch z) h
 | flt y=>obtain⟨t,q⟩:=(show ∃ t,u=Value.float y t from rx);cases q;exact PySem.W.kia_one PySem.W.kitx_float I.kIn True.intro e (fun z=>nomatch z) h
 | @lst a xs ea=>
   cases (show u=Value.ref a from rx);obtain⟨_,_,n,_,h1⟩:=(show bO X.prog X.w H s.heap a (.lst xs) from I.hok a _ ea)
   exact PySem.W.kia_one PySem.W.kitx_list I.kIn ⟨_,h1,rfl⟩ e (fun z=>nomatch z) h
 | @frz a ob xs ea=>
   cases (show u=Value.ref a from rx);obtain⟨_,_,_,n,_,h1⟩:=(show bO X.prog X.w H s.heap a (.frz ob (.lst xs)) from I.hok a _ ea)
   exact PySem.W.kia_one PySem.W.kitx_list I.kIn ⟨_,h1,rfl⟩ e (fun z=>nomatch z) h
 | @tup a xs ea=>
   cases (show u=Value.ref a from rx);obtain⟨_,_,_,p⟩:=(show bO X.prog X.w H s.heap a (.tup xs) from I.hok a _ ea);obtain⟨o,h1,h2,_⟩:=p
   exact PySem.W.kia_one PySem.W.kitx_tuple I.kIn ⟨o,h1,h2⟩ e (fun z=>nomatch z) h
 | @dK a kvs ea=>
   cases (show u=Value.ref a from rx);obtain⟨_,_,vs,_,p⟩:=(show bO X.prog X.w H s.heap a (.dK kvs) from I.hok a _ ea);obtain⟨o,es,ep,h1,h2,_⟩:=p
   exact PySem.W.kia_one PySem.W.kitx_dict I.kIn ⟨o,h1,h2.1⟩ e (fun z=>nomatch z) h
 | @dT a kvs ea=>
   cases (show u=Value.ref a from rx);obtain⟨_,_,xs,_,o,es,ep,h1,h2,_⟩:=(show bO X.prog X.w H s.heap a (.dT kvs) from I.hok a _ ea)
   exact PySem.W.kia_one PySem.W.kitx_dict I.kIn ⟨o,h1,h2.1⟩ e (fun z=>nomatch z) h
 | @ins a C dx fs ea cl ha hn htk hm=>
   cases (show u=Value.ref a from rx);obtain⟨mA,O,_⟩:=zB I.hok ea;obtain⟨od,J,_⟩:=O.look;exact PySem.W.kia_one (PySem.W.kitx_own (cl.get _) cl.hd ha hn htk hm) I.kIn J e (fun z=>nomatch z) h
end
structure bD (k:Nat)(A:Around):Prop where
 hd:A.handled=none
 dp:A.depth+3*k+5<recursionLimit
 un:A.units+16*k+200<cLine
theorem bD.mono{j k:Nat}{A:Around}(r:bD k A)(h:j<=k):bD j A:=⟨r.hd,by have:=r.dp;omega,by have:=r.un;omega⟩
theorem bD.deeper{k:Nat}{A:Around}(r:bD (k+1) A)(env:Env):bD k (A.deeper env):=
 ⟨r.hd,by have:=r.dp;show A.depth+1+3*k+5<_;omega,by have:=r.un;show A.units+3+16*k+200<_;omega⟩
theorem Px{A:Around}{C:Addr}{us:List Value}{kw:List (Str × Value)}:(A.under (.builtin "type.__call__" ⟨.ref C::us,kw⟩)).depth=A.depth+1:=by
 first | rfl | simp[Around.under,Code.weight,Code.isCreation,Code.isGuard,Code.isCaller,Code.frames,Code.isFrame,guardIds]
theorem Py{A:Around}{C:Addr}{us:List Value}{kw:List (Str × Value)}:(A.under (.builtin "type.__call__" ⟨.ref C::us,kw⟩)).units=A.units+1:=by
 first | rfl | simp[Around.under,Code.cUnits,Code.frames,Code.isFrame]
theorem bD.make{k:Nat}{A:Around}(r:bD (k+1) A)(C:Addr)(us:List Value)(kw:List (Str × Value)):bD k (A.under (.builtin "type.__call__" ⟨.ref C::us,kw⟩)):=
 ⟨r.hd,by have:=r.dp;rw[Px];omega,by have:=r.un;rw[Py];omega⟩
theorem bD.depth{k:Nat}{A:Around}(r:bD k A):A.depth<recursionLimit:=by have:=r.dp;omega
theorem bD.units{k:Nat}{A:Around}(r:bD k A):A.units+64<cLine:=by have:=r.un;omega
theorem bD.yj{k:Nat}{A:Around}(r:bD k A):A.units<cLine:=by have:=r.un;omega
noncomputable def Pz:TA:=fun _ H Q=>Q [] H
noncomputable def abR(ta:TE)(tr:TA):TA:=fun σ H Q=>ta σ H fun x H1=>tr σ H1 fun xs H2=>Q (x::xs) H2
section
variable{X:Cx}{e:Expr}{es:List Expr}{te:TE}{t:TA}{pos:Pos}
theorem bw:PA X [] Pz:=fun _ _ _ _ H Q I h=>Calls.spliced_nil ⟨[],H,I,.nil,h⟩
theorem aK(ha:PE X e te)(hr:PA X es t)(hs:starEach (e::es) X.env=(false,eval e X.env)::starEach es X.env:=by rfl):PA X (e::es) (abR te t):=by
 intro pos pins s σ H Q I h;rw[hs];show wpAny _ _ (spliced ((false,eval e X.env)::backTo pos (starEach es X.env))) _ _ s;refine Calls.spliced_cons (thn (ha pins s σ H _ I h) fun u s1 ⟨x,H1,I1,r1,q1⟩=>?_);exact thn (hr pos pins s1 σ H1 _ I1 q1) fun us s2 ⟨xs,H2,I2,r2,q2⟩=>⟨x::xs,H2,I2,.cons r1 r2,q2⟩
noncomputable def ac3(t:TA):TE:=fun σ H Q=>t σ H fun xs H1=>xs.length<=sizeLine/\∀ p,H1 p=none->Q (.ref p) (upd H1 p (.tup xs))
noncomputable def ac4(t:TA):TE:=fun σ H Q=>t σ H fun xs H1=>xs.length<=sizeLine/\∀ p,H1 p=none->Q (.ref p) (upd H1 p (.lst xs))
theorem u_{x1}(h:PA X es t):PE X (.Tuple es x1 pos) (ac3 t):=by
 intro pins s σ H Q I hq;refine wpAny_Tuple_spliced (thn (h pos pins s σ H _ I hq) fun us s1 ⟨xs,H1,I1,r,z,q⟩=>⟨by rw[<- r.length];exact z,?_⟩);have hf:H1 s1.heap.objs.size=none:=I1.hok.fresh (aA _);refine⟨.ref s1.heap.objs.size,upd H1 s1.heap.objs.size (.tup xs),I1.laid (t':=s1.toks) (fun b u e=>Heap.get?_push_of_some _ e) (aA _) ?_,rfl,q _ hf⟩;exact⟨z,us,r,⟨_,Heap.get?_push_size _ rfl,rfl,_,rfl⟩⟩
theorem vd(h:PA X es t):PE X (.List es pos) (ac4 t):=by
 intro pins s σ H Q I hq;refine wpAny_List_spliced (thn (h pos pins s σ H _ I hq) fun us s1 ⟨xs,H1,I1,r,z,q⟩=>⟨by rw[<- r.length];exact z,?_⟩);have hf:H1 s1.heap.objs.size=none:=I1.hok.fresh (aA _);refine⟨.ref s1.heap.objs.size,upd H1 s1.heap.objs.size (.lst xs),I1.laid (t':=s1.toks) (fun b u e=>Heap.get?_push_of_some _ e) (aA _) ?_,rfl,q _ hf⟩;exact⟨z,us,0,r,Heap.get?_push_size _ rfl⟩
end
noncomputable abbrev Sp:=List V->Hp->VK->XK->Prop
noncomputable abbrev CXT:=List Env->Hp->Shared->XK->Value->Shared->Prop
structure ym (P:Program)(w:World)(K:ak)(mg:Str->Option Value)(base:Heap)(A:Around)(outer:List Env)(s:Shared)(H:Hp):Prop where
 frames:A.frames=some outer
 mod:Mod K mg base
 bs:∀ b o,base.get? b=some o->s.heap.get? b=some o/\H b=none
 bsz:base.objs.size<=s.heap.objs.size
 mC:s.heap.FunFrames base outer
 frf:∀ b ∈ frs outer,H b=none
 hok:HOk P w H s.heap
 bare:AllBare s.gens
noncomputable def CE(outer:List Env)(P:Program)(w:World)(H:Hp)(s:Shared)(Q:VK)(u:Value)(s':Shared):Prop:=
 ∃ v H',s'.os=s.os/\AllBare s'.gens/\Un (frs outer) [] H H' s.heap s'.heap/\HOk P w H' s'.heap/\RelV v u/\Q v H'
noncomputable def CR(CX:CXT)(outer:List Env)(P:Program)(w:World)(H:Hp)(s:Shared)(Q:VK)(E:XK)(r:Result)(s':Shared):Prop:=
 match r with
 | .ok (.ret u)=>CE outer P w H s Q u s'
 | .ok _=>False
 | .error e=>CX outer H s E e s'
structure bB (P:Program)(w:World)(K:ak)(mg:Str->Option Value)(base:Heap)(CX:CXT)(k:Nat)(f:Addr)(fd:FuncData)(ps:List Str)(sp:Sp):Prop where
 len:∀ vs H Q E,sp vs H Q E->vs.length=ps.length
 run:∀(A:Around) (outer:List Env) (s:Shared) (H:Hp) (args:Args) (us:List Value) (vs:List V) (Q:VK) (E:XK),bD k A->ym P w K mg base A outer s H->BindsTo s fd args (ps.zip us)->Vals vs us->sp vs H Q E->
  codeAny (model P w) A (.call (.ref f) args) (CR CX outer P w H s Q E) s
theorem bB.mono{P:Program}{w:World}{K:ak}{mg:Str->Option Value}{base:Heap}{CX:CXT}{j k:Nat}{f:Addr}{fd:FuncData}{ps:List Str}{sp:Sp}(F:bB P w K mg base CX j f fd ps sp)(h:j<=k):
 bB P w K mg base CX k f fd ps sp:=⟨F.len,fun A outer s H args us vs Q E hr=>F.run A outer s H args us vs Q E (hr.mono h)⟩
theorem bB.imp{P:Program}{w:World}{K:ak}{mg:Str->Option Value}{base:Heap}{CX:CXT}{k:Nat}{f:Addr}{fd:FuncData}{ps:List Str}{sp sp':Sp}(F:bB P w K mg base CX k f fd ps sp)
 (h:∀ vs H Q E,sp' vs H Q E->sp vs H Q E):bB P w K mg base CX k f fd ps sp':=
 ⟨fun vs H Q E q=>F.len vs H Q E (h _ _ _ _ q),fun A outer s H args us vs Q E hr he hb hv hs=>F.run A outer s H args us vs Q E hr he hb hv (h _ _ _ _ hs)⟩
theorem ym.make{P:Program}{w:World}{K:ak}{mg:Str->Option Value}{base:Heap}{A:Around}{outer:List Env}{s:Shared}{H:Hp}(e:ym P w K mg base A outer s H)(C:Addr)(us:List Value)(kw:List (Str × Value)):
 ym P w K mg base (A.under (.builtin "type.__call__" ⟨.ref C::us,kw⟩)) outer s H:=⟨by first | exact e.frames | (simpa [Around.under,Code.envs,Code.isFrame,pushEnvs] using e.frames),e.mod,e.bs,e.bsz,e.mC,e.frf,e.hok,e.bare⟩
section
variable{X:Cx}{pins:List (Addr × Obj)}{σ:St}{H:Hp}{s s':Shared}
theorem Inv.env0(I:Inv X pins σ H s):ym X.prog X.w X.K X.mg X.base X.A X.stack s H:=
 ⟨I.ok.frames,I.ok.mod,I.bs,Nat.le_trans I.ok.bsz I.sz,I.stack,I.qj,I.hok,I.bare⟩
theorem Inv.after{Q:VK}{u:Value}(I:Inv X pins σ H s)(h:CE X.stack X.prog X.w H s Q u s'):EP X pins σ Q u s':=by
 obtain⟨v,H',os,bare,un,hok,r,q⟩:=h;obtain⟨hh,g,d,t,os'⟩:=s';obtain rfl:os'=s.os:=os;exact⟨v,H',I.call (h':=hh) (g':=g) (d':=d) (t':=t) (ch:=[]) un hok bare (fun b z=>absurd z (by simp)),r,q⟩
end
noncomputable def zE(sp:Sp)(dvs:List V)(E:XK)(t:TA):TE:=fun σ H Q=>t σ H fun vs H1=>sp (vs++dvs) H1 Q E
noncomputable def PB(C:Addr)(m:Str)(sp:Sp)(dvs:List V)(E:XK)(ta:TE)(t:TA):TE:=fun σ H Q=>ta σ H fun x H1=>∃ a dx fs,x= .ref a/\H1 a=some (.ins C dx fs)/\fs.lookup m=none/\
 t σ H1 fun vs H2=>sp (x::(vs++dvs)) H2 Q E
noncomputable def Wu(C:Addr)(sp:Sp)(dvs:List V)(E:XK)(t:TA):TE:=fun σ H Q=>t σ H fun vs H1=>∀ x dx,H1 x=none->H1 dx=none->dx ≠ x->
 sp (.ref x::(vs++dvs)) (upd (upd H1 dx (.own x)) x (.ins C dx [])) (fun v H2=>v= .non/\Q (.ref x) H2) E
noncomputable def Binds(K:ak)(fd:FuncData)(ps:List Str)(ds:List Value):Prop:=
 ∀(s:Shared) (us:List Value),K.In s.heap->(us++ds).length=ps.length->BindsTo s fd ⟨us,[]⟩ (ps.zip (us++ds))
theorem Binds.all{K:ak}{fd:FuncData}{ps:List Str}(h:∀ us:List Value,us.length=ps.length->bindArgs fd ⟨us,[]⟩ =pure (ps.zip us)):Binds K fd ps []:=fun s us _ hl=>by
 rw[List.append_nil]at hl ⊢;exact .of_eq (h us hl)
noncomputable def Passes(CX:CXT)(X:Cx)(E:XK):Prop:=∀(pins:List (Addr × Obj)) (σ:St) (H:Hp) (s:Shared) (e:Value) (s':Shared),Inv X pins σ H s->CX X.stack H s E e s'->X.xe e s'
section
variable{X:Cx}{CX:CXT}{k:Nat}{f C:Addr}{fd:FuncData}{ps:List Str}{sp:Sp}{dvs:List V}{ds:List Value}{E:XK}{x m:Str}{p pos apos:Pos}{e o:Expr}{es:List Expr}{ta:TE}{t:TA}
theorem Ci{pins:List (Addr × Obj)}{σ:St}{H:Hp}{s:Shared}{Q:VK}{us:List Value}{vs:List V}(F:bB X.prog X.w X.K X.mg X.base CX k f fd ps sp)(hr:bD k X.A)(hb:Binds X.K fd ps ds)(hd:Vals dvs ds)(hx:Passes CX X E)
 (I:Inv X pins σ H s) (r:Vals vs us) (h:sp (vs++dvs) H Q E):wpAny (model X.prog X.w) X.A (call (.ref f) us) (EP X pins σ Q) X.xe s:=by
 have r2:Vals (vs++dvs) (us++ds):=r.append hd;have hl:(us++ds).length=ps.length:=by rw[<- r2.length];exact F.len _ _ _ _ h
 refine wpAny_call (codeAny_mono (F.run X.A X.stack s H ⟨us,[]⟩ (us++ds) (vs++dvs) Q E hr I.env0 (hb s us I.kIn hl) r2 h) fun r s' hq=>?_)
 cases r with
 | error e=>exact hx pins σ H s e s' I hq
 | ok fl=>
   cases fl with
   | ret u=>exact I.after hq
   | next=>exact False.elim hq
   | brk=>exact False.elim hq
   | cont=>exact False.elim hq
theorem vf(F:bB X.prog X.w X.K X.mg X.base CX k f fd ps sp)(hr:bD k X.A)(hg:Gl X x)(hm:X.mg x=some (.ref f))(hk:PySem.W.keepIn X.K (.ref f)=true)(hb:Binds X.K fd ps ds)(hd:Vals dvs ds)(hx:Passes CX X E)
 (ha:PA X (e::es) t) (hdb:(x==("__debug__":Str))=false:=by decide) (he:starEach (e::es) X.env=(false,eval e X.env)::starEach es X.env:=by rfl) (hpl:(backTo pos (starEach es X.env)).any (·.1)=false:=by rfl):
 PE X (.Call (.Name x p) (e::es) [] pos) (zE sp dvs E t):=by
 intro pins s σ H Q I h;refine wpAny_Call_Name_kw (o8 I hg hm ?_ hdb);refine PySem.W.callWith_K (h₀:=X.base) I.ok.mod.kin hk (thn (ha pos pins s σ H _ I h) fun us s1 ⟨vs,H1,I1,r,q⟩=>⟨I1.kIn,?_⟩) he hpl;exact Ci F hr hb hd hx I1 r q
theorem Xr{pl:Sem Bool}(he:PE X o ta)(c:Cls X.K C)(hm:Meth X.K C m f)(F:bB X.prog X.w X.K X.mg X.base CX k f fd ps sp)(hr:bD k X.A)(hb:Binds X.K fd ps ds)(hd:Vals dvs ds)(hx:Passes CX X E)(ha:PA X (e::es) t)
 (hst:starEach (e::es) X.env=(false,eval e X.env)::starEach es X.env:=by rfl) (hpl:(backTo pos (starEach es X.env)).any (·.1)=false:=by rfl)
 (ht:eval (.Call (.Attribute o m apos) (e::es) [] pos) X.env=(do
   let ov <- eval o X.env
   standAt apos.atName
   let (f,first) <- holding [ov] (getMethod ov m pl)
   callWith pos f first (backTo pos (starEach (e::es) X.env)) (backToKw pos (keywordEach [] X.env))):=by rfl):
 PE X (.Call (.Attribute o m apos) (e::es) [] pos) (PB C m sp dvs E ta t):=by
 intro pins s σ H Q I h;refine PySem.W.methodCall_KW (pl:=pl) (thn (he pins s σ H _ I h) fun u s1 ⟨x,H1,I1,rx,a,dx,fs,ex,ea,l,q⟩=>?_) ht;subst ex;obtain rfl:u=Value.ref a:=rx;refine Cg I1 ea c hm l ?_;refine PySem.W.callWith_K (first:=[.ref a]) (h₀:=X.base) I.ok.mod.kin hm.kp (thn (ha pos pins s1 σ H1 _ I1 q) fun us s2 ⟨vs,H2,I2,r,q2⟩=>⟨I2.kIn,?_⟩) hst hpl;exact Ci (us:=.ref a::us) (vs:=.ref a::vs) F hr hb hd hx I2 (.cons rfl r) q2
theorem U4{pl:Sem Bool}(he:PE X o ta)(c:Cls X.K C)(hm:Meth X.K C m f)(F:bB X.prog X.w X.K X.mg X.base CX k f fd ps sp)(hr:bD k X.A)(hb:Binds X.K fd ps ds)(hd:Vals dvs ds)(hx:Passes CX X E)
 (ht:eval (.Call (.Attribute o m apos) [] [] pos) X.env=(do
   let ov <- eval o X.env
   standAt apos.atName
   let (f,first) <- holding [ov] (getMethod ov m pl)
   callWith pos f first (backTo pos (starEach [] X.env)) (backToKw pos (keywordEach [] X.env))):=by rfl):
 PE X (.Call (.Attribute o m apos) [] [] pos) (PB C m sp dvs E ta Pz):=by
 intro pins s σ H Q I h;refine PySem.W.methodCall_KW (pl:=pl) (thn (he pins s σ H _ I h) fun u s1 ⟨x,H1,I1,rx,a,dx,fs,ex,ea,l,q⟩=>?_) ht;subst ex;obtain rfl:u=Value.ref a:=rx;refine Cg I1 ea c hm l ?_;exact PySem.W.callWith_K0 (first:=[.ref a]) I1.kIn hm.kp (Ci (us:=[.ref a]) (vs:=[.ref a]) F hr hb hd hx I1 (.cons rfl .nil) q)
structure Mk (K:ak)(C f:Addr):Prop where
 makes:PySem.W.makesIn K C=true
 init:PySem.W.findIn K (.ref C) "__init__" =some (some (.ref f))
 fn:PySem.W.isFn K (.ref f)=true
 kp:PySem.W.keepIn K (.ref C)=true
theorem U5{pins:List (Addr × Obj)}{σ:St}{H:Hp}{s:Shared}{Q:VK}{us:List Value}{vs:List V}(M:Mk X.K C f)(F:bB X.prog X.w X.K X.mg X.base CX k f fd ps sp)(hr:bD (k+1) X.A)(hb:Binds X.K fd ps ds)(hd:Vals dvs ds)
 (hx:Passes CX X E) (I:Inv X pins σ H s) (r:Vals vs us)
 (h:∀ x dx,H x=none->H dx=none->dx ≠ x->sp (.ref x::(vs++dvs)) (upd (upd H dx (.own x)) x (.ins C dx [])) (fun v H2=>v= .non/\Q (.ref x) H2) E):
 wpAny (model X.prog X.w) X.A (call (.ref C) us) (EP X pins σ Q) X.xe s:=by
 have hq:=h (s.heap.objs.size+1) s.heap.objs.size (I.hok.fresh (Nat.le_succ _)) (I.hok.fresh (aA _)) (Nat.ne_of_lt (Nat.lt_succ_self _));have I2:=Inv.made (C:=C) I;have r2:Vals (V.ref (s.heap.objs.size+1)::(vs++dvs)) (Value.ref (s.heap.objs.size+1)::(us++ds)):=.cons rfl (r.append hd)
 have hl:(Value.ref (s.heap.objs.size+1)::us++ds).length=ps.length:=by
  have e:=r2.length;rw[F.len _ _ _ _ hq]at e;exact e.symm
 refine wpAny_call (U3 (f:=f) I.kIn M.makes M.init (beq_iff_eq.mp M.fn) (codeAny_mono (F.run _ X.stack _ _ ⟨Value.ref (s.heap.objs.size+1)::us,[]⟩ (Value.ref (s.heap.objs.size+1)::(us++ds)) _ _ E (hr.make C us [])
  (I2.env0.make C us []) (hb _ (Value.ref (s.heap.objs.size+1)::us) I2.kIn hl) r2 hq) fun r s' hq'=>?_))
 cases r with
 | error e=>exact hx pins σ _ _ e s' I2 hq'
 | ok fl=>
   cases fl with
   | ret u=>
     obtain⟨v,H',I3,rv,ev,q3⟩:=I2.after hq';subst ev
     exact⟨rv,⟨V.ref (s.heap.objs.size+1),H',I3,rfl,q3⟩⟩
   | next=>exact False.elim hq'
   | brk=>exact False.elim hq'
   | cont=>exact False.elim hq'
theorem Xu(M:Mk X.K C f)(F:bB X.prog X.w X.K X.mg X.base CX k f fd ps sp)(hr:bD (k+1) X.A)(hg:Gl X x)(hm:X.mg x=some (.ref C))(hb:Binds X.K fd ps ds)(hd:Vals dvs ds)(hx:Passes CX X E)
 (ha:PA X (e::es) t) (hdb:(x==("__debug__":Str))=false:=by decide) (he:starEach (e::es) X.env=(false,eval e X.env)::starEach es X.env:=by rfl) (hpl:(backTo pos (starEach es X.env)).any (·.1)=false:=by rfl):
 PE X (.Call (.Name x p) (e::es) [] pos) (Wu C sp dvs E t):=by
 intro pins s σ H Q I h;refine wpAny_Call_Name_kw (o8 I hg hm ?_ hdb);refine PySem.W.callWith_K (h₀:=X.base) I.ok.mod.kin M.kp (thn (ha pos pins s σ H _ I h) fun us s1 ⟨vs,H1,I1,r,q⟩=>⟨I1.kIn,?_⟩) he hpl;exact U5 M F hr hb hd hx I1 r q
end
section
variable{X:Cx}{CX:CXT}{k:Nat}{f C:Addr}{fd:FuncData}{ps ks:List Str}{sp:Sp}{E:XK}{x m:Str}{p pos apos kpos:Pos}{e o:Expr}{es:List Expr}{kws:List Keyword}{te ta:TE}{t tk:TA}{nm:Option Str}
structure adW (K:ak)(fd:FuncData)(ps ks:List Str)(g:List Value->List Value->List Value)(gV:List V->List V->List V):Prop where
 to:∀(s:Shared) (us ws:List Value),K.In s.heap->(g us ws).length=ps.length->BindsTo s fd ⟨us,ks.zip ws⟩ (ps.zip (g us ws))
 rel:∀ {vs:List V} {us:List Value} {zs:List V} {ws:List Value},Vals vs us->Vals zs ws->Vals (gV vs zs) (g us ws)
variable{g:List Value->List Value->List Value}{gV:List V->List V->List V}
end
structure aD (N P:List Str)(sc:Scope):Prop where
 kind:sc.kind= .function
 co:sc.isCoroutine=false
 gen:sc.isGenerator=false
 nd:N.Nodup
 pre:N.take P.length=P
 par:∀ x ∈ P,sc.names.lookup x=some .local\/sc.names.lookup x=some .cell
 Zw:∀ y ∈ sc.names,y.2 ≠ .free
theorem GF{kindOf:Str->Option NameKind}{x:Str}:∀ {binds:List (Str × Value)} {m:Str->Option Value},(∀ v,(x,v) ∉ binds)->bindL kindOf binds m x=m x
 | [],_,_=>rfl
 | (n,v)::r,m,h=>by
   unfold bindL;rw[GF fun w hw=>h w (List.mem_cons_of_mem _ hw)]
   split
   · have:x ≠ n:=by rintro rfl;exact h v List.mem_cons_self
     simp[this]
   · rfl
theorem GJ{kindOf:Str->Option NameKind}{x:Str}:∀ {binds:List (Str × Value)} {m:Str->Option Value},(∀ v,(x,v) ∉ binds)->bindC kindOf binds m x=m x
 | [],_,_=>rfl
 | (n,v)::r,m,h=>by
   unfold bindC;rw[GJ fun w hw=>h w (List.mem_cons_of_mem _ hw)]
   split
   · rfl
   · have:x ≠ n:=by rintro rfl;exact h v List.mem_cons_self
     simp[this]
theorem GK{kindOf:Str->Option NameKind}{x:Str}{v:Value}:∀ {P:List Str} {vs:List Value} {i:Nat} {m:Str->Option Value},P.Nodup->P[i]? =some x->vs[i]? =some v->kindOf x=some .local->
 bindL kindOf (P.zip vs) m x=some v
 | [],_,_,_,_,h,_,_=>by simp at h
 | _::_,[],_,_,_,_,h,_=>by simp at h
 | p::P,w::vs,0,m,nd,h1,h2,hk=>by
   simp at h1 h2;subst h1;subst h2;show bindL kindOf ((p,w)::P.zip vs) m p=_;unfold bindL;rw[GF fun v hv=>(List.nodup_cons.mp nd).1 (List.of_mem_zip hv).1,if_pos hk]
   simp
 | p::P,w::vs,i+1,m,nd,h1,h2,hk=>by
   show bindL kindOf ((p,w)::P.zip vs) m x=_;unfold bindL;exact GK (i:=i) (List.nodup_cons.mp nd).2 (by simpa using h1) (by simpa using h2) hk
theorem GP{kindOf:Str->Option NameKind}{x:Str}{v:Value}:∀ {P:List Str} {vs:List Value} {i:Nat} {m:Str->Option Value},P.Nodup->P[i]? =some x->vs[i]? =some v->kindOf x ≠ some .local->
 bindC kindOf (P.zip vs) m x=some v
 | [],_,_,_,_,h,_,_=>by simp at h
 | _::_,[],_,_,_,_,h,_=>by simp at h
 | p::P,w::vs,0,m,nd,h1,h2,hk=>by
   simp at h1 h2;subst h1;subst h2;show bindC kindOf ((p,w)::P.zip vs) m p=_;unfold bindC;rw[GJ fun v hv=>(List.nodup_cons.mp nd).1 (List.of_mem_zip hv).1,if_neg hk]
   simp
 | p::P,w::vs,i+1,m,nd,h1,h2,hk=>by
   show bindC kindOf ((p,w)::P.zip vs) m x=_;unfold bindC;exact GP (i:=i) (List.nodup_cons.mp nd).2 (by simpa using h1) (by simpa using h2) hk
noncomputable def start(N:List Str)(vs:List V):St:=vs.map some++List.replicate (N.length - vs.length) none
noncomputable def cB(CX:CXT)(P:Program)(w:World)(K:ak)(mg:Str->Option Value)(base:Heap)(N:List Str)(qual:Str)(scope:Scope)(f:Addr)(cd:Value)(A:Around)(outer:List Env)(s:Shared)(H:Hp)(E:XK):Cx where
 prog:=P
 w:=w
 K:=K
 mg:=mg
 base:=base
 A:=A.deeper (envOfC qual scope s.heap.objs.size f cd)
 N:=N
 s₀:=s
 H₀:=H
 env:=envOfC qual scope s.heap.objs.size f cd
 outer:=outer
 stack:=envOfC qual scope s.heap.objs.size f cd::outer
 ex:=[]
 calm:=true
 fn:=fun _=>true
 pn:=[]
 xe:=fun e s'=>wpAny (model P w) (A.deeper (envOfC qual scope s.heap.objs.size f cd)) (leaving (envOfC qual scope s.heap.objs.size f cd) e) (fun _ s''=>CX outer H s E e s'') (fun e' s''=>CX outer H s E e' s'') s'
theorem JH{sc:Scope}{n:Nat}{x:Str}(h:sc.names.lookup x=some .cell):∃ c,(cellsFrom n sc.names []).lookup x=some c:=by
 have q:=PySem.W.cellsFrom_some sc.names n [] (.inl h);exact Option.isSome_iff_exists.mp q
theorem GQ{CX:CXT}{P:Program}{w:World}{K:ak}{mg:Str->Option Value}{base:Heap}{N ps:List Str}{qual:Str}{scope:Scope}{f:Addr}{cd:Value}{A:Around}{outer:List Env}{s s1:Shared}{H:Hp}{E:XK}{us:List Value}{vs:List V}
 (S:aD N ps scope) (hd:A.handled=none) (e0:ym P w K mg base A outer s H) (hl:vs.length=ps.length) (r:Vals vs us)
 (x:InCallC s s.heap.objs.size (bindL (envOfC qual scope s.heap.objs.size f cd).kindOf (ps.zip us) fun _=>none) (cellsFrom (s.heap.objs.size+1) scope.names []) (bindC (envOfC qual scope s.heap.objs.size f cd).kindOf (ps.zip us) fun _=>none) s1):
 Inv (cB CX P w K mg base N qual scope f cd A outer s H E) [] (start N vs) H s1:=by
 have hpl:ps.length<=N.length:=by have:=congrArg List.length S.pre;rw[List.length_take]at this;omega
 obtain⟨h1,tk,rfl,hk⟩:=x.done;have noA:∀ b:Addr,b ∉ (cB CX P w K mg base N qual scope f cd A outer s H E).ex:=fun b z=>absurd (show b ∈ ([]:List Addr) from z) (by simp)
 refine⟨⟨e0.mod,S.kind,rfl,rfl,aA _,fun y z c h1 h2=>?_,fun y hy=>?_,fun y c _ h=>?_,fun _=>hd,Around.frames_deeper e0.frames,.inr ⟨rfl,rfl⟩,fun b z=>absurd z (noA b),e0.bs,e0.bsz,fun b _ _=>noA b,fun b z=>absurd z (noA b),e0.mC,e0.frf⟩,
  rfl,e0.bare,Un.kept hk,⟨_,x.toInCall.ns,fun i y v h1 h2 h3=>?_⟩,fun y c h=>⟨_,x.cell y c h⟩,e0.hok.fresh (aA _),fun y c h=>?_,fun p hp=>absurd (show p ∈ ([]:List (Addr × Obj)) from hp) (by simp),e0.hok.kept hk,?_⟩
 · exact name_of_addr x.apart (PySem.mem_of_lookup h1) (PySem.mem_of_lookup h2)
 · have hy:scope.names.lookup y=some .cell\/scope.names.lookup y=some .free:=hy
   rcases hy with hy | hy
   · exact JH hy
   · exact absurd rfl (S.Zw _ (PySem.mem_of_lookup hy))
 · exact Nat.le_of_lt (x.above y c (PySem.mem_of_lookup h))
 · have hi:i<vs.length:=by
    unfold start at h2
    by_cases hi:i<vs.length
    · exact hi
    · rw[List.getElem?_append_right (by simpa using hi)]at h2;rw[List.getElem?_replicate]at h2
      split at h2 <;> cases h2
   have ha:vs[i]? =some v:=by
    unfold start at h2;rw[List.getElem?_append_left (by simpa using hi),List.getElem?_map]at h2
    cases e:vs[i]? with
    | none=>rw[e]at h2;cases h2
    | some a=>rw[e]at h2;cases h2;rfl
   obtain⟨u,hu,rv⟩:=r.get ha
   have hp:ps[i]? =some y:=by
    rw[<- S.pre,List.getElem?_take_of_lt (by omega)];exact h1
   have ndP:ps.Nodup:=by rw[<- S.pre];exact S.nd.sublist (List.take_sublist _ _)
   refine⟨u,rv,?_⟩
   rcases S.par y (List.mem_of_getElem? hp) with k | k
   · exact .inl ⟨k,GK ndP hp hu k⟩
   · obtain⟨c,e⟩:=JH (n:=s.heap.objs.size+1) k;refine .inr ⟨.inl k,c,e,?_⟩;have q:=x.cell y c e;rw[GP ndP hp hu (by show scope.names.lookup y ≠ _;rw[k];decide)]at q;exact q
 · exact e0.hok.fresh (Nat.le_of_lt (x.above y c (PySem.mem_of_lookup h)))
 · unfold start;show _=N.length;rw[List.length_append,List.length_map,List.length_replicate];omega
theorem PJ{CX:CXT}{P:Program}{w:World}{K:ak}{mg:Str->Option Value}{base:Heap}{k:Nat}{f:Addr}{name qual:Str}{params:Arguments}{body:List Stmt}{scope:Scope}{dV kV doc pm cdv ct oc:Value}{an od:Option Addr}
 {osl:Array (Option Value)} {N ps:List Str} {sp:Sp} (lk:K.lookup f=some ⟨oc,od,.func (PySem.W.fnOf name qual params body scope dV kV doc pm an cdv ct),osl⟩) (hcd:PySem.W.codeIn K cdv qual=true) (S:aD N ps scope)
 (len:∀ vs H Q E,sp vs H Q E->vs.length=ps.length)
 (hbody:∀(A:Around) (outer:List Env) (s:Shared) (H:Hp) (vs:List V) (Q:VK) (E:XK),bD k (A.deeper (envOfC qual scope s.heap.objs.size f cdv))->sp vs H Q E->
   ∃ t,PSs (cB CX P w K mg base N qual scope f cdv A outer s H E) body t/\t { nx:=fun _ H'=>Q .non H',rt:=Q } (start N vs) H):
 bB P w K mg base CX (k+1) f (PySem.W.fnOf name qual params body scope dV kV doc pm an cdv ct) ps sp:=by
 refine⟨len,fun A outer s H args us vs Q E hr e0 hb r hsp=>?_⟩;have hl:=len _ _ _ _ hsp;have KX:K.In s.heap:=e0.mod.kin.keeps fun b o e=>(e0.bs b o e).1;have lim:s.heap.NoLimit:=e0.mod.nolimit.keeps fun b o e=>(e0.bs b o e).1
 have hkind:∀ y ∈ ps.zip us,scope.names.lookup y.1=some .local\/(scope.names.lookup y.1=some .cell/\((cellsFrom (s.heap.objs.size+1) scope.names []).lookup y.1).isSome=true):=fun⟨n,v⟩ hy=>by
  rcases S.par n (List.of_mem_zip hy).1 with q | q
  · exact .inl q
  · exact .inr ⟨q,PySem.W.cellsFrom_some _ _ _ (.inl q)⟩
 refine codeAny_call_function hr.depth (KX _ _ lk) rfl S.co S.gen rfl (PySem.W.codeRec_of KX hcd) (hb _ _ _ _ ?_);refine wpAny_newFunctionEnv_cells S.kind hkind fun env he s1 x=>?_;subst he;refine⟨lim.keeps x.toInCall.keep,codeAny_func ?_⟩;obtain⟨t,ht,hq⟩:=hbody A outer s H vs Q E (hr.deeper _) hsp;have I:Inv (cB CX P w K mg base N qual scope f cdv A outer s H E) [] (start N vs) H s1:=GQ S hr.hd e0 hl r x;refine wpAny_mono (ht [] s1 (start N vs) H _ I hq) (fun fl s' hs=>?_) fun e s' hs=>hs
 have fin:∀ {σ':St} {H':Hp} {v:V} {u:Value},Inv (cB CX P w K mg base N qual scope f cdv A outer s H E) [] σ' H' s'->RelV v u->Q v H'->CE outer P w H s Q u s':=
  fun {σ' H' v u} J rv q=>⟨v,H',J.os,J.bare,J.base,J.hok,rv,q⟩
 cases fl with
 | ret u=>
   obtain⟨v,σ',H',J,rv,q⟩:=hs
   exact fin J rv q
 | next=>
   obtain⟨σ',H',J,q⟩:=hs
   exact fin (v:=V.non) (u:=Value.none) J rfl q
 | brk=>
   obtain⟨_,_,_,q⟩:=hs
   exact False.elim q
 | cont=>
   obtain⟨_,_,_,q⟩:=hs;exact False.elim q
section
variable{X:Cx}{x:Str}{p pos:Pos}{e:Expr}{es:List Expr}{t:TA}{id T:String}{r:List V->Hp->VK->Prop}
noncomputable def tCB(r:List V->Hp->VK->Prop)(t:TA):TE:=fun σ H Q=>t σ H fun vs H1=>r vs H1 Q
theorem mD(hc:lW X (.builtin id) r)(hg:Gl X x)(hm:X.mg x=none)(hv:bootBuiltins x=some (.builtin id))(ha:PA X (e::es) t)(hn:x ≠ "__name__":=by decide)(hdb:(x==("__debug__":Str))=false:=by decide)
 (he:starEach (e::es) X.env=(false,eval e X.env)::starEach es X.env:=by rfl) (hpl:(backTo pos (starEach es X.env)).any (·.1)=false:=by rfl):PE X (.Call (.Name x p) (e::es) [] pos) (tCB r t):=by
 intro pins s σ H Q I h;refine wpAny_Call_Name_kw (qN I hg hm hv ?_ hn hdb);exact PyProof.Rows.callWith_builtin1 (thn (ha pos pins s σ H _ I h) fun us s1 ⟨vs,H1,I1,r1,q1⟩=>hc pins s1 σ H1 vs us Q I1 r1 q1) he hpl
theorem uf(hc:lW X (.type T) r)(hg:Gl X x)(hm:X.mg x=none)(hv:bootBuiltins x=some (.type T))(ha:PA X (e::es) t)(hn:x ≠ "__name__":=by decide)(hdb:(x==("__debug__":Str))=false:=by decide)
 (he:starEach (e::es) X.env=(false,eval e X.env)::starEach es X.env:=by rfl) (hpl:(backTo pos (starEach es X.env)).any (·.1)=false:=by rfl):PE X (.Call (.Name x p) (e::es) [] pos) (tCB r t):=by
 intro pins s σ H Q I h;refine wpAny_Call_Name_kw (qN I hg hm hv ?_ hn hdb);exact PyProof.Rows.callWith_type1 (thn (ha pos pins s σ H _ I h) fun us s1 ⟨vs,H1,I1,r1,q1⟩=>hc pins s1 σ H1 vs us Q I1 r1 q1) he hpl
end
end L2
namespace HT
open PySem PyProof.Rows
noncomputable def lexLt:List Int->List Int->Bool
 | [],[]=>false
 | [],_::_=>true
 | _::_,[]=>false
 | x::xs,y::ys=>if x=y then lexLt xs ys else decide (x<y)
theorem PK(x y:Int)(xs ys:List Int):lexLt (x::xs) (y::ys)=if x=y then lexLt xs ys else decide (x<y):=rfl
theorem Hw:lexLt [] [] =false:=rfl
theorem El(y:Int)(ys:List Int):lexLt [] (y::ys)=true:=rfl
theorem Em(x:Int)(xs:List Int):lexLt (x::xs) [] =false:=rfl
theorem U6(A:Around)(s:Shared)(a:Int)(t:Tok)(c:Int)(u:Tok):∃ e,SeqAt.EqAt A s (.int a t) (.int c u) e/\(e=true ↔ a=c):=
 ⟨(a==c),SeqAt.EqAt.int_int a t c u,by simp⟩
theorem U7(A:Around)(s:Shared)(a:Int)(t:Tok)(c:Int)(u:Tok)(prog:Program)(w:World)(E:Value->Shared->Prop)(Q:Value->Shared->Prop)(h:Q (.bool (decide (a<c))) s):
 wpAny (model prog w) A (richCompare .Lt (.int a t) (.int c u)) Q E s:=
 (PyProof.Rows.lt_int h:wpAny (model prog w) A (compareOp .Lt (.int a t) (.int c u)) Q E s)
section
open PySem.SeqAt
open PySem.AutoSeq1 (wpAny_loadPart')
open PySem.MeetsSeq PySem.MeetsSeq2 PySem.MeetsSeq3
theorem Hx(l b:Addr)(items items2:Array Value)(n n2:Nat)(dd dd2:Option Addr)(sl sl2:Array (Option Value))(ns ms:List Int)(hi:IntsAre items.toList ns)(hj:IntsAre items2.toList ms):
 Meets (Builtin.«tuple.__lt__» ⟨[.ref l,.ref b],[]⟩)
  (fun _ R s=>s.heap.get? l=some { cls:=.type "tuple",dict:=dd,data:=.seq items n,slots:=sl }/\s.heap.get? b=some { cls:=.type "tuple",dict:=dd2,data:=.seq items2 n2,slots:=sl2 }/\
    R (.ok (.ret (.bool (lexLt ns ms)))) s):=
 .of_wp fun prog w A R s h=>by
  obtain⟨hp,g,d,tk,os⟩:=s;obtain⟨hl,hb,h⟩:=h;have f2:=AutoSeq1.sub_tuple_tuple;have z1:items.size=ns.length:=by rw[<- hi.length];simp
  have z2:items2.size=ms.length:=by rw[<- hj.length];simp
  wp_walk using wpAny_loadPart' hl,wpAny_loadPart' hb,wpAny_forIn_list _ (fun rest b s'=>b.1=none/\s'= ⟨hp,g,d,tk,os⟩/\∃(vs ws:List Value) (ns' ms':List Int),rest=vs.zip ws/\
   IntsAre vs ns'/\IntsAre ws ms'/\ns'.length+items2.size=ms'.length+items.size/\R (.ok (.ret (.bool (lexLt ns' ms')))) ⟨hp,g,d,tk,os⟩) _
  case turn=>
   rintro⟨y,x⟩ rest b s' ⟨hb',rfl,vs,ws,ns',ms',hz,hvi,hwi,hlen,hR⟩
   cases hvi with
   | nil=>rw[List.zip_nil_left]at hz;cases hz
   | cons a t ac5=>
     cases hwi with
     | nil=>rw[List.zip_nil_right]at hz;cases hz
     | cons c u ac6=>
       rw[List.zip_cons_cons]at hz;injection hz with hyx hrest;injection hyx with hy hx;subst hy hx;rw[PK]at hR;simp only[List.length_cons]at hlen;obtain⟨e,he,hiff⟩:=U6 A.in1 ⟨hp,g,d,tk,os⟩ a t c u;refine wpAny_bind (he prog w _ _ ?_)
       cases e with
       | true=>
         rw[if_pos (hiff.mp rfl)]at hR
         wp_walk
         exact⟨rfl,rfl,_,_,_,_,hrest,ac5,ac6,by omega,hR⟩
       | false=>
         rw[if_neg (fun q=>absurd (hiff.mpr q) Bool.false_ne_true)]at hR;have hri:=U7 A.in1 ⟨hp,g,d,tk,os⟩ a t c u prog w
         wp_walk using hri
         exact⟨_,rfl,by simpa using hR⟩
  case fin=>
   rintro⟨b1,b2⟩ s' ⟨hb',rfl,vs,ws,ns',ms',hz,hvi,hwi,hlen,hR⟩;simp only at hb';subst hb'
   have hv:lexLt ns' ms'=decide (items.size<items2.size):=by
    cases hvi with
    | nil=>
      cases hwi with
      | nil=>
        simp only[List.length_nil]at hlen;rw[Hw]
        exact(decide_eq_false (by omega)).symm
      | cons c u hw=>
        simp only[List.length_nil,List.length_cons]at hlen;rw[El]
        exact(decide_eq_true (by omega)).symm
    | cons a t hv=>
      cases hwi with
      | nil=>
        simp only[List.length_nil,List.length_cons]at hlen;rw[Em]
        exact(decide_eq_false (by omega)).symm
      | cons c u hw=>
        rw[List.zip_cons_cons]at hz;cases hz
   rw[hv]at hR
   wp_walk
   exact⟨_,rfl,by simpa [Builtin.Tuple.tupleCompareSizes] using hR⟩
  case h=>
   exact⟨rfl,rfl,items.toList,items2.toList,ns,ms,rfl,hi,hj,by omega,h⟩
end
section
variable{prog:Program}{w:World}{A:Around}{E:Value->Shared->Prop}{s:Shared}
theorem PL{l b:Addr}{items items2:Array Value}{ns ms:List Int}{Q:Value->Shared->Prop}(hl:IsTup s.heap l items)(hb:IsTup s.heap b items2)(hi:IntsAre items.toList ns)(hj:IntsAre items2.toList ms)
 (hu:A.units<cLine) (h:Q (.bool (lexLt ns ms)) s):wpAny (model prog w) A (compareOp .Lt (.ref l) (.ref b)) Q E s:=by
 obtain⟨⟨cls,dd,data,sl⟩,ho,hc,n,hd⟩:=id hl;obtain⟨⟨cls2,dd2,data2,sl2⟩,ho2,hc2,n2,hd2⟩:=id hb;simp only at hc hd hc2 hd2;subst hc hd hc2 hd2
 exact richCompare_meets_room (op:=.Lt) ⟨_,ho,rfl⟩ ⟨_,ho2,rfl⟩ PySem.F.slot_tuple_lt PySem.F.entry_tuple_lt (PySem.F.args_tuple_lt_2 _ _) (Hx l b items items2 n n2 dd dd2 sl sl2 ns ms hi hj)
  ⟨ho,ho2,show Value.bool (lexLt ns ms) ≠ Value.notImplemented/\Q (.bool (lexLt ns ms)) s from ⟨(fun x=>nomatch x),h⟩⟩ hu
noncomputable def sIx(n d:Nat):Option Int->Nat
 | none=>d
 | some v=>if v<0 then(v+(n:Int)).toNat else min v.toNat n
theorem Zx(n d:Nat)(hd:d<=n)(o:Option Int):sIx n d o<=n:=by
 cases o with
 | none=>exact hd
 | some v=>
   show(if v<0 then(v+(n:Int)).toNat else min v.toNat n)<=n
   by_cases hv:v<0
   · rw[if_pos hv];omega
   · rw[if_neg hv];exact Nat.min_le_right _ _
theorem Nk(v:Int)(n d:Nat):(if v<0 then max (v+(n:Int)) 0 else min v (n:Int))=((sIx n d (some v):Nat):Int):=by
 show(if v<0 then max (v+(n:Int)) 0 else min v (n:Int))=(((if v<0 then(v+(n:Int)).toNat else min v.toNat n):Nat):Int)
 by_cases hv:v<0
 · simp only[if_pos hv];omega
 · simp only[if_neg hv];omega
theorem PX(lo hi:Option Int)(n:Nat):Builtin.Slice.sliceAdjust lo hi 1 (n:Int)=(((sIx n 0 lo:Nat):Int),((sIx n n hi:Nat):Int)):=by
 have h1:¬ ((1:Int)<0):=by omega
 unfold Builtin.Slice.sliceAdjust;simp only[h1,if_false];refine Prod.ext ?_ ?_
 · cases lo with
   | none=>rfl
   | some v=>exact Nk v n 0
 · cases hi with
   | none=>rfl
   | some v=>exact Nk v n n
theorem P0(i j:Nat):Builtin.Slice.slicePlaces (i:Int) (j:Int) 1=j - i:=by
 unfold Builtin.Slice.slicePlaces;have h1:(1:Int) > 0:=by omega
 simp only[h1,if_true,Int.ediv_one]
 split <;> omega
theorem Cj{v:Value}{o:Option Int}{Q:Option Int->Shared->Prop}(p:IsPart v o)(h:Q o s):wpAny (model prog w) A (Builtin.Slice.slicePartIndex v) Q E s:=by
 cases p with
 | none=>exact slicePart_none h
 | int i t=>exact slicePart_int h
theorem A_{sl:Addr}{vl vu:Value}{lo hi:Option Int}{n:Nat}{Q:Int × Int × Nat->Shared->Prop}(hs:s.heap.IsSliceOf sl vl vu .none)(pl:IsPart vl lo)(pu:IsPart vu hi)
 (h:Q (((sIx n 0 lo:Nat):Int),1,sIx n n hi - sIx n 0 lo) s):wpAny (model prog w) A (Builtin.Slice.sliceApplied (.ref sl) (pure (n:Int))) Q E s:=by
 obtain⟨os,hos,hcs,hds⟩:=id hs;unfold Builtin.Slice.sliceApplied Builtin.Slice.sliceFields;refine wpAny_bind (wpAny_bind (wpAny_field hos hds (x:=vl) rfl (wpAny_bind (wpAny_field hos hds (x:=vu) rfl (wpAny_bind (wpAny_field hos hds (x:=.none) rfl (wpAny_pure ?_)))))));refine wpAny_bind (slicePart_none ?_);show wpAny _ _ (if((1:Int)==0)=true then _ else _) _ _ s;rw[if_neg (by decide)];refine wpAny_bind (Cj pl (wpAny_bind (Cj pu (wpAny_bind (wpAny_pure ?_)))));show wpAny _ _ (match Builtin.Slice.sliceAdjust lo hi 1 (n:Int) with | (lo,hi)=>pure (lo,(1:Int),Builtin.Slice.slicePlaces lo hi 1)) _ _ s;rw[PX lo hi n];show wpAny _ _ (pure (((sIx n 0 lo:Nat):Int),(1:Int),Builtin.Slice.slicePlaces ((sIx n 0 lo:Nat):Int) ((sIx n n hi:Nat):Int) 1)) _ _ s;rw[P0];exact wpAny_pure h
theorem U8(xs:Array Value)(i k:Nat):((List.range k).filterMap fun(m:Nat)=>xs[((i:Int)+(m:Int)*1).toNat]?).toArray=((xs.toList.drop i).take k).toArray:=by
 have e:(fun(m:Nat)=>xs[((i:Int)+(m:Int)*1).toNat]?)=fun m=>xs[i+m]?:=by
  funext m
  have:((i:Int)+(m:Int)*1).toNat=i+m:=by omega
  rw[this]
 rw[e];have:=pick_run xs i k;rw[List.filterMap_map]at this;have e2:((fun x=>xs[x]?) ∘ fun x=>i+x)=fun m=>xs[i+m]?:=rfl;rw[e2]at this;rw[this]
theorem z_{t sl:Addr}{items:Array Value}{vl vu:Value}{lo hi:Option Int}{Q:Value->Shared->Prop}(ht:IsTup s.heap t items)(hs:s.heap.IsSliceOf sl vl vu .none)(pl:IsPart vl lo)(pu:IsPart vu hi)
 (hw:¬ (sIx items.size 0 lo=0/\sIx items.size items.size hi=items.size))
 (h:Q (.ref s.heap.objs.size) { s with heap:=s.heap.push { cls:=.type "tuple",data:=.seq ((items.toList.drop (sIx items.size 0 lo)).take (sIx items.size items.size hi - sIx items.size 0 lo)).toArray } })
 (hsz:items.size<=sizeLine):wpAny (model prog w) A (getItem (.ref t) (.ref sl)) Q E s:=by
 have Je:sizeOk (.seq ((items.toList.drop (sIx items.size 0 lo)).take (sIx items.size items.size hi - sIx items.size 0 lo)).toArray):=by
  show((items.toList.drop (sIx items.size 0 lo)).take (sIx items.size items.size hi - sIx items.size 0 lo)).toArray.size<=sizeLine;rw[List.size_toArray,List.length_take,List.length_drop,Array.length_toList];omega
 have hj:sIx items.size items.size hi<=items.size:=Zx _ _ (aA _) hi;obtain⟨os,hos,hcs,hds⟩:=id hs;have hTs:s.TypeIs (.ref sl) "slice":=⟨os,hos,hcs⟩;unfold getItem
 try with_reducible refine wpAny_holding ?_
 first | refine wpAny_bind (wpAny_pure ?_) | skip
 refine wpAny_bind (wpAny_sequenceKey ht.typeIs (by decide) ?_)
 refine wpAny_bind (wpAny_callSpecial?_slot (name:=Str.ofString "__getitem__") ht.typeIs PyProof.Rows.slot_tuple_getitem
  (wpAny_call_entry PyProof.Rows.slot_tuple_getitem ht.typeIs entry_tuple_getitem ?_ (args_tuple_getitem _ _)))
 show wpAny _ _ (Builtin.Tuple.tupleItemsOf (.ref t) >>= _) _ _ s;refine wpAny_bind (tupleItemsOf_ ht ?_);refine wpAny_bind (wpAny_typeOf hTs ?_);rw[if_pos (by decide)];refine wpAny_bind (A_ hs pl pu ?_)
 have hno:¬ ((((sIx items.size 0 lo:Nat):Int)==0&&(1:Int)==1&&(sIx items.size items.size hi - sIx items.size 0 lo)==items.size)=true):=by
  intro q;rw[Bool.and_eq_true,Bool.and_eq_true]at q;have q1:((sIx items.size 0 lo:Nat):Int)=0:=eq_of_beq q.1.1;have q2:sIx items.size items.size hi - sIx items.size 0 lo=items.size:=eq_of_beq q.2;exact hw ⟨by omega,by omega⟩
 show wpAny _ _ (if(((sIx items.size 0 lo:Nat):Int)==0&&(1:Int)==1&&(sIx items.size items.size hi - sIx items.size 0 lo)==items.size)=true then _ else _) _ _ s;rw[if_neg hno,U8]
 first
  | exact wpAny_bind (m:=Builtin.Tuple.tupleExact _) (wpAny_newObj_type (wpAny_pure ⟨_,rfl,wpAny_pure h⟩) Je)
  | exact wpAny_bind (m:=Builtin.Tuple.tupleExact _) (wpAny_newObj_type (wpAny_bind (wpAny_pure (wpAny_pure ⟨_,rfl,wpAny_pure h⟩))) Je)
  | exact wpAny_bind (wpAny_bind (m:=Builtin.Tuple.tupleExact _) (wpAny_newObj_type (wpAny_pure (wpAny_pure ⟨_,rfl,wpAny_pure h⟩)) Je))
  | exact wpAny_bind (wpAny_bind (m:=Builtin.Tuple.tupleExact _) (wpAny_newObj_type (wpAny_pure ⟨_,rfl,wpAny_pure h⟩) Je))
end
end HT
namespace L2
open PySem PySem.Spec PyProof.Rows
noncomputable abbrev TO:=St->Hp->(Option Int->Hp->Prop)->Prop
noncomputable def PO(X:Cx)(e:Option Expr)(t:TO):Prop:=
 ∀(pins:List (Addr × Obj)) (s:Shared) (σ:St) (H:Hp) (Q:Option Int->Hp->Prop),Inv X pins σ H s->t σ H Q->
  wpAny (model X.prog X.w) X.A (evalPart e X.env) (fun u s'=>∃ o H',Inv X pins σ H' s'/\IsPart u o/\Q o H') X.xe s
noncomputable def Nm:TO:=fun _ H Q=>Q none H
noncomputable def Wv(t:TE):TO:=fun σ H Q=>t σ H fun x H1=>∃ i,x= .int i/\Q (some i) H1
theorem intsAre_of{ns:List Int}:∀ {us:List Value},Vals (ns.map V.int) us->IntsAre us ns:=by
 induction ns with
 | nil=>intro us r;rw[List.map_nil]at r;cases r;exact .nil
 | cons n ns ih=>
   intro us r;rw[List.map_cons]at r
   cases r with
   | cons r1 r2=>
     obtain⟨t,e⟩:=r1;subst e;exact .cons n t (ih r2)
section
variable{X:Cx}{e:Expr}{te:TE}{lo hi:Option Expr}{tl th:TO}{pos p2:Pos}
theorem En:PO X none Nm:=by
 intro pins s σ H Q I h;rw[evalPart_none];exact wpAny_pure ⟨none,H,I,.none,h⟩
theorem Eo(h:PE X e te):PO X (some e) (Wv te):=by
 intro pins s σ H Q I hw;rw[evalPart_some];refine thn (h pins s σ H _ I hw) fun u s1 ⟨x,H1,I1,r1,q1⟩=>?_;obtain⟨i,rfl,q⟩:=q1;obtain⟨t,rfl⟩:=r1;exact⟨some i,H1,I1,.int i t,q⟩
noncomputable def SlR(X:Cx)(r:V->Option Int->Option Int->Hp->VK->Prop):Prop:=
 ∀(pins:List (Addr × Obj)) (s:Shared) (σ:St) (H:Hp) (x:V) (v vl vu:Value) (lo hi:Option Int) (sl:Addr) (Q:VK),Inv X pins σ H s->RelV x v->s.heap.IsSliceOf sl vl vu .none->IsPart vl lo->IsPart vu hi->r x lo hi H Q->
  ∃ T id,typeLookup (.type T) "__getitem__" =pure (some (.builtin id))/\s.TypeIs v T/\wpAny (model X.prog X.w) X.A (getItem v (.ref sl)) (EP X pins σ Q) X.xe s
theorem SlR.or{r r':V->Option Int->Option Int->Hp->VK->Prop}(h:SlR X r)(h':SlR X r'):SlR X (fun x lo hi H Q=>r x lo hi H Q\/r' x lo hi H Q):=by
 intro pins s σ H x v vl vu lo hi sl Q I rx hs pl pu q
 rcases q with q | q
 · exact h pins s σ H x v vl vu lo hi sl Q I rx hs pl pu q
 · exact h' pins s σ H x v vl vu lo hi sl Q I rx hs pl pu q
noncomputable def tSl(r:V->Option Int->Option Int->Hp->VK->Prop)(te:TE)(tl th:TO):TE:=fun σ H Q=>te σ H fun x H1=>tl σ H1 fun l H2=>th σ H2 fun u H3=>r x l u H3 Q
theorem Ba{r:V->Option Int->Option Int->Hp->VK->Prop}(hr:SlR X r)(he:PE X e te)(hl:PO X lo tl)(hu:PO X hi th):PE X (.Subscript e (.Slice lo hi none p2) pos) (tSl r te tl th):=by
 intro pins s σ H Q I h;refine Subscript_ (thn (he pins s σ H _ I h) fun v s1 ⟨x,H1,I1,r1,q1⟩=>?_);refine wpAny_Slice (thn (hl pins s1 σ H1 _ I1 q1) fun vl s2 ⟨l,H2,I2,pl,q2⟩=>thn (hu pins s2 σ H2 _ I2 q2) fun vu s3 ⟨u,H3,I3,pu,q3⟩=>?_);rw[evalPart_none];refine wpAny_pure ?_;have I4:Inv X pins σ H3 { s3 with heap:=s3.heap.push { cls:=.type "slice",data:=.fields #[vl,vu,.none] } }:=I3.kept (t':=s3.toks) fun b ob q=>Heap.get?_push_of_some _ q;obtain⟨T,id,hT,ht,hg⟩:=hr pins { s3 with heap:=s3.heap.push { cls:=.type "slice",data:=.fields #[vl,vu,.none] } } σ H3 x v vl vu l u s3.heap.objs.size Q I4 r1 (Heap.IsSliceOf.new ..) pl pu q3;show wpAny (model X.prog X.w) X.A (subscriptTail e (.Slice lo hi none p2) v (.ref s3.heap.objs.size)) (EP X pins σ Q) X.xe { s3 with heap:=s3.heap.push { cls:=.type "slice",data:=.fields #[vl,vu,.none] } };exact tail_any (ops:=[.ref s3.heap.objs.size,v]) ht hT hg (by with_unfolding_all rfl)
noncomputable def yo(xs:List V)(lo hi:Option Int):List V:=(xs.drop (HT.sIx xs.length 0 lo)).take (HT.sIx xs.length xs.length hi - HT.sIx xs.length 0 lo)
theorem Ai(xs:List V)(lo hi:Option Int):(yo xs lo hi).length<=xs.length:=by
 unfold yo;rw[List.length_take,List.length_drop];omega
noncomputable def Zy(K:ak):V->Option Int->Option Int->Hp->VK->Prop:=fun x lo hi H Q=>∃ a xs,x= .ref a/\SqT K H a xs/\
 ¬ (HT.sIx xs.length 0 lo=0/\HT.sIx xs.length xs.length hi=xs.length)/\∀ p,H p=none->Q (.ref p) (upd H p (.tup (yo xs lo hi)))
theorem Zz:SlR X (Zy X.K):=by
 intro pins s σ H x v vl vu lo hi sl Q I rx hs pl pu h;obtain⟨a,xs,rfl,hx,hw,q⟩:=h;cases rx;obtain⟨its,r,ht,hz⟩:=I.tuple hx;have hlen:its.toArray.size=xs.length:=by rw[List.size_toArray];exact r.length.symm
 refine⟨"tuple",_,PyProof.Rows.slot_tuple_getitem.lookup,ht.typeIs,?_⟩;refine HT.z_ ht hs pl pu (by rw[hlen];exact hw) ?_ (by rw[hlen];exact hz);rw[hlen];refine⟨.ref s.heap.objs.size,_,I.laid (t':=s.toks) (o:=.tup (yo xs lo hi)) (fun b ob q=>Heap.get?_push_of_some _ q) (aA _) ?_,rfl,q _ (I.hok.fresh (aA _))⟩;exact⟨Nat.le_trans (Ai xs lo hi) hz,_,(r.drop (HT.sIx xs.length 0 lo)).take (HT.sIx xs.length xs.length hi - HT.sIx xs.length 0 lo),IsTup.new _ _⟩
noncomputable def ZC(K:ak):R2:=fun x y H Q=>∃ a b ns ms,x= .ref a/\y= .ref b/\SqT K H a (ns.map V.int)/\SqT K H b (ms.map V.int)/\Q (.bl (HT.lexLt ns ms)) H
theorem yp(hu:X.A.units<cLine):OpR X (compareOp .Lt) (ZC X.K):=by
 intro pins s σ H x y v u Q I rx ry h;obtain⟨a,b,ns,ms,rfl,rfl,ha,hb,q⟩:=h;cases rx;cases ry;obtain⟨its,r1,p1,_⟩:=I.tuple ha;obtain⟨its2,r2,p2,_⟩:=I.tuple hb;have i1:IntsAre its.toArray.toList ns:=intsAre_of r1;have i2:IntsAre its2.toArray.toList ms:=intsAre_of r2;exact HT.PL p1 p2 i1 i2 hu ⟨.bl (HT.lexLt ns ms),H,I,rfl,q⟩
end
noncomputable def ixN(n:Nat)(i:Int):Option Nat:=if 0<=i then(if i<n then some i.toNat else none) else if -(n:Int)<=i then some (i+n).toNat else none
noncomputable def atI{α:Type}(xs:List α)(i:Int):Option α:=(ixN xs.length i).bind fun j=>xs[j]?
theorem Xv{n:Nat}{i:Int}{j:Nat}(h:ixN n i=some j):seqIndex? i n=some j/\j<n/\-(n:Int)<=i/\i<n:=by
 unfold ixN at h
 by_cases h0:0<=i
 · rw[if_pos h0]at h
   by_cases h1:i<n
   · rw[if_pos h1]at h;have e:i.toNat=j:=Option.some.inj h;exact⟨by rw[seqIndex_of h0 h1,e],by omega,by omega,h1⟩
   · rw[if_neg h1]at h;cases h
 · rw[if_neg h0]at h
   by_cases h1: -(n:Int)<=i
   · rw[if_pos h1]at h;have e:(i+n).toNat=j:=Option.some.inj h;exact⟨by rw[seqIndex_neg (by omega) h1,e],by omega,h1,by omega⟩
   · rw[if_neg h1]at h;cases h
theorem Ep{α:Type}{xs:List α}{i:Int}{v:α}(h:atI xs i=some v):∃ j,seqIndex? i xs.length=some j/\xs[j]? =some v/\j<xs.length/\-(xs.length:Int)<=i/\i<xs.length:=by
 unfold atI at h
 cases e:ixN xs.length i with
 | none=>rw[e]at h;cases h
 | some j=>
   rw[e]at h;obtain⟨h1,h2,h3,h4⟩:=Xv e;exact⟨j,h1,h,h2,h3,h4⟩
theorem Np{α:Type}{xs:List α}{j:Nat}{v:α}(h:xs[j]? =some v):atI xs (j:Int)=some v:=by
 have hj:j<xs.length:=(bu h).1
 have e:ixN xs.length (j:Int)=some j:=by
  unfold ixN;rw[if_pos (by omega),if_pos (by omega)];simp
 unfold atI;rw[e];exact h
noncomputable def Er(b:Expr):Prop:=∀ o i,subscripted b false o i=operate [o,i] (getItem o i)
noncomputable def IxR(X:Cx)(r:R2):Prop:=
 ∀(value slice:Expr) (pins:List (Addr × Obj)) (s:Shared) (σ:St) (H:Hp) (x y:V) (v u:Value) (Q:VK),Inv X pins σ H s->RelV x v->RelV y u->r x y H Q->
  subscripted slice false v u=operate [v,u] (getItem v u)->wpAny (model X.prog X.w) X.A (subscriptTail value slice v u) (EP X pins σ Q) X.xe s
noncomputable def MtR(X:Cx)(id:String)(r:V->List V->Hp->VK->Prop):Prop:=
 ∀(pins:List (Addr × Obj)) (s:Shared) (σ:St) (H:Hp) (x:V) (xs:List V) (v:Value) (us:List Value) (Q:VK),Inv X pins σ H s->RelV x v->Vals xs us->r x xs H Q->
  wpAny (model X.prog X.w) X.A (call (.builtin id) (v::us)) (EP X pins σ Q) X.xe s
section
variable{X:Cx}{a b:Expr}{ta tb:TE}{pos:Pos}
theorem IxR.or{r r':R2}(h:IxR X r)(h':IxR X r'):IxR X (fun x y H Q=>r x y H Q\/r' x y H Q):=by
 intro value slice pins s σ H x y v u Q I rx ry q hs
 rcases q with q | q
 · exact h value slice pins s σ H x y v u Q I rx ry q hs
 · exact h' value slice pins s σ H x y v u Q I rx ry q hs
theorem Ck{r:R2}(hr:IxR X r)(ha:PE X a ta)(hb:PE X b tb)(hs:Er b):PE X (.Subscript a b pos) (tOp r ta tb):=by
 intro pins s σ H Q I h;exact Subscript_ (UG ha hb I h fun v u s2 x y H2 I2 rx ry q=>hr a b pins s2 σ H2 x y v u Q I2 rx ry q (hs _ _))
noncomputable def ZD(K:ak):R2:=fun x y H Q=>∃ p xs i v,x= .ref p/\y= .int i/\SqL K H p xs/\atI xs i=some v/\Q v H
noncomputable def ZF(K:ak):R2:=fun x y H Q=>∃ p xs i v,x= .ref p/\y= .int i/\SqT K H p xs/\atI xs i=some v/\Q v H
noncomputable def ZG:R2:=fun x y H Q=>∃ z i c,x= .str z/\y= .int i/\z.length<=sizeLine/\atI z.cps.toList i=some c/\Q (.str ⟨#[c]⟩) H
theorem zF:IxR X (ZD X.K):=by
 intro value slice pins s σ H x y v u Q I rx ry h hs;obtain⟨p,xs,i,z,rfl,rfl,hq,he,q⟩:=h;cases rx;obtain⟨t,rfl⟩:=ry;obtain⟨its,r,pl,hz⟩:=I.list hq;obtain⟨j,h1,h2,h3,h4,h5⟩:=Ep he;obtain⟨w,ew,rw'⟩:=r.get h2;have hl:=r.length;have hn:=yg;have fin:EP X pins σ Q w s:=⟨z,H,I,rw',q⟩
 by_cases h0:0<=i
 · have hj:i.toNat=j:=by
    rw[seqIndex_of h0 h5]at h1;exact Option.some.inj h1
   exact item_listR pl.isList h0 (by omega) (by rw[hj];simpa using ew) fin hs
 · have hj:(i+(its.toArray.size:Int)).toNat=j:=by
    rw[seqIndex_neg (by omega) h4]at h1;rw[List.size_toArray,<- hl];exact Option.some.inj h1
   exact subscriptTail_builtinR (x:=w) pl.isList.typeIs slot_list_getitem.lookup
    (wpAny_getItem_list_neg (Q:=fun r s'=>r=w/\EP X pins σ Q r s') pl.isList (by omega) (by rw[List.size_toArray] <;> omega) (by omega) (by rw[hj];simpa using ew) ⟨rfl,fin⟩) hs
theorem ZJ:IxR X (ZF X.K):=by
 intro value slice pins s σ H x y v u Q I rx ry h hs;obtain⟨p,xs,i,z,rfl,rfl,hq,he,q⟩:=h;cases rx;obtain⟨t,rfl⟩:=ry;obtain⟨its,r,pl,hz⟩:=I.tuple hq;obtain⟨j,h1,h2,h3,h4,h5⟩:=Ep he;obtain⟨w,ew,rw'⟩:=r.get h2;have hl:=r.length;have hn:=yg;have fin:EP X pins σ Q w s:=⟨z,H,I,rw',q⟩
 exact subscriptTail_builtinR (x:=w) pl.typeIs slot_tuple_getitem.lookup
  (getItem_tuple (j:=j) (Q:=fun r s'=>r=w/\EP X pins σ Q r s') pl (by omega) (by omega) (by rw[List.size_toArray,<- hl];exact h1) (by simpa using ew) ⟨rfl,fin⟩) hs
theorem ZK:IxR X ZG:=by
 intro value slice pins s σ H x y v u Q I rx ry h hs;obtain⟨z,i,c,rfl,rfl,hz,he,q⟩:=h;obtain⟨t,rfl⟩:=rx;obtain⟨t',rfl⟩:=ry;obtain⟨j,h1,h2,h3,h4,h5⟩:=Ep he;have hl:z.cps.toList.length=z.length:=by simp[Str.length]
 rw[hl]at h1 h4 h5;have hn:=yg
 exact tail_any (typeIs_str s z t) slot_str_getitem.lookup (getItem_str (c:=c) (by
  have e1:decide (i < -(2 ^ 63:Int))=false:=decide_eq_false (by omega);have e2:decide (i >= 2 ^ 63)=false:=decide_eq_false (by omega)
  rw[e1,e2,Bool.or_false]) (by rw[h1];simpa using h2) ⟨.str ⟨#[c]⟩,H,I.tok _,⟨_,rfl⟩,q⟩) hs
noncomputable def rIx(K:ak):R2:=fun x y H Q=>ZD K x y H Q\/ZF K x y H Q\/ZG x y H Q
theorem ZL:IxR X (rIx X.K):=zF.or (ZJ.or ZK)
theorem JK(lo hi:Option Int)(n:Nat):(sliceBounds lo hi none n).1=((HT.sIx n 0 lo:Nat):Int)/\(sliceBounds lo hi none n).2.1=((HT.sIx n n hi:Nat):Int)/\(sliceBounds lo hi none n).2.2=1:=by
 refine⟨?_,?_,rfl⟩
 · cases lo with
   | none=>simp[sliceBounds,HT.sIx]
   | some i=>
     simp only[sliceBounds,HT.sIx,Option.getD_none,show(1:Int) > 0 by decide,if_true]
     by_cases h:i<0
     · simp only[h,if_true] <;> omega
     · simp only[h,if_false] <;> omega
 · cases hi with
   | none=>simp[sliceBounds,HT.sIx]
   | some i=>
     simp only[sliceBounds,HT.sIx,Option.getD_none,show(1:Int) > 0 by decide,if_true]
     by_cases h:i<0
     · simp only[h,if_true] <;> omega
     · simp only[h,if_false] <;> omega
theorem Hy(its:List Value)(lo hi:Option Int):slicePick its.toArray lo hi none=((its.drop (HT.sIx its.length 0 lo)).take (HT.sIx its.length its.length hi - HT.sIx its.length 0 lo)).toArray:=by
 obtain⟨h1,h2,h3⟩:=JK lo hi its.toArray.size;unfold slicePick;rw[h1,h2,h3];simp only[sliceRange_one,pick_run,List.size_toArray] <;> rfl
noncomputable def ZM(K:ak):V->Option Int->Option Int->Hp->VK->Prop:=fun x lo hi H Q=>∃ a xs,x= .ref a/\SqL K H a xs/\∀ p,H p=none->Q (.ref p) (upd H p (.lst (yo xs lo hi)))
theorem Es:SlR X (ZM X.K):=by
 intro pins s σ H x v vl vu lo hi sl Q I rx hs pl pu h;obtain⟨a,xs,rfl,hx,q⟩:=h;cases rx;obtain⟨its,r,ht,hz⟩:=I.list hx;have hlen:=r.length;refine⟨"list",_,slot_list_getitem.lookup,ht.isList.typeIs,?_⟩;refine wpAny_getItem_list_slice ht.isList hs pl pu .none (by simp) ?_ (by rw[List.size_toArray] <;> omega);rw[Hy,<- hlen];refine⟨.ref s.heap.objs.size,_,I.laid (t':=s.toks) (o:=.lst (yo xs lo hi)) (fun b ob q=>Heap.get?_push_of_some _ q) (aA _) ?_,rfl,q _ (I.hok.fresh (aA _))⟩;exact⟨Nat.le_trans (Ai xs lo hi) hz,_,0,(r.drop (HT.sIx xs.length 0 lo)).take (HT.sIx xs.length xs.length hi - HT.sIx xs.length 0 lo),Heap.get?_push_size _ rfl⟩
noncomputable def oO:V->Bool
 | .non=>true
 | .bl _=>true
 | .int _=>true
 | .str _=>true
 | _=>false
noncomputable def eqV:V->V->Bool
 | .non,.non=>true
 | .bl a,.bl b=>a==b
 | .bl a,.int b=>(if a then 1 else 0)==b
 | .int a,.bl b=>a==(if b then 1 else 0)
 | .int a,.int b=>a==b
 | .str a,.str b=>a==b
 | _,_=>false
theorem ZP{A:Around}{s:Shared}{y x:V}{u v:Value}(ry:RelV y u)(rx:RelV x v)(fy:oO y=true)(fx:oO x=true):SeqAt.EqAt A s u v (eqV y x):=by
 cases y with
 | non=>
   cases ry
   cases x with
   | non=>cases rx;exact SeqAt.EqAt.same _
   | bl b=>cases rx;exact SeqAt.EqAt.none_bool b
   | int b=>obtain⟨t,rfl⟩:=rx;exact SeqAt.EqAt.none_int b t
   | str b=>obtain⟨t,rfl⟩:=rx;exact SeqAt.EqAt.none_str b t
   | _=>exact absurd (show false=true from fx) Bool.false_ne_true
 | bl a=>
   cases ry
   cases x with
   | non=>cases rx;exact SeqAt.EqAt.bool_none a
   | bl b=>cases rx;exact SeqAt.EqAt.bool_bool a b
   | int b=>obtain⟨t,rfl⟩:=rx;exact SeqAt.EqAt.bool_int a b t
   | str b=>obtain⟨t,rfl⟩:=rx;exact SeqAt.EqAt.bool_str a b t
   | _=>exact absurd (show false=true from fx) Bool.false_ne_true
 | int a=>
   obtain⟨t',rfl⟩:=ry
   cases x with
   | non=>cases rx;exact SeqAt.EqAt.int_none a t'
   | bl b=>cases rx;exact SeqAt.EqAt.int_bool a t' b
   | int b=>obtain⟨t,rfl⟩:=rx;exact SeqAt.EqAt.int_int a t' b t
   | str b=>obtain⟨t,rfl⟩:=rx;exact SeqAt.EqAt.int_str a t' b t
   | _=>exact absurd (show false=true from fx) Bool.false_ne_true
 | str a=>
   obtain⟨t',rfl⟩:=ry
   cases x with
   | non=>cases rx;exact SeqAt.EqAt.str_none a t'
   | bl b=>cases rx;exact SeqAt.EqAt.str_bool a t' b
   | int b=>obtain⟨t,rfl⟩:=rx;exact SeqAt.EqAt.str_int a t' b t
   | str b=>obtain⟨t,rfl⟩:=rx;exact SeqAt.EqAt.str_str a t' b t
   | _=>exact absurd (show false=true from fx) Bool.false_ne_true
 | _=>exact absurd (show false=true from fy) Bool.false_ne_true
noncomputable def eqU(x:V)(u:Value):Bool:=match u with
 | .none=>eqV .non x
 | .bool b=>eqV (.bl b) x
 | .int i _=>eqV (.int i) x
 | .str z _=>eqV (.str z) x
 | _=>false
theorem R0{x y:V}{u:Value}(r:RelV y u)(f:oO y=true):eqU x u=eqV y x:=by
 cases y with
 | non=>cases r;rfl
 | bl b=>cases r;rfl
 | int i=>obtain⟨t,rfl⟩:=r;rfl
 | str z=>obtain⟨t,rfl⟩:=r;rfl
 | _=>exact absurd (show false=true from f) Bool.false_ne_true
theorem vg{x:V}:∀ {xs:List V} {us:List Value},Vals xs us->xs.all oO=true->us.any (eqU x)=xs.any fun y=>eqV y x
 | _,_,.nil,_=>rfl
 | y::xs,u::us,.cons r t,f=>by
   rw[List.all_cons,Bool.and_eq_true]at f;rw[List.any_cons,List.any_cons,R0 r f.1,vg t f.2]
theorem su{A:Around}{s:Shared}{x:V}{v:Value}(rx:RelV x v)(fx:oO x=true):∀ {xs:List V} {us:List Value},Vals xs us->xs.all oO=true->∀ u ∈ us,SeqAt.EqAt A s u v (eqU x u)
 | _,_,.nil,_=>fun u hu=>by cases hu
 | y::xs,u::us,.cons r t,f=>fun u' hu=>by
   rw[List.all_cons,Bool.and_eq_true]at f
   rcases List.mem_cons.mp hu with rfl | hu
   · rw[R0 r f.1];exact ZP r rx f.1 fx
   · exact su rx fx t f.2 u' hu
noncomputable def inV(x:V)(xs:List V):Bool:=xs.any fun y=>eqV y x
noncomputable def rIn(K:ak)(neg:Bool):R2:=fun x y H Q=>∃ p xs,y= .ref p/\(SqL K H p xs\/SqT K H p xs)/\oO x=true/\xs.all oO=true/\Q (.bl (if neg then !inV x xs else inV x xs)) H
theorem R1:OpR X (compareOp .In) (rIn X.K false):=by
 intro pins s σ H x y v u Q I rx ry h;obtain⟨p,xs,rfl,hq,fx,fs,q⟩:=h;cases ry
 rcases hq with hq | hq
 · obtain⟨its,r,pl,hz⟩:=I.list hq;refine SeqAt.in_listAt (eqU x) pl.isList (fun w hw=>su rx fx r fs w (by simpa using hw)) ⟨.bl _,H,I,rfl,?_⟩;rw[show its.toArray.any (eqU x)=its.any (eqU x) by simp,vg r fs];exact q
 · obtain⟨its,r,pl,hz⟩:=I.tuple hq;refine SeqAt.in_tupleAt (eqU x) pl (fun w hw=>su rx fx r fs w (by simpa using hw)) ⟨.bl _,H,I,rfl,?_⟩;rw[show its.toArray.any (eqU x)=its.any (eqU x) by simp,vg r fs];exact q
theorem mF:OpR X (compareOp .NotIn) (rIn X.K true):=by
 intro pins s σ H x y v u Q I rx ry h;obtain⟨p,xs,rfl,hq,fx,fs,q⟩:=h;cases ry
 rcases hq with hq | hq
 · obtain⟨its,r,pl,hz⟩:=I.list hq;refine SeqAt.notIn_listAt (eqU x) pl.isList (fun w hw=>su rx fx r fs w (by simpa using hw)) ⟨.bl _,H,I,rfl,?_⟩;rw[show its.toArray.any (eqU x)=its.any (eqU x) by simp,vg r fs];exact q
 · obtain⟨its,r,pl,hz⟩:=I.tuple hq;refine SeqAt.notIn_tupleAt (eqU x) pl (fun w hw=>su rx fx r fs w (by simpa using hw)) ⟨.bl _,H,I,rfl,?_⟩;rw[show its.toArray.any (eqU x)=its.any (eqU x) by simp,vg r fs];exact q
theorem bF:lW X (.builtin "len") (fun xs H Q=>∃ p ys,xs= [.ref p]/\(SqL X.K H p ys\/SqT X.K H p ys)/\Q (.int ys.length) H):=by
 intro pins s σ H xs us Q I r h;obtain⟨p,ys,rfl,hq,q⟩:=h;obtain⟨u,rfl,rx⟩:=vals1 r;cases rx;have hn:=yg
 rcases hq with hq | hq
 · obtain⟨its,r',pl,hz⟩:=I.list hq;have hlen:=r'.length;exact Calls.call_len_list pl.isList (by simp only[List.size_toArray] <;> omega) ⟨.int ys.length,H,I.tok _,⟨s.toks+1,by rw[List.size_toArray,hlen]⟩,q⟩
 · obtain⟨its,r',pl,hz⟩:=I.tuple hq;have hlen:=r'.length;exact len_tuple pl (by simp only[List.size_toArray] <;> omega) ⟨.int ys.length,H,I.tok _,⟨s.toks+1,by rw[List.size_toArray,hlen]⟩,q⟩
theorem JL:lW X (.type "list") (fun xs H Q=>∃ p ys,xs= [.ref p]/\(SqL X.K H p ys\/SqT X.K H p ys)/\∀ l,H l=none->Q (.ref l) (upd H l (.lst ys))):=by
 intro pins s σ H xs us Q I r h;obtain⟨p,ys,rfl,hq,q⟩:=h;obtain⟨u,rfl,rx⟩:=vals1 r;cases rx
 have fin:∀(its:List Value),Vals ys its->ys.length<=sizeLine->∀(h':Heap) (c':Nat),(∀ b o',s.heap.get? b=some o'->h'.get? b=some o')->
  h'.get? s.heap.objs.size=some { cls:=.type "list",dict:=none,data:=.seq its.toArray c',slots:=#[] }->EP X pins σ Q (.ref s.heap.objs.size) { s with heap:=h' }:=fun its r' hz h' c' kp e=>
  ⟨.ref s.heap.objs.size,_,I.laid (t':=s.toks) kp (aA _) (show bO X.prog X.w _ h' _ (.lst ys) from ⟨hz,its,c',r',e⟩),rfl,q _ (I.hok.fresh (aA _))⟩
 rcases hq with hq | hq
 · obtain⟨its,r',pl,hz⟩:=I.list hq;have hlen:=r'.length;obtain⟨o,ho,hc,n,hd⟩:=pl.isList;exact call_list_seq p (.inl rfl) ho hc hd (fun h' c' kp e=>fin its r' hz h' c' kp e) (by simp only[List.size_toArray] <;> omega)
 · obtain⟨its,r',pl,hz⟩:=I.tuple hq;have hlen:=r'.length;obtain⟨o,ho,hc,n,hd⟩:=pl;exact call_list_seq p (.inr rfl) ho hc hd (fun h' c' kp e=>fin its r' hz h' c' kp e) (by simp only[List.size_toArray] <;> omega)
noncomputable def tyV(K:ak)(T:String)(x:V)(H:Hp):Prop:=match x with
 | .str _=>T= "str"
 | .int _=>T= "int"
 | .ref p=>(T= "list"/\∃ xs,SqL K H p xs)\/(T= "tuple"/\∃ o,K.lookup p=some o/\o.cls= .type "tuple"/\o.dict=none)\/
    (T= "dict"/\((∃ kvs,H p=some (.dK kvs))\/∃ kvs,H p=some (.dT kvs)))\/(T= "set"/\∃ S n,H p=some (.set S n))
 | _=>False
theorem R3{pins:List (Addr × Obj)}{σ:St}{H:Hp}{s:Shared}{T:String}{x:V}{v:Value}(I:Inv X pins σ H s)(r:RelV x v)(ty:tyV X.K T x H):
 s.TypeIs v T/\∀ a,v= .ref a->∃ ob,s.heap.get? a=some ob/\ob.dict=none:=by
 cases x with
 | str z=>
   obtain⟨t,rfl⟩:=r;cases (show T= "str" from ty)
   exact⟨typeIs_str s z t,fun _ e=>nomatch e⟩
 | int i=>
   obtain⟨t,rfl⟩:=r;cases (show T= "int" from ty)
   exact⟨typeIs_int s i t,fun _ e=>nomatch e⟩
 | ref p=>
   cases r
   rcases ty with ⟨rfl,xs,hq⟩ | ⟨rfl,o,hk,hc,hd⟩ | ⟨rfl,hk⟩ | ⟨rfl,S,n,hk⟩
   · obtain⟨its,_,pl,_⟩:=I.list hq;refine⟨pl.isList.typeIs,fun a e=>?_⟩;cases e;obtain⟨o,n,e,c,hd,_⟩:=pl;exact⟨o,e,hd⟩
   · refine⟨⟨o,I.kIn p o hk,hc⟩,fun a e=>?_⟩;cases e;exact⟨o,I.kIn _ o hk,hd⟩
   · have z:∃ o,s.heap.get? p=some o/\o.ExactDict:=by
      rcases hk with ⟨kvs,hk⟩ | ⟨kvs,hk⟩
      · obtain⟨_,_,_,_,o,_,_,e,ex,_⟩:=I.hok p _ hk;exact⟨o,e,ex⟩
      · obtain⟨_,_,_,_,o,_,_,e,ex,_⟩:=I.hok p _ hk;exact⟨o,e,ex⟩
     obtain⟨o,e,ex⟩:=z;refine⟨⟨o,e,ex.1⟩,fun a e2=>?_⟩;cases e2;exact⟨o,e,ex.2.1⟩
   · obtain⟨o,_,_,_,e,ex,_⟩:=I.hok p _ hk;refine⟨⟨o,e,ex.1⟩,fun a e2=>?_⟩;cases e2
     exact⟨o,e,ex.2.1⟩
 | _=>exact False.elim ty
noncomputable def ZQ(K:ak)(T:String)(r:V->List V->Hp->VK->Prop)(to:TE):TE:=fun σ H Q=>to σ H fun x H1=>tyV K T x H1/\r x [] H1 Q
noncomputable def tBM(K:ak)(T:String)(r:V->List V->Hp->VK->Prop)(to:TE)(t:TA):TE:=fun σ H Q=>to σ H fun x H1=>tyV K T x H1/\t σ H1 fun xs H2=>r x xs H2 Q
variable{o e:Expr}{es:List Expr}{to:TE}{t:TA}{name:Str}{apos cpos:Pos}{T id:String}{r:V->List V->Hp->VK->Prop}
theorem ZR(pa:PlainAttrs T)(slot:Slot T name id)(hty:typeOf (.builtin id)=pure (.type "method_descriptor"))(hm:MtR X id r)(ho:PE X o to)
 (hbase:attributeBase o name X.env (eval o X.env)=eval o X.env:=by rfl) (hline:(apos.endLine==cpos.line)=true:=by rfl):PE X (.Call (.Attribute o name apos) [] [] cpos) (ZQ X.K T r to):=by
 intro pins s σ H Q I h;refine wpAny_Call_method0_late hbase hline (thn (ho pins s σ H _ I h) fun v s1 ⟨x,H1,I1,r1,ty,q1⟩=>?_);obtain⟨h1,h2⟩:=R3 I1 r1 ty;exact⟨T,id,pa,slot,hty,h1,h2,Calls.callWith_builtin rfl (PySem.evalArgs_none (hm pins s1 σ H1 x [] v [] Q I1 r1 .nil q1))⟩
theorem Jf(pa:PlainAttrs T)(slot:Slot T name id)(hty:typeOf (.builtin id)=pure (.type "method_descriptor"))(hm:MtR X id r)(ho:PE X o to)(ha:PA X (e::es) t)
 (hbase:attributeBase o name X.env (eval o X.env)=eval o X.env:=by rfl)
 (hfew:((backTo cpos (starEach (e::es) X.env)).all (fun x=> !x.1)&&(backToKw cpos (keywordEach [] X.env)).all (fun x=>x.1.isSome)
   && decide ((e::es).length+([]:List Keyword).length+(if([]:List Keyword).isEmpty then 0 else 1)<30))=true:=by rfl)
 (hline:(apos.endLine==cpos.line)=true:=by rfl) (hs:starEach (e::es) X.env=(false,eval e X.env)::starEach es X.env:=by rfl) (hplain:(backTo cpos (starEach es X.env)).any (·.1)=false:=by rfl):
 PE X (.Call (.Attribute o name apos) (e::es) [] cpos) (tBM X.K T r to t):=by
 intro pins s σ H Q I h;refine wpAny_Call_method_late hbase hfew hline rfl (thn (ho pins s σ H _ I h) fun v s1 ⟨x,H1,I1,r1,ty,q1⟩=>?_);obtain⟨h1,h2⟩:=R3 I1 r1 ty;refine⟨T,id,pa,slot,hty,h1,h2,?_⟩;have hA:=ha cpos pins s1 σ H1 _ I1 q1;rw[hs]at hA ⊢;refine Calls.callWith_builtin (by show(false||(backTo cpos (starEach es X.env)).any (·.1))=false;rw[hplain] <;> rfl) (Calls.evalArgs_plain ?_);exact thn hA fun us s2 ⟨vs,H2,I2,r2,q2⟩=>hm pins s2 σ H2 x vs v us Q I2 r1 r2 q2
end
noncomputable def MtM(X:Cx)(id:String)(r:V->List V->Hp->VK->Prop):Prop:=
 ∀(pins:List (Addr × Obj)) (s:Shared) (σ:St) (H:Hp) (x:V) (xs:List V) (v:Value) (us:List Value) (Q:VK),Inv X pins σ H s->RelV x v->Vals xs us->r x xs H Q->
  wpAny (model X.prog X.w) X.A (call (.builtin id) (v::us)) (EP X pins σ Q) X.xe s
theorem Vals.one:∀ {x:V} {us:List Value},Vals [x] us->∃ u,us= [u]/\RelV x u
 | _,_,.cons r .nil=>⟨_,rfl,r⟩
theorem Vals.zero:∀ {us:List Value},Vals [] us->us= []
 | _,.nil=>rfl
theorem Vals.dropLast{xs:List V}{us:List Value}(h:Vals xs us):Vals xs.dropLast us.dropLast:=by
 induction h with
 | nil=>exact .nil
 | cons r t ih=>
   cases t with
   | nil=>exact .nil
   | cons q t'=>exact .cons r ih
theorem Vals.rep{xs:List V}{us:List Value}(h:Vals xs us):∀ k:Nat,Vals (List.replicate k xs).flatten (List.replicate k us).flatten
 | 0=>.nil
 | k+1=>by
   rw[List.replicate_succ,List.replicate_succ,List.flatten_cons,List.flatten_cons];exact Vals.append h (Vals.rep h k)
theorem P_{α:Type}(l:List α):l.eraseIdx (l.length - 1)=l.dropLast:=by
 induction l with
 | nil=>rfl
 | cons a r ih=>
   cases r with
   | nil=>rfl
   | cons b r=>
     have e:(a::b::r).length - 1=((b::r).length - 1)+1:=by
      have h1:(a::b::r).length=r.length+2:=rfl;have h2:(b::r).length=r.length+1:=rfl;omega
     rw[e,List.eraseIdx_cons_succ,ih]
     all_goals rfl
theorem foldl_rep(its:List Value):∀(k:Nat) (acc:List Value),
 List.foldl (fun x1 x2=>x1++x2) acc.toArray (List.replicate k its.toArray)=(acc++(List.replicate k its).flatten).toArray
 | 0,acc=>by simp
 | k+1,acc=>by
   have e:acc.toArray++its.toArray=(acc++its).toArray:=by simp
   have e2:(acc++its)++(List.replicate k its).flatten=acc++(List.replicate (k+1) its).flatten:=by
    rw[List.replicate_succ,List.flatten_cons,List.append_assoc]
   rw[<- e2,<- foldl_rep its k (acc++its),<- e,List.replicate_succ,List.foldl_cons]
section
variable{X:Cx}{pins:List (Addr × Obj)}{σ:St}{H:Hp}{s:Shared}{l b:Addr}{xs ys zs:List V}
theorem Inv.U9{its its':List Value}{n:Nat}{f:Array Value->Array Value}{t':Nat}(I:Inv X pins σ H s)(hH:H l=some (.lst xs))
 (e:s.heap.get? l=some { cls:=.type "list",data:=.seq its.toArray n }) (hf:f its.toArray=its'.toArray) (hv:Vals ys its') (hz:ys.length<=sizeLine):
 Inv X pins σ (upd H l (.lst ys)) { s with heap:=s.heap.update l (Obj.mapSeq f),toks:=t' }:=by
 have q:=PySem.IsL.update e f;rw[hf]at q;refine I.write (x:=l) (e:=l) (by rw[hH];exact trivial) (.inl rfl) (fun b' u hb hu=>(Heap.get?_update_other s.heap (Obj.mapSeq f) (Ne.symm hb)).trans hu) ⟨_,q⟩ ?_;exact⟨hz,its',_,hv,q⟩
theorem Inv.U_{its:List Value}{t':Nat}(I:Inv X pins σ H s)(hv:Vals ys its)(hz:ys.length<=sizeLine):
 Inv X pins σ (upd H s.heap.objs.size (.lst ys)) { s with heap:=s.heap.push { cls:=.type "list",data:=.seq its.toArray },toks:=t' }:=
 I.laid (fun _ _ q=>Heap.get?_push_of_some _ q) (aA _) ⟨hz,its,0,hv,Heap.get?_push_size _ rfl⟩
theorem Inv.fresh(I:Inv X pins σ H s):H s.heap.objs.size=none:=I.hok.fresh (aA _)
theorem Inv.Bb(I:Inv X pins σ H s)(hH:H l=some (.lst xs)):xs.length<=sizeLine/\∃(its:List Value) (n:Nat),Vals xs its/\xs.length=its.length/\s.heap.get? l=some { cls:=.type "list",data:=.seq its.toArray n }:=by
 obtain⟨z,its,n,r,e⟩:=I.hok l _ hH;exact⟨z,its,n,r,r.length,e⟩
theorem JM{n:Nat}(h:n<=sizeLine):Builtin.List.listTooLong n=false:=by
 unfold Builtin.List.listTooLong;exact decide_eq_false (by omega)
end
section
variable{X:Cx}
noncomputable def Nq:V->List V->Hp->VK->Prop:=fun x vs H Q=>∃ l xs y,x= .ref l/\vs= [y]/\H l=some (.lst xs)/\xs.length<sizeLine/\Q .non (upd H l (.lst (xs ++ [y])))
theorem jm:MtM X "list.append" Nq:=by
 intro pins s σ H x vs v us Q I rx rv h;obtain⟨l,xs,y,rfl,rfl,hH,hz,q⟩:=h;cases rx;obtain⟨u,rfl,ru⟩:=rv.one;obtain⟨z,its,n,r,hl,e⟩:=I.Bb hH;refine call_meets F.slot_list_append ⟨_,e,rfl⟩ F.entry_list_append (F.args_list_append_2 _ _) (PySem.list_append l its.toArray n u (by rw[List.size_toArray];omega)) ⟨e,?_⟩;refine⟨.non,_,I.U9 (its':=its ++ [u]) hH e (by simp) (r.append (.cons ru .nil)) ?_,rfl,q⟩;rw[List.length_append,List.length_singleton];omega
noncomputable def Nr:V->List V->Hp->VK->Prop:=fun x vs H Q=>∃ l b xs zs,x= .ref l/\vs= [.ref b]/\H l=some (.lst xs)/\H b=some (.lst zs)/\xs.length+zs.length<=sizeLine/\Q .non (upd H l (.lst (xs++zs)))
theorem R4:MtM X "list.extend" Nr:=by
 intro pins s σ H x vs v us Q I rx rv h;obtain⟨l,b,xs,zs,rfl,rfl,hH,hB,hz,q⟩:=h;cases rx;obtain⟨u,rfl,ru⟩:=rv.one;cases ru;obtain⟨z,its,n,r,hl,e⟩:=I.Bb hH;obtain⟨z2,its2,n2,r2,hl2,e2⟩:=I.Bb hB;have hsz:its.toArray.size+its2.toArray.size<=sizeLine:=by rw[List.size_toArray,List.size_toArray];omega
 have Qa:¬ (!its.toArray.isEmpty&&Builtin.List.listTooLong (its.toArray.size+its2.toArray.size))=true:=by
  rw[JM hsz,Bool.and_false];exact Bool.false_ne_true
 refine call_meets F.slot_list_extend ⟨_,e,rfl⟩ F.entry_list_extend (F.args_list_extend_2 _ _)
  (AutoSeq1.list_extend_list_list_0 l its.toArray n b its2.toArray n2 Qa (by rw[List.size_toArray];omega) (by omega)) ⟨e,e2,?_⟩
 refine⟨.non,_,I.U9 (its':=its++its2) hH e (by simp) (r.append r2) ?_,rfl,q⟩;rw[List.length_append];omega
noncomputable def ZS:V->List V->Hp->VK->Prop:=fun x vs H Q=>∃ l xs y,x= .ref l/\vs= []/\H l=some (.lst xs)/\xs[xs.length - 1]? =some y/\Q y (upd H l (.lst xs.dropLast))
theorem ZV:MtM X "list.pop" ZS:=by
 intro pins s σ H x vs v us Q I rx rv h;obtain⟨l,xs,y,rfl,rfl,hH,hy,q⟩:=h;cases rx;have hus:=rv.zero;subst hus;obtain⟨z,its,n,r,hl,e⟩:=I.Bb hH;obtain⟨u,hu,ru⟩:=r.get hy
 have hy':its.toArray[its.toArray.size - 1]? =some u:=by
  show its.toArray[its.length - 1]? =some u;rw[<- Array.getElem?_toList,<- hl];exact hu
 refine call_meets F.slot_list_pop ⟨_,e,rfl⟩ F.entry_list_pop (F.args_list_pop_1 _) (MeetsSeq.list_pop_last l its.toArray n u hy' (by rw[List.size_toArray];omega)) ⟨e,?_⟩;refine⟨y,_,I.U9 (its':=its.dropLast) hH e ?_ r.dropLast ?_,ru,q⟩
 · show its.toArray.eraseIdxIfInBounds (its.toArray.size - 1)=its.dropLast.toArray;rw[List.size_toArray,List.eraseIdxIfInBounds_toArray,P_]
 · rw[List.length_dropLast];omega
noncomputable def ZW:R2:=fun x y H Q=>∃ l b xs zs,x= .ref l/\y= .ref b/\H l=some (.lst xs)/\H b=some (.lst zs)/\xs.length+zs.length<=sizeLine/\∀ p,H p=none->Q (.ref p) (upd H p (.lst (xs++zs)))
theorem cM:OpR X (binaryOp .Add) ZW:=by
 intro pins s σ H x y v u Q I rx ry h;obtain⟨l,b,xs,zs,rfl,rfl,hH,hB,hz,q⟩:=h;cases rx;cases ry;obtain⟨z,its,n,r,hl,e⟩:=I.Bb hH;obtain⟨z2,its2,n2,r2,hl2,e2⟩:=I.Bb hB;refine PySem.P.add_list e e2 ?_ (by rw[List.size_toArray,List.size_toArray];omega);have ea:its.toArray++its2.toArray=(its++its2).toArray:=by simp
 rw[ea];exact⟨.ref _,_,I.U_ (t':=s.toks) (r.append r2) (by rw[List.length_append];omega),rfl,q _ I.fresh⟩
noncomputable def ZX:R2:=fun x y H Q=>∃ l k xs,x= .ref l/\y= .int k/\H l=some (.lst xs)/\-(2 ^ 63)<=k/\k<2 ^ 63/\xs.length*k.toNat<=sizeLine/\
 ∀ p,H p=none->Q (.ref p) (upd H p (.lst (List.replicate k.toNat xs).flatten))
theorem len_rep{α:Type}(xs:List α)(k:Nat):(List.replicate k xs).flatten.length=k*xs.length:=by
 induction k with
 | zero=>simp
 | succ k ih=>rw[List.replicate_succ,List.flatten_cons,List.length_append,ih,Nat.succ_mul,Nat.add_comm]
theorem mG:OpR X (binaryOp .Mult) ZX:=by
 intro pins s σ H x y v u Q I rx ry h;obtain⟨l,k,xs,rfl,rfl,hH,h1,h2,hz,q⟩:=h;cases rx;obtain⟨t,rfl⟩:=ry;obtain⟨z,its,n,r,hl,e⟩:=I.Bb hH;have hlen:its.toArray.size*k.toNat<=sizeLine:=by rw[List.size_toArray,<- hl];exact hz
 have hcap:¬ its.toArray.size*k.toNat > (2 ^ 63 - 1) / 8:=by
  have:(sizeLine:Nat)<=(2 ^ 63 - 1) / 8:=by decide
  omega
 have hfit:¬ (!Builtin.List.listFitsIndex k)=true:=by
  rw[fitsIndex_both h1 h2];exact Bool.false_ne_true
 have Qa:¬ Builtin.List.listTooLong (its.toArray.size*k.toNat)=true:=by
  rw[JM hlen];exact Bool.false_ne_true
 have hnew:List.foldl (fun x1 x2=>x1++x2) #[] (List.replicate (if its.toArray.isEmpty=true then 0 else k.toNat) its.toArray)=(List.replicate k.toNat its).flatten.toArray:=by
  have f0:∀ m:Nat,List.foldl (fun x1 x2=>x1++x2) #[] (List.replicate m its.toArray)=(List.replicate m its).flatten.toArray:=fun m=>by
   have:=foldl_rep its m [];rw[List.nil_append]at this;exact this
  rw[f0]
  cases its with
  | nil=>simp
  | cons a r'=>rw[if_neg (by simp)]
 refine wpAny_binaryOp_repeat_ref (T:="list") (U:="int") (by decide) ⟨_,e,rfl⟩ (fun s'=>typeIs_int s' k t) noFill_list_mul F.fills_int_mul F.slot_int_rmul repeat_list F.slot_int_index.lookup
  (call_meets F.slot_int_rmul (typeIs_int s k t) F.entry_int_rmul (F.args_int_rmul_2 _ _) (int___rmul___int_list k t l its.toArray n)
    ⟨e,rfl,⟨_,e,rfl⟩,call_meets F.slot_list_mul ⟨_,e,rfl⟩ F.entry_list_mul (F.args_list_mul_2 _ _) (AutoListH.list___mul___list_int_3 l its.toArray n k t hfit hcap Qa) ⟨e,?_⟩⟩)
 rw[hnew];exact⟨.ref _,_,I.U_ (t':=s.toks) (r.rep k.toNat) (by rw[len_rep,Nat.mul_comm];exact hz),rfl,q _ I.fresh⟩
end
section
variable{prog:Program}{w:World}{A:Around}{E:Value->Shared->Prop}{s:Shared}
set_option maxRecDepth 100000 in
end
end L2
namespace Att
open PySem PySem.W PySem.Calls PyProof.Rows
theorem Cm{P:Params}{h:Heap}:∀(ns:List Int) (vs:List Value),WellAll P h vs (ns.map WData.int)->IntsAre vs ns:=by
 intro ns
 induction ns with
 | nil=>
   intro vs w;rw[List.map_nil]at w;cases w
   exact .nil
 | cons n ns ih=>
   intro vs w;rw[List.map_cons]at w
   cases w with
   | cons a b=>
     cases a;exact .cons _ _ (ih _ b)
theorem R5{l:OpenLaw}{n:Nat}(hn:l.most=some n){P:Params}{h:Heap}{args:List WData}{vals:List Value}
 (hpre:l.row.toRowW.claim.pre args=true) (hwl:WellAll P h vals args):
 ∃ a vs ns,vals= [Value.ref a]/\args= [WData.list (ns.map WData.int)]/\h.get? a=some { cls:=.type "list",data:=.seq vs.toArray }/\IntsAre vs ns/\ns.length<=n:=by
 have hsh:WShape.hasAll [] args [.list .int] =true:=(pre_splitW hpre).1;have hc:l.pre.holds [] { args:=args } =true:=(pre_splitW hpre).2;obtain⟨d,r,rfl,h1,h2⟩:=hasAllW_cons hsh;obtain rfl:=hasAllW_nil h2;obtain⟨xs,rfl,h3⟩:=hasW_list h1;obtain⟨ns,rfl⟩:=items_int h3
 have hlen:ns.length<=n:=by
  unfold OpenLaw.pre at hc
  have h4:(WTm.not (.lt (.lit (.int (n:Int))) (.len (.arg 0)))).holds [] { args:=[.list (ns.map .int)] } =true:=by
   have h4:=(holds_andW hc).1;rw[hn]at h4;exact h4
  have h5:=condW_of h4 (w_not (w_lt w_lit (w_len_list (w_arg rfl))));rw[List.length_map]at h5;refine Nat.le_of_not_lt fun q=>?_;have q':(n:Int)<((ns.length:Nat):Int):=by omega
  first
   | (rw[decide_eq_true q']at h5;exact absurd h5 (by decide))
   | (simp at h5;omega)
 cases hwl with
 | cons w1 w2=>
   cases w2
   cases w1 with
   | list ho hall=>exact⟨_,_,ns,rfl,rfl,ho,Cm ns _ hall,hlen⟩
theorem R6(l:OpenLaw)(args:List WData):l.row.toRowW.claim.post args (.bool true) args=true:=
 postW_of (r:=l.row.toRowW) (X:=(true==true))
  (show WShape.has [] (.bool true) .bool=true by first | rfl | decide | simp[WShape.has,WShape.arms,WShape.armsAll])
  (show(WTm.eq .res (.lit (.bool true))).value [] { args:=args,res:=some (.bool true),after:=args } =some (.bool (true==true)) from w_eq_bool (w_res rfl) w_lit) rfl
theorem Mu{l:OpenLaw}{n:Nat}{q:Program}{loose:List Str}{XP:(Str->Option Value)->Heap->Prop}{YP:World->Heap->Prop}{d:DefRec}
 (hn:l.most=some n) (hdf:d.params.defaults= [])
 (call:∀(w:World) (s₀ s₁:Shared) (mg mb:Str->Option Value) (fa:Addr) (o:Obj) (pm cd doc:Value) (a:Addr) (vs:List Value) (ns:List Int),
   Ground q loose [] XP w s₀ mg mb s₁.heap->YP w s₁.heap->
   s₁.heap.get? fa=some o->o.data= .func (docDef d.name d.params d.body d.scope pm cd doc)->s₁.heap.CodeRec cd d.name->mg d.name=some (.ref fa)->
   s₁.heap.get? a=some { cls:=.type "list",data:=.seq vs.toArray }->IntsAre vs ns->ns.length<=n->s₁.gens= #[]->
   codeAny (model l.prog w) callerA (.call (.ref fa) ⟨[.ref a],[]⟩) (fun r s'=>r= .ok (.ret (.bool true))/\OldK s₁.heap s'.heap/\s'.os=s₁.os/\AllBare s'.gens) s₁):
 WalkO q loose XP YP l.row.toRowW d [] (fun f vs=>PySem.call f vs):=by
 intro w s₀ s₁ mg mb G Y fa o pm cd doc dV kV ho hd hcd hD hmg hg args vals as hpre hlay hrd hwl hlo;obtain rfl:dV= .none:=Dflts.none hD hdf;obtain rfl:kV= .none:=Dflts.noKw hD;obtain⟨a,vs,ns,rfl,rfl,hobj,hints,hlen⟩:=R5 hn hpre hwl;refine enter_call (codeAny_mono (call w s₀ s₁ mg mb fa o pm cd doc a vs ns G Y ho (fd_plain hd) hcd hmg hobj hints hlen hg) fun r s' hq=>?_);obtain⟨rfl,h2,h3,h4⟩:=hq;exact⟨.inl ⟨.bool true,.bool true,[],rfl,fun _=>rfl,.bool true,R6 l _,fun _=>⟨List.Pairwise.nil,fun _ hm=>(nomatch hm)⟩⟩,h2,h3,h4⟩
end Att
namespace L2
open PySem PySem.Spec PyProof.Rows
theorem GR:∀ {vs:List Value} {ns:List Int},IntsAre vs ns->Vals (ns.map V.int) vs
 | _,_,.nil=>.nil
 | _,_,.cons n t h=>.cons ⟨t,rfl⟩ (GR h)
noncomputable def inClass(s:Stmt)(j:Nat):Stmt:=match s with
 | .ClassDef _ _ _ body _ _ _ _ _ _ _=>body.getD j (.Pass ⟨0,0,0,0⟩)
 | _=>.Pass ⟨0,0,0,0⟩
noncomputable def iw(s:Stmt):Arguments:=match s with
 | .FunctionDef _ a _ _ _ _ _ _ _ _=>a
 | _=>{ posonlyargs:=[],args:=[],vararg:=none,kwonlyargs:=[],kw_defaults:=[],kwarg:=none,defaults:=[] }
noncomputable def bA(s:Stmt):List Stmt:=match s with
 | .FunctionDef _ _ b _ _ _ _ _ _ _=>b
 | _=>[]
noncomputable def aj(s:Stmt):Scope:=match s with
 | .FunctionDef _ _ _ _ _ _ sc _ _ _=>sc
 | _=>{ kind:=.function,names:=[],isGenerator:=false,isCoroutine:=false }
noncomputable abbrev CX0:CXT:=fun _ _ _ _ _ _=>False
noncomputable abbrev E0:XK:=fun _ _ _=>False
theorem ug{X:Cx}:Passes CX0 X E0:=fun _ _ _ _ _ _ _ h=>h.elim
structure Fun (K:ak)(x qual:Str)(st:Stmt)(f:Addr)(fd:FuncData):Prop where
 ex:∃(oc:Value) (od:Option Addr) (kV doc pm:Value) (an:Option Addr) (cdv ct:Value) (osl:Array (Option Value)),
  fd=PySem.W.fnOf x qual (iw st) (bA st) (aj st) .none kV doc pm an cdv ct/\K.lookup f=some ⟨oc,od,.func fd,osl⟩/\PySem.W.codeIn K cdv qual=true
 kp:PySem.W.keepIn K (.ref f)=true
section
variable{P:Program}{w:World}{K:ak}{mg:Str->Option Value}{base:Heap}
theorem Fun.ok{x qual:Str}{st:Stmt}{f:Addr}{fd:FuncData}{N ps:List Str}{k:Nat}{sp:Sp}(F:Fun K x qual st f fd)(S:aD N ps (aj st))(len:∀ vs H Q E,sp vs H Q E->vs.length=ps.length)
 (hbody:∀(cdv:Value) (A:Around) (outer:List Env) (s:Shared) (H:Hp) (vs:List V) (Q:VK) (E:XK),bD k (A.deeper (envOfC qual (aj st) s.heap.objs.size f cdv))->sp vs H Q E->
   ∃ t,PSs (cB CX0 P w K mg base N qual (aj st) f cdv A outer s H E).nox (bA st) t/\t { nx:=fun _ H'=>Q .non H',rt:=Q } (start N vs) H):bB P w K mg base CX0 (k+1) f fd ps sp:=by
 obtain⟨oc,od,kV,doc,pm,an,cdv,ct,osl,rfl,lk,hcd⟩:=F.ex;refine PJ lk hcd S len fun A outer s H vs Q E hr hsp=>?_;obtain⟨t,h,q⟩:=hbody cdv A outer s H vs Q E hr hsp;exact⟨t,h.nox,q⟩
theorem Fun.binds{x qual:Str}{st:Stmt}{f:Addr}{fd:FuncData}{ps:List Str}(F:Fun K x qual st f fd)
 (h:∀(kV doc pm:Value) (an:Option Addr) (cdv ct:Value) (us:List Value),us.length=ps.length->bindArgs (PySem.W.fnOf x qual (iw st) (bA st) (aj st) .none kV doc pm an cdv ct) ⟨us,[]⟩ =pure (ps.zip us)):Binds K fd ps []:=by
 obtain⟨oc,od,kV,doc,pm,an,cdv,ct,osl,rfl,lk,hcd⟩:=F.ex;exact .all (h kV doc pm an cdv ct)
theorem Cp{x qual:Str}{st:Stmt}{f:Addr}{oc:Value}{od an:Option Addr}{osl:Array (Option Value)}{kV doc pm cdv ct:Value}(l:K.lookup f=some ⟨oc,od,.func (PySem.W.fnOf x qual (iw st) (bA st) (aj st) .none kV doc pm an cdv ct),osl⟩)
 (c:PySem.W.codeIn K cdv qual=true) (k:PySem.W.keepIn K (.ref f)=true):Fun K x qual st f (PySem.W.fnOf x qual (iw st) (bA st) (aj st) .none kV doc pm an cdv ct):=⟨⟨oc,od,kV,doc,pm,an,cdv,ct,osl,rfl,l,c⟩,k⟩
end
theorem R7{n:Nat}(h:n<=1000):n<sizeLine:=Nat.lt_of_le_of_lt h (by decide)
section
variable{X:Cx}
theorem pv(i:Nat){x:Str}{pos:Pos}(hN:X.N[i]? =some x:=by rfl)(hv:Vis X.env.scope x:=by first | exact Or.inl rfl | exact Or.inr (Or.inl rfl) | exact Or.inr (Or.inr rfl))(hd:(x==("__debug__":Str))=false:=by decide)
 (hcd:(x==("__classdict__":Str))=false:=by decide):PE X (.Name x pos) (Zc i):=Cd hN hv hd hcd
end
theorem vU{A B:Prop}(h:B):if false=true then A else B:=by
 rw[if_neg Bool.false_ne_true];exact h
theorem vV{A B:Prop}(h:A):if true=true then A else B:=by
 rw[if_pos rfl];exact h
theorem Qc{c A B:Prop}[Decidable c](h1:c->A)(h2:¬ c->B):if c then A else B:=by
 by_cases h:c
 · rw[if_pos h];exact h1 h
 · rw[if_neg h];exact h2 h
noncomputable def eO(H H':Hp):Prop:=∀ b o,H b=some o->H' b=some o
theorem eO.trans{H H1 H2:Hp}(a:eO H H1)(b:eO H1 H2):eO H H2:=fun c o h=>b c o (a c o h)
end L2
set_option maxRecDepth 1000000
set_option maxHeartbeats 4000000
namespace L2
open PySem PySem.Spec PyProof.Rows
section
variable{κ:Type}[DecidableEq κ]
noncomputable def pH(kvs:List (κ × V))(k:κ):Option V:=(kvs.find? fun kv=>decide (kv.1=k)).map (·.2)
noncomputable def putK(kvs:List (κ × V))(k:κ)(v:V):List (κ × V):=
 if(kvs.any fun kv=>decide (kv.1=k))=true then kvs.map (fun kv=>if kv.1=k then(kv.1,v) else kv) else kvs ++ [(k,v)]
theorem vW{p:κ × V}{r:List (κ × V)}{k:κ}(e:p.1=k):pH (p::r) k=some p.2:=by simp[pH,List.find?_cons,e]
theorem vX{p:κ × V}{r:List (κ × V)}{k:κ}(e:¬ p.1=k):pH (p::r) k=pH r k:=by simp[pH,List.find?_cons,e]
theorem Bc(k:κ):∀ kvs:List (κ × V),(kvs.any fun kv=>decide (kv.1=k))=(pH kvs k).isSome
 | []=>rfl
 | p::r=>by
   rw[List.any_cons]
   by_cases e:p.1=k
   · simp only[vW e,decide_eq_true e,Bool.true_or,Option.isSome_some]
   · rw[vX e,decide_eq_false e,Bool.false_or];exact Bc k r
theorem Aj(kvs:List (κ × V))(k:κ)(v:V):(putK kvs k v).length<=kvs.length+1:=by
 unfold putK
 split
 · rw[List.length_map];omega
 · rw[List.length_append,List.length_cons,List.length_nil];omega
theorem mj.R8{o:Option V}{u:Option Value}(r:mj o u):o.isSome=u.isSome:=by
 cases o with
 | none=>cases u with
   | none=>rfl
   | some _=>exact(show False from r).elim
 | some _=>cases u with
   | none=>exact(show False from r).elim
   | some _=>rfl
theorem KV.val{kvs:List (κ × V)}{vs:List (κ × Value)}(r:KV kvs vs)(k:κ):mj (pH kvs k) (valueAt vs k):=by
 unfold KV at r
 induction r with
 | nil=>exact True.intro
 | @cons p q ps qs h t ih=>
   obtain⟨h1,h2⟩:=h
   by_cases e:p.1=k
   · have e':q.1=k:=h1.symm.trans e;have b:valueAt (q::qs) k=some q.2:=by simp[valueAt,List.find?_cons,e']
     rw[vW e,b];exact h2
   · have e':¬ q.1=k:=fun z=>e (h1.trans z);have b:valueAt (q::qs) k=valueAt qs k:=by simp[valueAt,List.find?_cons,e']
     rw[vX e,b];exact ih
theorem KV.any{kvs:List (κ × V)}{vs:List (κ × Value)}(r:KV kvs vs)(k:κ):(kvs.any fun kv=>decide (kv.1=k))=vs.any fun kv=>decide (kv.1=k):=by
 unfold KV at r
 induction r with
 | nil=>rfl
 | cons h t ih=>rw[List.any_cons,List.any_cons,ih,h.1]
theorem KV.repl{kvs:List (κ × V)}{vs:List (κ × Value)}(r:KV kvs vs)(k:κ){y:V}{u:Value}(ry:RelV y u):
 KV (kvs.map fun kv=>if kv.1=k then(kv.1,y) else kv) (vs.map fun kv=>if kv.1=k then(kv.1,u) else kv):=by
 unfold KV at r ⊢
 induction r with
 | nil=>exact .nil
 | @cons p q ps qs h t ih=>
   rw[List.map_cons,List.map_cons];refine .cons ?_ ih;obtain⟨h1,h2⟩:=h
   by_cases e:p.1=k
   · rw[if_pos e,if_pos (h1.symm.trans e)];exact⟨h1,ry⟩
   · rw[if_neg e,if_neg (fun z=>e (h1.trans z))];exact⟨h1,h2⟩
theorem KV.put{kvs:List (κ × V)}{vs:List (κ × Value)}(r:KV kvs vs)(k:κ){y:V}{u:Value}(ry:RelV y u):KV (putK kvs k y) (stored vs k u):=by
 unfold putK stored;rw[r.any k]
 by_cases e:(vs.any fun kv=>decide (kv.1=k))=true
 · rw[if_pos e,if_pos e];exact r.repl k ry
 · rw[if_neg e,if_neg e];exact Paired.snoc r ⟨rfl,ry⟩
theorem KV.length{kvs:List (κ × V)}{vs:List (κ × Value)}(r:KV kvs vs):kvs.length=vs.length:=Paired.length r
end
theorem Qd{P:Program}{w:World}{k:Key}{u:Value}(r:RelV (kV k) u):(gH P w).is k u=true:=by
 cases k with
 | inl i=>obtain⟨t,e⟩:=(show ∃ t,u=Value.int i t from r);subst e;exact Mr P w i t
 | inr x=>obtain⟨t,e⟩:=(show ∃ t,u=Value.str x t from r);subst e;exact Ms P w x t
theorem GX{P:Program}{w:World}:∀ {ks:List Key} {us:List Value},Vals (ks.map kV) us->ItemsAre (gH P w) ks us
 | [],_,r=>by rw[List.map_nil]at r;cases r;exact .nil
 | k::ks,_,r=>by
   rw[List.map_cons]at r
   cases r with
   | cons h t=>exact .cons (Qd h) (GX t)
noncomputable abbrev KT(H:Hp):List (List Key × V)->List (List Key × Addr × Value)->Prop:=Paired fun p q=>p.1=q.1/\H q.2.1=some (.tup (p.1.map kV))/\RelV p.2 q.2.2
theorem KT.val{H:Hp}{kvs:List (List Key × V)}{xs:List (List Key × Addr × Value)}(r:KT H kvs xs)(k:List Key):mj (pH kvs k) ((atKey xs k).map (·.2)):=by
 induction r with
 | nil=>exact True.intro
 | @cons p q ps qs h t ih=>
   obtain⟨h1,_,h2⟩:=h
   by_cases e:p.1=k
   · have e':q.1=k:=h1.symm.trans e;have b:atKey (q::qs) k=some q.2:=by simp[atKey,List.find?_cons,e']
     rw[vW e,b];exact h2
   · have e':¬ q.1=k:=fun z=>e (h1.trans z);have b:atKey (q::qs) k=atKey qs k:=by simp[atKey,List.find?_cons,e']
     rw[vX e,b];exact ih
theorem KT.repl{H:Hp}{kvs:List (List Key × V)}{xs:List (List Key × Addr × Value)}(r:KT H kvs xs)(k:List Key){y:V}{u:Value}(ry:RelV y u):
 KT H (kvs.map fun kv=>if kv.1=k then(kv.1,y) else kv) (xs.map (putAt k u)):=by
 induction r with
 | nil=>exact .nil
 | @cons p q ps qs h t ih=>
   rw[List.map_cons,List.map_cons];refine .cons ?_ ih;obtain⟨h1,h2,h3⟩:=h;unfold putAt
   by_cases e:p.1=k
   · rw[if_pos e,if_pos (h1.symm.trans e)];exact⟨h1,h2,ry⟩
   · rw[if_neg e,if_neg (fun z=>e (h1.trans z))];exact⟨h1,h2,h3⟩
theorem KT.put{H:Hp}{kvs:List (List Key × V)}{xs:List (List Key × Addr × Value)}(r:KT H kvs xs)(k:List Key){b:Addr}{y:V}{u:Value}(hb:H b=some (.tup (k.map kV)))(ry:RelV y u):
 KT H (putK kvs k y) (storedH xs k b u):=by
 have e:(kvs.any fun kv=>decide (kv.1=k))=(atKey xs k).isSome:=by
  rw[Bc,(r.val k).R8,Option.isSome_map]
 unfold putK storedH;rw[e]
 by_cases q:(atKey xs k).isSome=true
 · rw[if_pos q,if_pos q];exact r.repl k ry
 · rw[if_neg q,if_neg q];exact Paired.snoc r ⟨rfl,hb,ry⟩
theorem KT.keeps{H H':Hp}{kvs:List (List Key × V)}{xs:List (List Key × Addr × Value)}(r:KT H kvs xs)(ht:∀ b ys,H b=some (.tup ys)->H' b=some (.tup ys)):KT H' kvs xs:=
 Paired.nU r fun _ _ z=>⟨z.1,ht _ _ z.2.1,z.2.2⟩
section
variable{P:Program}{w:World}{H:Hp}{h:Heap}{a:Addr}
theorem Ww{u:HO}(ok:HOk P w H h)(e:Rd H a u):bO P w H h a u:=e.ok ok
theorem Qe{kvs:List (Key × V)}(ok:HOk P w H h)(e:Rd H a (.dK kvs)):kvs.length<=sizeLine/\(a==sysModules)=false/\∃ vs,KV kvs vs/\h.DictOf (gH P w) a vs:=
 show bO P w H h a (.dK kvs) from Ww ok e
theorem abS{kvs:List (Key × V)}(ok:HOk P w H h)(e:H a=some (.dK kvs)):kvs.length<=sizeLine/\(a==sysModules)=false/\∃ vs,KV kvs vs/\h.DictOf (gH P w) a vs:=Qe ok (.inl e)
theorem JN{ks:List Key}(ok:HOk P w H h)(e:H a=some (.tup (ks.map kV))):(tupleKind (gH P w)).is h ks a:=by
 obtain⟨_,its,r,o,h1,h2,n,h3⟩:=(show bO P w H h a (.tup (ks.map kV)) from ok a _ e);exact⟨o,its.toArray,n,h1,h2,h3,by simpa using GX r⟩
theorem Qf{kvs:List (List Key × V)}(ok:HOk P w H h)(e:Rd H a (.dT kvs)):kvs.length<=sizeLine/\(a==sysModules)=false/\
 ∃ xs,KT H kvs xs/\h.DictOfH (tupleKind (gH P w)) a xs:=by
 obtain⟨z,y,xs,r,o,es,ep,h1,h2,h3,h4,h5⟩:=(show bO P w H h a (.dT kvs) from Ww ok e);refine⟨z,y,xs,r,o,es,ep,h1,h2,h3,h4,fun x hx=>?_,h5⟩
 have all:∀ {l:List (List Key × V)} {m:List (List Key × Addr × Value)},KT H l m->∀ x ∈ m,(tupleKind (gH P w)).is h x.1 x.2.1:=by
  intro l m q
  induction q with
  | nil=>intro x hx;exact nomatch hx
  | @cons p q ps qs hq t ih=>
    intro x hx
    rcases List.mem_cons.mp hx with e | hx
    · subst e;exact JN ok (by rw[<- hq.1];exact hq.2.1)
    · exact ih x hx
 exact all r x hx
theorem abT{kvs:List (List Key × V)}(ok:HOk P w H h)(e:H a=some (.dT kvs)):kvs.length<=sizeLine/\(a==sysModules)=false/\
 ∃ xs,KT H kvs xs/\h.DictOfH (tupleKind (gH P w)) a xs:=Qf ok (.inl e)
end
noncomputable def Et(H:Hp)(a:Addr)(y:V)(r:Option V):Prop:=
 (∃ kvs k,Rd H a (.dK kvs)/\y=kV k/\r=pH kvs k)\/∃ kvs k b,Rd H a (.dT kvs)/\y= .ref b/\H b=some (.tup (k.map kV))/\r=pH kvs k
noncomputable def JP(H:Hp)(a:Addr)(y v:V)(H':Hp):Prop:=
 (∃ kvs k,H a=some (.dK kvs)/\y=kV k/\kvs.length<sizeLine/\H'=upd H a (.dK (putK kvs k v)))\/
 ∃ kvs k b,H a=some (.dT kvs)/\y= .ref b/\H b=some (.tup (k.map kV))/\kvs.length<sizeLine/\H'=upd H a (.dT (putK kvs k v))
theorem Et.k{H:Hp}{a:Addr}{kvs:List (Key × V)}{k:Key}(e:H a=some (.dK kvs)):Et H a (kV k) (pH kvs k):=.inl ⟨kvs,k,.inl e,rfl,rfl⟩
theorem JP.k{H:Hp}{a:Addr}{kvs:List (Key × V)}{k:Key}{v:V}(e:H a=some (.dK kvs))(hl:kvs.length<sizeLine):JP H a (kV k) v (upd H a (.dK (putK kvs k v))):=.inl ⟨kvs,k,e,rfl,hl,rfl⟩
section
variable{X:Cx}{pins:List (Addr × Obj)}{σ:St}{H:Hp}{s:Shared}{a:Addr}{y v:V}{u r:Value}{o:Option V}{A:Around}{E:Value->Shared->Prop}
theorem Inv.big(I:Inv X pins σ H s):sysModules<s.heap.objs.size:=by
 have h:mainGlobals<s.heap.objs.size:=(I.mod.glob.keeps I.bk).lt;exact Nat.lt_trans (by decide) h
theorem R9{Q:Value->Shared->Prop}(hu:A.units+1<cLine)(I:Inv X pins σ H s)(g:Et H a y (some v))(ry:RelV y u)(h:∀ w' s',Inv X pins σ H s'->RelV v w'->Q w' s'):
 wpAny (model X.prog X.w) A (getItem (.ref a) u) Q E s:=by
 rcases g with ⟨kvs,k,e,ey,l⟩ | ⟨kvs,k,b,e,ey,eb,l⟩
 · subst ey;obtain⟨z,hd,vs,rel,dd⟩:=Qe I.hok e;obtain⟨w',hw,rw'⟩:=mj.some_of (v:=v) (o:=valueAt vs k) (by rw[l];exact rel.val k);exact wpAny_getItem_of (Qd ry) dd.mapOf hw (h w' _ (I.tok _) rw')
 · subst ey;cases (show u=Value.ref b from ry);obtain⟨z,hd,xs,rel,dd⟩:=Qf I.hok e;obtain⟨w',hw,rw'⟩:=mj.some_of (v:=v) (o:=(atKey xs k).map (·.2)) (by rw[l];exact rel.val k);obtain⟨p,hp,hp2⟩:=Option.map_eq_some_iff.mp hw;refine wpAny_getItem_heap (tupleKind_room_in1 hu) (JN I.hok eb) dd hp ?_;rw[hp2];exact h w' _ (I.tok _) rw'
theorem Nt{h':Heap}{t':Nat}{ob:HO}(I:Inv X pins σ H s)(mu:Mut (H a))(hs:Heap.SameBut a s.heap h')(he:∃ q,h'.get? a=some q)(new:bO X.prog X.w (upd H a ob) h' a ob):
 Inv X pins σ (upd H a ob) { s with heap:=h',toks:=t' }:=
 I.write (x:=a) (e:=a) mu (.inl rfl) (fun b q hb z=>(hs.2 b hb).trans z) he new
theorem ZZ{P:Program}{w:World}{H':Hp}{h':Heap}{kvs:List (Key × V)}{vs:List (Key × Value)}(z:kvs.length<=sizeLine)(hd:(a==sysModules)=false)(rel:KV kvs vs)(dd:h'.DictOf (gH P w) a vs):
 bO P w H' h' a (.dK kvs):=⟨z,hd,vs,rel,dd⟩
theorem R_{H':Hp}{Q:Unit->Shared->Prop}(hu:A.units+1<cLine)(I:Inv X pins σ H s)(g:JP H a y v H')(ry:RelV y u)(rv:RelV v r)(h:∀ s',Inv X pins σ H' s'->Q () s'):
 wpAny (model X.prog X.w) A (setItem (.ref a) u r) Q E s:=by
 rcases g with ⟨kvs,k,e,ey,l,eH⟩ | ⟨kvs,k,b,e,ey,eb,l,eH⟩
 · subst ey eH;obtain⟨z,hd,vs,rel,dd⟩:=abS I.hok e;have hz:vs.length<=sizeLine:=by rw[<- rel.length];exact z
   have hl:(putK kvs k v).length<=sizeLine:=by have:=Aj kvs k v;omega
   refine wpAny_setItem_pairs (hsz:=hz) (Qd ry) dd fun h' dd' hs=>h _ ?_;have he:∃ q,h'.get? a=some q:=let ⟨q,_,_,hq,_⟩:=dd';⟨q,hq⟩;exact Nt I (by rw[e];exact True.intro) hs he (ZZ hl hd (rel.put k rv) dd')
 · subst ey eH;cases (show u=Value.ref b from ry);obtain⟨z,hd,xs,rel,dd⟩:=abT I.hok e;have hz:xs.length<=sizeLine:=by rw[<- Paired.length rel];exact z
   have hl:(putK kvs k v).length<=sizeLine:=by have:=Aj kvs k v;omega
   refine wpAny_setItem_heap (hsz:=hz) (tupleKind_room_in1 hu) (JN I.hok eb) dd fun h' dd' hs=>h _ ?_;obtain⟨q,es,ep,hq,h2,h3,h4,_,h5⟩:=dd';refine Nt I (by rw[e];exact True.intro) hs ⟨q,hq⟩ ⟨hl,hd,_,(rel.put k eb rv).keeps fun c ys ec=>?_,q,es,ep,hq,h2,h3,h4,h5⟩;rw[aB (Wq ec e (fun z=>nomatch z))];exact ec
end
theorem Mv{X:Cx}{pins:List (Addr × Obj)}{σ:St}{H:Hp}{s:Shared}{a:Addr}{y:V}{o:Option V}(I:Inv X pins σ H s)(g:Et H a y o):s.TypeIs (.ref a) "dict":=by
 rcases g with ⟨kvs,k,e,_,_⟩ | ⟨kvs,k,b,e,_,_,_⟩
 · obtain⟨_,_,vs,_,dd⟩:=Qe I.hok e;exact dd.typeIs
 · obtain⟨_,_,xs,_,dd⟩:=Qf I.hok e;exact dd.typeIs
noncomputable def Wx(td ty tv:TE):TS:=fun D σ H=>tv σ H fun v H1=>td σ H1 fun x H2=>ty σ H2 fun y H3=>∃ a H4,x= .ref a/\JP H3 a y v H4/\D.nx σ H4
section
variable{X:Cx}{o i e value:Expr}{pos pos' tpos:Pos}{td ty tv:TE}
theorem Xw(hu:X.A.units+1<cLine)(ho:PE X o td)(hi:PE X i ty)(hv:PE X value tv)(hs:swapsWith value (some (.Subscript o i pos')) pos.line X.env=pure false):
 PS X (.Assign [.Subscript o i pos'] value pos) (Wx td ty tv):=by
 intro pins s σ H D I h;refine wpAny_Assign_Subscript (thn (hv pins s σ H _ I h) fun r s1 ⟨v,H1,I1,rv,q1⟩=>thn (ho pins s1 σ H1 _ I1 q1) fun u s2 ⟨x,H2,I2,rx,q2⟩=>thn (hi pins s2 σ H2 _ I2 q2) fun iv s3 ⟨y,H3,I3,ry,a,H4,ex,g,q3⟩=>?_) hs;subst ex;obtain rfl:u=Value.ref a:=rx;exact R_ hu I3 g ry rv fun s4 I4=>⟨σ,H4,I4,q3⟩
end
theorem Va{P:Program}{w:World}{H:Hp}(h:Heap)(hb:sysModules<h.objs.size):bO P w H (h.push { cls:=.type "dict",data:=.dict #[] }) h.objs.size (.dK []):=
 ⟨Nat.zero_le _,beq_eq_false_iff_ne.mpr (Ne.symm (Nat.ne_of_lt hb)),[],.nil,Heap.DictOf.new h⟩
noncomputable def Z0:TE:=fun _ H Q=>∀ p,H p=none->Q (.ref p) (upd H p (.dK []))
section
variable{X:Cx}{pos:Pos}
theorem Vb:PE X (.Dict [] [] pos) Z0:=fun pins s σ H Q I h=>
 wpAny_Dict_empty ⟨.ref s.heap.objs.size,_,I.laid (a:=s.heap.objs.size) (o:=.dK []) (t':=s.toks) (fun _ _ q=>Heap.get?_push_of_some _ q) (aA _) (Va s.heap I.big),rfl,h _ (I.hok.fresh (aA _))⟩
end
noncomputable def Sd:List (TE × TE)->St->Hp->(List (V × V)->Hp->Prop)->Prop
 | [],_,H,Q=>Q [] H
 | (tk,tv)::r,σ,H,Q=>tk σ H fun x H1=>tv σ H1 fun y H2=>Sd r σ H2 fun ps H3=>Q ((x,y)::ps) H3
noncomputable abbrev VV:List (V × V)->List (Value × Value)->Prop:=Paired fun p q=>RelV p.1 q.1/\RelV p.2 q.2
noncomputable def PPs(X:Cx)(pos:Pos)(keys:List (Option Expr))(values:List Expr)(trs:List (TE × TE)):Prop:=
 ∀(pins:List (Addr × Obj)) (s:Shared) (σ:St) (H:Hp) (Q:List (V × V)->Hp->Prop),Inv X pins σ H s->Sd trs σ H Q->
  wpAny (model X.prog X.w) X.A (evalPairs (pairTrees keys values X.env pos)) (fun vs s'=>∃ ps H',Inv X pins σ H' s'/\VV ps vs/\Q ps H') X.xe s
structure M1 (X:Cx)(o:Expr)(m:Str)(apos:Pos)(e:Expr)(cpos:Pos):Prop where
 base:attributeBase o m X.env (eval o X.env)=eval o X.env
 few:((backTo cpos (starEach [e] X.env)).all (fun x=> !x.1)&&(backToKw cpos (keywordEach [] X.env)).all (fun x=>x.1.isSome)
  && decide (([e]:List Expr).length+([]:List Keyword).length+(if([]:List Keyword).isEmpty then 0 else 1)<30))=true
 line:(apos.endLine==cpos.line)=true
 trees:backTo cpos (starEach [e] X.env)= [(false,eval e X.env)]
structure M2 (X:Cx)(o:Expr)(m:Str)(apos:Pos)(e f:Expr)(cpos:Pos):Prop where
 base:attributeBase o m X.env (eval o X.env)=eval o X.env
 few:((backTo cpos (starEach [e,f] X.env)).all (fun x=> !x.1)&&(backToKw cpos (keywordEach [] X.env)).all (fun x=>x.1.isSome)
  && decide (([e,f]:List Expr).length+([]:List Keyword).length+(if([]:List Keyword).isEmpty then 0 else 1)<30))=true
 line:(apos.endLine==cpos.line)=true
 trees:backTo cpos (starEach [e,f] X.env)= [(false,eval e X.env),(false,eval f X.env)]
end L2
namespace L2
open PySem PySem.Spec PySem.SeqAt PyProof.Rows
theorem log2_lt_of{n k:Nat}(hk:0<k)(h:n<2 ^ k):n.log2<k:=by
 rcases Nat.eq_zero_or_pos n with h0 | hp
 · rw[h0];exact hk
 · exact(Nat.log2_lt (Nat.ne_of_gt hp)).mpr h
noncomputable def Sml(i:Int):Prop:=i.natAbs<2 ^ 4000
theorem Ak{i:Int}(h:Sml i):Builtin.Int.intBits i<=2 ^ 20:=by
 have hl:i.natAbs.log2<4000:=log2_lt_of (by decide) h;have e:(2:Nat) ^ 20=1048576:=by decide
 unfold Builtin.Int.intBits
 split <;> omega
noncomputable def Jg(i j:Int):Prop:=UT i j\/(Sml i/\Sml j)
noncomputable def Wy(j:Int):Prop:=j ≠ 0/\Sml j
section
variable{X:Cx}
theorem d9:OpR X (binaryOp .Mult) (rI Jg fun i j=>.int (i*j)):=opI fun _ _ _ _ _ _ _ hc q=>by
 rcases hc with hc | ⟨h1,h2⟩
 · exact mul_int q hc.ok
 · exact mul_int q (IntMulOk.of_bits (Ak h1) (Ak h2))
theorem vY:OpR X (binaryOp .FloorDiv) (rI (fun _ j=>Wy j) fun i j=>.int (i.fdiv j)):=opI fun i j _ _ _ _ _ hc q=>
 floordiv_int hc.1 q (.inl (PyProof.noPylong_of_log2 (bH (log2_lt_of (k:=4000) (by decide) hc.2) (by decide))))
noncomputable def ac7(K:ak):List V->Hp->VK->Prop:=fun xs H Q=>∃ x n t b,xs= [x,.ty n]/\pG K H x t/\PySem.W.kitOne K t (.type n)=some b/\Q (.bl b) H
theorem Vc:lW X (.builtin "isinstance") (ac7 X.K):=by
 intro pins s σ H xs us Q I r h;obtain⟨x,n,t,b,rfl,ty,e,q⟩:=h;obtain⟨u,v,rfl,ru,rv⟩:=vals2 r;cases (show v=Value.type n from rv);exact RZ I ru ty e fun tk=>⟨.bl b,H,I.tok _,rfl,q⟩
end
mutual
inductive Rep (H:Hp):V->PyData->Prop
 | non:Rep H .non .none
 | bl (b):Rep H (.bl b) (.bool b)
 | int (i):Rep H (.int i) (.int i)
 | str (x):Rep H (.str x) (.str x)
 | lst {a xs ds}:H a=some (.lst xs)->fZ H xs ds->Rep H (.ref a) (.list ds)
 | tup {a xs ds}:H a=some (.tup xs)->fZ H xs ds->Rep H (.ref a) (.tuple ds)
inductive fZ (H:Hp):List V->List PyData->Prop
 | nil:fZ H [] []
 | cons {v vs d ds}:Rep H v d->fZ H vs ds->fZ H (v::vs) (d::ds)
end
mutual
theorem Rep.mono{H H':Hp}(e:eO H H'):∀ {v:V} {d:PyData},Rep H v d->Rep H' v d
 | _,_,.non=>.non
 | _,_,.bl b=>.bl b
 | _,_,.int i=>.int i
 | _,_,.str x=>.str x
 | _,_,.lst h r=>.lst (e _ _ h) (fZ.mono e r)
 | _,_,.tup h r=>.tup (e _ _ h) (fZ.mono e r)
theorem fZ.mono{H H':Hp}(e:eO H H'):∀ {vs:List V} {ds:List PyData},fZ H vs ds->fZ H' vs ds
 | _,_,.nil=>.nil
 | _,_,.cons r t=>.cons (Rep.mono e r) (fZ.mono e t)
end
mutual
theorem Rep.reads{P:Program}{w:World}{H:Hp}{h:Heap}(ok:HOk P w H h):∀ {v:V} {d:PyData} {u:Value},Rep H v d->RelV v u->∃ as,Reads h u d as
 | _,_,_,.non,r=>by cases r;exact⟨_,.none⟩
 | _,_,_,.bl b,r=>by cases r;exact⟨_,.bool b⟩
 | _,_,_,.int i,r=>by obtain⟨t,rfl⟩:=r;exact⟨_,.int i t⟩
 | _,_,_,.str x,r=>by obtain⟨t,rfl⟩:=r;exact⟨_,.str x t⟩
 | _,_,_,.lst (a:=a) (xs:=xs) e ra,r=>by
   cases r;obtain⟨_,its,n,rv,ho⟩:=(show bO P w H h a (.lst xs) from ok a _ e);obtain⟨as,q⟩:=fZ.reads ok ra rv
   exact⟨_,.list ho rfl rfl (by simpa using q)⟩
 | _,_,_,.tup (a:=a) (xs:=xs) e ra,r=>by
   cases r;obtain⟨_,its,rv,o,ho,hc,n,hd⟩:=(show bO P w H h a (.tup xs) from ok a _ e);obtain⟨as,q⟩:=fZ.reads ok ra rv;exact⟨_,.tuple ho hc hd (by simpa using q)⟩
theorem fZ.reads{P:Program}{w:World}{H:Hp}{h:Heap}(ok:HOk P w H h):∀ {vs:List V} {ds:List PyData} {us:List Value},fZ H vs ds->Vals vs us->∃ as,ReadsAll h us ds as
 | _,_,_,.nil,.nil=>⟨_,.nil⟩
 | _,_,_,.cons r t,.cons rv tv=>by
   obtain⟨as,q1⟩:=Rep.reads ok r rv;obtain⟨bs,q2⟩:=fZ.reads ok t tv;exact⟨_,.cons q1 q2⟩
end
section
variable{X:Cx}
noncomputable def Z1:R2:=fun x y H Q=>∃ dx dy,Rep H x dx/\Rep H y dy/\shaped dx=true/\shaped dy=true/\Q (.bl (PyData.eqv dx dy)) H
noncomputable def Z2:R2:=fun x y H Q=>∃ dx dy,Rep H x dx/\Rep H y dy/\shaped dx=true/\shaped dy=true/\Q (.bl (!PyData.eqv dx dy)) H
theorem dJ(hu:X.A.units+64<cLine):OpR X (compareOp .Eq) Z1:=by
 intro pins s σ H x y v u Q I rx ry h;obtain⟨dx,dy,hx,hy,sx,sy,q⟩:=h;obtain⟨as,ra⟩:=hx.reads I.hok rx;obtain⟨bs,rb⟩:=hy.reads I.hok ry;exact eq_dataH ra rb sx sy hu ⟨.bl _,H,I,rfl,q⟩
theorem JQ(hu:X.A.units+64<cLine):OpR X (compareOp .NotEq) Z2:=by
 intro pins s σ H x y v u Q I rx ry h;obtain⟨dx,dy,hx,hy,sx,sy,q⟩:=h;obtain⟨as,ra⟩:=hx.reads I.hok rx;obtain⟨bs,rb⟩:=hy.reads I.hok ry;exact ne_dataH ra rb sx sy hu ⟨.bl _,H,I,rfl,q⟩
end
theorem fG{H:Hp}{p:Addr}(h:H p=none)(o:HO):eO H (upd H p o):=fun b u q=>by rw[aB (bL q h)];exact q
structure Df (K:ak)(mg:Str->Option Value)(x:Str)(st:Stmt)(ps:List Str)(f:Addr)(fd:FuncData):Prop where
 fn:Fun K x x st f fd
 bd:Binds K fd ps []
 mg:mg x=some (.ref f)
section
variable{X:Cx}{k:Nat}{x:Str}{st:Stmt}{f:Addr}{fd:FuncData}{ps:List Str}{sp:Sp}{p pos:Pos}{e:Expr}{es:List Expr}{t:TA}
theorem Cq(D:Df X.K X.mg x st ps f fd)(F:bB X.prog X.w X.K X.mg X.base CX0 k f fd ps sp)(hr:bD k X.A)(hg:Gl X x)(ha:PA X (e::es) t)(hdb:(x==("__debug__":Str))=false:=by decide)
 (he:starEach (e::es) X.env=(false,eval e X.env)::starEach es X.env:=by rfl) (hpl:(backTo pos (starEach es X.env)).any (·.1)=false:=by rfl):
 PE X (.Call (.Name x p) (e::es) [] pos) (zE sp [] E0 t):=vf F hr hg D.mg D.fn.kp D.bd .nil ug ha hdb he hpl
end
noncomputable def i_(cells:List (Str × Addr)):List (Str × NameKind)->List (Str × Addr)->List (Str × Addr)
 | [],acc=>acc
 | (n,k)::r,acc=>if k= .free then i_ cells r ((n,(cells.lookup n).getD 0)::acc) else i_ cells r acc
theorem qR{scope:Scope}{env:Env}(h:∀ y ∈ scope.names,y.2= .free->∃ c,env.cells.lookup y.1=some c):closureFor scope env=pure (i_ env.cells scope.names []):=by
 have key:∀(names:List (Str × NameKind)) (cs:List (Str × Addr)),(∀ y ∈ names,y.2= .free->∃ c,env.cells.lookup y.1=some c)->
  (forIn names cs fun(x:Str × NameKind) (r:List (Str × Addr))=>(match x with
    | (name,kind)=>if(kind == .free)=true then do let a <- cellOf env name;pure (ForInStep.yield ((name,a)::r)) else pure (ForInStep.yield r):Sem (ForInStep (List (Str × Addr)))))=(pure (i_ env.cells names cs):Sem _):=by
  intro names
  induction names with
  | nil=>intro cs _;rfl
  | cons y r ih=>
    intro cs hy;obtain⟨n,k⟩:=y;rw[List.forIn_cons]
    by_cases hk:k= .free
    · obtain⟨c,hc⟩:=hy (n,k) List.mem_cons_self hk;have hc':env.cells.lookup n=some c:=hc;subst hk;have e1:cellOf env n=pure c:=by unfold cellOf;rw[hc']
      simp only[beq_self_eq_true,if_true,e1,pure_bind];rw[ih _ fun z hz=>hy z (List.mem_cons_of_mem _ hz)];simp only[i_,if_true,hc',Option.getD_some]
    · have hb:(k==NameKind.free)=false:=by simpa using hk
      simp only[hb,Bool.false_eq_true,if_false,pure_bind];rw[ih _ fun z hz=>hy z (List.mem_cons_of_mem _ hz)];simp only[i_,if_neg hk]
 have e:closureFor scope env=(forIn scope.names ([]:List (Str × Addr)) (fun(x:Str × NameKind) (r:List (Str × Addr))=>(match x with
  | (name,kind)=>if(kind == .free)=true then do let a <- cellOf env name;pure (ForInStep.yield ((name,a)::r)) else pure (ForInStep.yield r):Sem (ForInStep (List (Str × Addr))))) >>= fun r=>pure r):=by
  unfold closureFor;rfl
 rw[e,key _ _ h];rfl
theorem sE{cells:List (Str × Addr)}{x:Str}{c:Addr}:∀ {names:List (Str × NameKind)} {acc:List (Str × Addr)},(∀ y ∈ names,y.2= .free->∃ c,cells.lookup y.1=some c)->
 (i_ cells names acc).lookup x=some c->cells.lookup x=some c\/acc.lookup x=some c
 | [],acc,_,h=>.inr h
 | (n,k)::r,acc,hy,h=>by
   unfold i_ at h
   by_cases hk:k= .free
   · rw[if_pos hk]at h;obtain⟨d,hd⟩:=hy (n,k) List.mem_cons_self hk;have hd':cells.lookup n=some d:=hd;rw[hd']at h
     rcases sE (fun z hz=>hy z (List.mem_cons_of_mem _ hz)) h with q | q
     · exact .inl q
     · rw[List.lookup_cons]at q
       cases e:x==n with
       | true=>
         have e':x=n:=eq_of_beq e;rw[e]at q;subst e'
         exact .inl (by rw[hd'];exact q)
       | false=>
         rw[e]at q;exact .inr q
   · rw[if_neg hk]at h;exact sE (fun z hz=>hy z (List.mem_cons_of_mem _ hz)) h
theorem rQ{cells:List (Str × Addr)}{x:Str}{c:Addr}(hc:cells.lookup x=some c):∀ {names:List (Str × NameKind)} {acc:List (Str × Addr)},((x,NameKind.free) ∈ names\/acc.lookup x=some c)->
 (i_ cells names acc).lookup x=some c
 | [],acc,h=>by
   rcases h with h | h
   · cases h
   · exact h
 | (n,k)::r,acc,h=>by
   unfold i_
   by_cases hk:k= .free
   · rw[if_pos hk];refine rQ hc ?_
     by_cases e:x=n
     · subst e;exact .inr (by rw[List.lookup_cons,beq_self_eq_true,hc];rfl)
     · have eb:(x==n)=false:=by simpa using e
       rcases h with h | h
       · rcases List.mem_cons.mp h with z | z
         · exact absurd (congrArg Prod.fst z) e
         · exact .inl z
       · exact .inr (by rw[List.lookup_cons,eb];exact h)
   · rw[if_neg hk];refine rQ hc ?_
     rcases h with h | h
     · rcases List.mem_cons.mp h with z | z
       · exact absurd (congrArg Prod.snd z).symm hk
       · exact .inl z
     · exact .inr h
theorem qi{env:Env}:∀ {names:List (Str × NameKind)} {x:Str},names.lookup x=some .free->
 (names.map fun(n,k)=>if(k==NameKind.free&&env.scope.kind == .function&&env.kindOf n==some .cell) then(n,NameKind.cell) else(n,k)).lookup x=some .cell\/
 (names.map fun(n,k)=>if(k==NameKind.free&&env.scope.kind == .function&&env.kindOf n==some .cell) then(n,NameKind.cell) else(n,k)).lookup x=some .free
 | [],_,h=>by simp at h
 | (n,k)::r,x,h=>by
   have ih:= @qi env r x;show List.lookup x ((if(k==NameKind.free&&env.scope.kind == .function&&env.kindOf n==some .cell)=true then(n,NameKind.cell) else(n,k))::_)=_\/List.lookup x ((if(k==NameKind.free&&env.scope.kind == .function&&env.kindOf n==some .cell)=true then(n,NameKind.cell) else(n,k))::_)=_
   cases hx:x==n with
   | true=>
     simp only[List.lookup_cons,hx]at h;cases h
     by_cases hc:(NameKind.free==NameKind.free&&env.scope.kind == .function&&env.kindOf n==some .cell)=true
     · rw[if_pos hc];simp[List.lookup_cons,hx]
     · rw[if_neg hc];simp[List.lookup_cons,hx]
   | false=>
     simp only[List.lookup_cons,hx]at h
     by_cases hc:(k==NameKind.free&&env.scope.kind == .function&&env.kindOf n==some .cell)=true
     · rw[if_pos hc];simp only[List.lookup_cons,hx];exact ih h
     · rw[if_neg hc];simp only[List.lookup_cons,hx];exact ih h
theorem w6{env:Env}:∀ {names:List (Str × NameKind)} {x:Str},(∀ y ∈ names,y.2 ≠ .cell)->
 ((names.map fun(n,k)=>if(k==NameKind.free&&env.scope.kind == .function&&env.kindOf n==some .cell) then(n,NameKind.cell) else(n,k)).lookup x=some .cell\/
 (names.map fun(n,k)=>if(k==NameKind.free&&env.scope.kind == .function&&env.kindOf n==some .cell) then(n,NameKind.cell) else(n,k)).lookup x=some .free)->names.lookup x=some .free
 | [],_,_,h=>by simp at h
 | (n,k)::r,x,hn,h=>by
   have ih:= @w6 env r x fun y hy=>hn y (List.mem_cons_of_mem _ hy);have hnk:k ≠ .cell:=hn (n,k) List.mem_cons_self;change List.lookup x ((if(k==NameKind.free&&env.scope.kind == .function&&env.kindOf n==some .cell)=true then(n,NameKind.cell) else(n,k))::_)=_\/List.lookup x ((if(k==NameKind.free&&env.scope.kind == .function&&env.kindOf n==some .cell)=true then(n,NameKind.cell) else(n,k))::_)=_ at h
   cases hx:x==n with
   | true=>
     rw[List.lookup_cons,hx]
     by_cases hc:(k==NameKind.free&&env.scope.kind == .function&&env.kindOf n==some .cell)=true
     · have hk:k= .free:=by
        rw[Bool.and_eq_true,Bool.and_eq_true]at hc;exact eq_of_beq hc.1.1
       rw[hk]
     · rw[if_neg hc]at h;simp only[List.lookup_cons,hx]at h
       rcases h with h | h
       · exact absurd (Option.some.inj h) hnk
       · exact h
   | false=>
     rw[List.lookup_cons,hx]
     by_cases hc:(k==NameKind.free&&env.scope.kind == .function&&env.kindOf n==some .cell)=true
     · rw[if_pos hc]at h;simp only[List.lookup_cons,hx]at h;exact ih h
     · rw[if_neg hc]at h;simp only[List.lookup_cons,hx]at h;exact ih h
noncomputable def blk(X:Cx)(N':List Str)(sc:Scope)(C:Addr)(s₀:Shared)(H₀:Hp)(fp:List Addr):Cx:=
 { X with N:=N',s₀:=s₀,H₀:=H₀,env:=compEnvC sc (i_ X.env.cells sc.names []) C X.env,outer:=X.stack,ex:=fp,fn:=fun _=>false,pn:=[],xe:=fun _ _=>False }
noncomputable def sgb(nt:Nat)(idx:List Nat)(σ:St):St:=List.replicate nt none++idx.map fun j=>(σ[j]?).getD none
structure rD (X:Cx)(N':List Str)(sc:Scope)(nt:Nat)(idx:List Nat):Prop where
 kind:sc.kind= .function
 JR:∀ y ∈ sc.names,y.2 ≠ .cell
 loc:∀ y ∈ sc.names,y.2= .local->sc.names.lookup y.1=some .local
 fr:∀ y ∈ sc.names,y.2= .free->X.env.kindOf y.1=some .cell\/X.env.kindOf y.1=some .free
 len:nt+idx.length=N'.length
 ix:∀ p ∈ idx.zip (N'.drop nt),X.N[p.1]? =some p.2/\sc.names.lookup p.2=some .free
theorem d_{names:List (Str × NameKind)}{x:Str}{k:NameKind}(h:names.lookup x=some k):(x,k) ∈ names:=PySem.mem_of_lookup h
theorem Xx{X:Cx}{N':List Str}{sc:Scope}{nt:Nat}{idx:List Nat}{pins:List (Addr × Obj)}{σ:St}{H:Hp}{s:Shared}{fp:List Addr}{h':Heap}{tk:Nat}{m:Str->Option Value}(B:rD X N' sc nt idx)
 (I:Inv X pins σ H s) (hf:∀ b ∈ fp,nW X pins H b) (hlt:∀ b ∈ fp,b<s.heap.objs.size) (hns:h'.Ns s.heap.objs.size m) (hk:∀ b o,s.heap.get? b=some o->h'.get? b=some o):
 Inv (blk X N' sc s.heap.objs.size s H fp) (X.pn++pins) (sgb nt idx σ) H { s with heap:=h',toks:=tk }:=by
 have hcl:∀ y ∈ sc.names,y.2= .free->∃ c,X.env.cells.lookup y.1=some c:=fun y hy e=>I.ok.has y.1 (B.fr y hy e)
 have sub:∀ x c,(i_ X.env.cells sc.names []).lookup x=some c->X.env.cells.lookup x=some c:=fun x c h=>by
  rcases sE hcl h with z | z
  · exact z
  · simp at z
 have ac8:∀ b,b ∈ frs X.stack->b=X.env.locals\/b ∈ X.fs:=fun b hb=>List.mem_cons.mp (I.yd b hb);have Wz:∀ b,b ≠ X.env.locals->b ∉ X.fs->b ∉ frs X.stack:=fun b h1 h2 h=>(ac8 b h).elim h1 h2;have fresh:H s.heap.objs.size=none:=I.hok.fresh (aA _)
 refine⟨⟨I.ok.mod,B.kind,I.ok.glob,I.ok.blt,aA _,fun x y c h1 h2=>I.ok.inj x y c (sub x c h1) (sub y c h2),fun x hx=>?_,fun x c hx _=>?_,I.ok.hd,I.ok.frames,.inl rfl,fun b hb=>⟨Nat.ne_of_lt (hlt b hb),fun x c h=>(hf b hb).2.2.2.2.1 x c (sub x c h)⟩,
  I.bs,Nat.le_trans I.ok.bsz I.sz,fun b o e hb=>?_,fun b hb=>Wz b (hf b hb).2.1 (hf b hb).2.2.1,I.stack,I.qj⟩,
  rfl,I.bare,Un.kept hk,⟨m,hns,fun i x v h1 h2 h3=>?_⟩,fun x c h=>?_,fresh,fun x c h=>I.jl x c (sub x c h),fun p hp=>?_,I.hok.kept hk,?_⟩
 · -- has
   have hx':=w6 (env:=X.env) (x:=x) B.JR hx;obtain⟨c,hc⟩:=hcl (x,.free) (d_ hx') rfl;exact⟨c,rQ hc (.inl (d_ hx'))⟩
 · -- cab
   have hx':false=true:=hx;cases hx'
 · -- uE
   rcases (hf b hb).2.2.2.1 with z | z
   · exact I.ok.uE b o e z
   · exact absurd (bH (Heap.lt_size e) (Nat.le_trans I.ok.bsz z)) (Nat.lt_irrefl _)
 · -- loc
   have h1':N'[i]? =some x:=h1
   by_cases hi:i<nt
   · exfalso;unfold sgb at h2;rw[List.getElem?_append_left (by simpa using hi),List.getElem?_replicate]at h2
     split at h2 <;> cases h2
   · unfold sgb at h2;rw[List.getElem?_append_right (by simpa using hi),List.length_replicate,List.getElem?_map]at h2
     cases ej:idx[i - nt]? with
     | none=>rw[ej]at h2;cases h2
     | some j=>
       rw[ej]at h2;have h2':(σ[j]?).getD none=some v:=by simpa using h2
       have hz:(j,x) ∈ idx.zip (N'.drop nt):=by
        have e1:(N'.drop nt)[i - nt]? =some x:=by rw[List.getElem?_drop];rw[show nt+(i - nt)=i by omega];exact h1'
        refine List.mem_of_getElem? (i:=i - nt) ?_;rw[List.getElem?_zip_eq_some];exact⟨ej,e1⟩
       obtain⟨q1,q2⟩:=B.ix _ hz;have q1':X.N[j]? =some x:=q1;have q2':sc.names.lookup x=some .free:=q2
       have hs:σ[j]? =some (some v):=by
        cases e:σ[j]? with
        | none=>rw[e]at h2';cases h2'
        | some o=>rw[e]at h2';exact congrArg some h2'
       have hkx:=B.fr (x,.free) (d_ q2') rfl;obtain⟨mX,_,hl⟩:=I.loc
       obtain⟨u,ru,lk⟩:=hl j x v q1' hs (by
        rcases hkx with z | z
        · exact .inr (.inl z)
        · exact .inr (.inr z))
       refine⟨u,ru,.inr ⟨qi (env:=X.env) q2',?_⟩⟩
       rcases lk with ⟨z,_⟩ | ⟨_,c,hc,hcell⟩
       · exfalso
         rcases hkx with y | y
         · rw[z]at y;cases y
         · rw[z]at y;cases y
       · obtain⟨o,ho,hd⟩:=hcell;exact⟨c,rQ hc (.inl (d_ q2')),o,hk c o ho,hd⟩
 · obtain⟨v,o,ho,hd⟩:=I.cell x c (sub x c h);exact⟨v,o,hk c o ho,hd⟩
 · have hp':p ∈ X.pn++pins:=by
    have:p ∈ ([]:List (Addr × Obj))++(X.pn++pins):=hp;simpa using this
   obtain⟨e,n,ne,nf,d⟩:=I.pin p hp';exact⟨hk _ _ e,n,Nat.ne_of_lt (Heap.lt_size e),Wz _ ne nf,d⟩
 · show(sgb nt idx σ).length=N'.length;unfold sgb;rw[List.length_append,List.length_replicate,List.length_map];exact B.len
noncomputable def Wk:St->St->Prop
 | [],[]=>True
 | none::r,_::r'=>Wk r r'
 | some a::r,b::r'=>b=some a/\Wk r r'
 | _,_=>False
theorem Wk.ok:∀ {σ σ2:St},Wk σ σ2->σ.length=σ2.length/\∀(i:Nat) (v:V),σ[i]? =some (some v)->σ2[i]? =some (some v)
 | [],[],_=>⟨rfl,fun _ _ h=>h⟩
 | none::r,b::r',h=>by
   obtain⟨h1,h2⟩:=Wk.ok (σ:=r) (σ2:=r') h;refine⟨by simp[h1],fun i v e=>?_⟩
   cases i with
   | zero=>simp at e
   | succ i=>simpa using h2 i v (by simpa using e)
 | some a::r,b::r',h=>by
   obtain⟨hb,h⟩:=h;obtain⟨h1,h2⟩:=Wk.ok (σ:=r) (σ2:=r') h;refine⟨by simp[h1],fun i v e=>?_⟩
   cases i with
   | zero=>subst hb;simpa using e
   | succ i=>simpa using h2 i v (by simpa using e)
 | [],_::_,h=>h.elim
 | none::_,[],h=>h.elim
 | some _::_,[],h=>h.elim
noncomputable abbrev TN:=St->Hp->(Hp->Prop)->Prop
noncomputable def Cr(J:It)(g:TG)(tif:TT)(tin:TN):TN:=fun σ H Q=>∃ W:Nat->Nat->Hp->Prop,(∃ m,W 0 m H)/\∀ i m H,W i m H->
 (J.stop i H/\Q H)\/(J.go i H/\∃ N:Hp->Prop,(∀ H',N H'->∃ m',m'<m/\W (i+1) m' H')/\∀ x H',J.yld i H x H'->g x σ H' fun σ2 H2=>Wk σ σ2/\tif σ2 H2 fun b H3=>if b=true then tin σ2 H3 N else N H3)
noncomputable def Cu(D:Addr)(te:TE):TN:=fun σ H N=>te σ H fun y H1=>∃ ys,H1 D=some (.lst ys)/\ys.length<sizeLine/\N (upd H1 D (.lst (ys ++ [y])))
noncomputable def Sh(wi:TI)(g:TG)(tif:TT)(tin:TN):TN:=fun σ H N=>wi σ H fun J H1=>Cr J g tif tin σ H1 N
noncomputable def PTs(Y:Cx)(ifs:List Expr)(t:TT):Prop:=
 ∀(pins:List (Addr × Obj)) (s:Shared) (σ:St) (H:Hp) (Q:Bool->Hp->Prop),Inv Y pins σ H s->t σ H Q->
  wpAny (model Y.prog Y.w) Y.A (forIn ifs true fun c r=>if r=true then do let ok <- isTrue c Y.env (eval c Y.env);pure (ForInStep.yield ok) else pure (ForInStep.yield r)) (TP Y pins σ Q) Y.xe s
noncomputable def WD:TT:=fun _ H Q=>Q true H
theorem Xy{Y:Cx}:PTs Y [] WD:=fun _ _ _ H _ I h=>wpAny_tests_nil ⟨H,I,h⟩
theorem Eu{Y:Cx}{c:Expr}{t:TT}(h:PT Y c t):PTs Y [c] t:=fun pins s σ H Q I q=>wpAny_tests_one (h pins s σ H Q I q)
noncomputable def PN(Y:Cx)(m:Sem Unit)(t:TN):Prop:=
 ∀(pins:List (Addr × Obj)) (s:Shared) (σ:St) (H:Hp) (N:Hp->Prop),Inv Y pins σ H s->t σ H N->wpAny (model Y.prog Y.w) Y.A m (fun _ s'=>∃ H',Inv Y pins σ H' s'/\N H') Y.xe s
noncomputable def NoX(Y:Cx):Prop:=∀ e s,¬ Y.xe e s
theorem NoX.any{Y:Cx}(hx:NoX Y){α:Type}{t:Sem α}{Q:α->Shared->Prop}{E:Value->Shared->Prop}{s:Shared}(h:wpAny (model Y.prog Y.w) Y.A t Q Y.xe s):wpAny (model Y.prog Y.w) Y.A t Q E s:=
 wpAny_mono h (fun _ _ q=>q) fun e s' z=>(hx e s' z).elim
theorem Nu{Y:Cx}{elt:Expr}{te:TE}{D:Addr}(he:PE Y elt te):PN Y (do let _ <- call (.builtin "list.append") [.ref D,<- eval elt Y.env]) (Cu D te):=by
 intro pins s σ H N I h;refine wpAny_bind (thn (he pins s σ H _ I h) fun u s1 ⟨y,H1,I1,r1,ys,e1,hl,hN⟩=>?_);refine wpAny_bind (thn (jm (X:=Y) pins s1 σ H1 (.ref D) [y] (.ref D) [u] (fun _ H2=>N H2) I1 rfl (.cons r1 .nil) ⟨D,ys,y,rfl,rfl,e1,hl,hN⟩) fun v s2 ⟨z,H2,I2,_,q2⟩=>?_);exact wpAny_pure ⟨H2,I2,q2⟩
noncomputable def mH(e:Expr)(d:Nat)(it acc:Value)(env:Env)(target:Expr)(ifs:List Expr)(ipos:Pos)(inner:Sem Unit):Sem Fin:=do
 standAt ipos
 match <- pyNext it with
 | none=>pure (.done .next)
 | some v=>
   letOwnedTupleGo target it v
   assign target env v
   let mut ok:=true
   for c in ifs do
    if ok then ok <- isTrue c env (eval c env)
   if ok then
    inner
   again (.compLoop e d it acc env)
theorem abU(elt target iter:Expr)(ifs:List Expr)(scope:Scope)(pos:Pos)(it acc:Value)(env:Env):
 compTurn (.ListComp elt [⟨target,iter,ifs,0⟩] scope pos) 0 it acc env=mH (.ListComp elt [⟨target,iter,ifs,0⟩] scope pos) 0 it acc env target ifs iter.pos (do let _ <- call (.builtin "list.append") [acc,<- eval elt env]):=rfl
theorem Z3(elt target iter lz cF:Expr)(ifs jc:List Expr)(scope:Scope)(pos:Pos)(it acc:Value)(env:Env):
 compTurn (.ListComp elt [⟨target,iter,ifs,0⟩,⟨lz,cF,jc,0⟩] scope pos) 0 it acc env=mH (.ListComp elt [⟨target,iter,ifs,0⟩,⟨lz,cF,jc,0⟩] scope pos) 0 it acc env target ifs iter.pos
  (do
    let x <- eval cF env
    standAt cF.pos
    let x <- foldedSetIterable cF env x
    let _ <- runOwn (.compStart (.ListComp elt [⟨target,iter,ifs,0⟩,⟨lz,cF,jc,0⟩] scope pos) 1 (<- holding [x] (pyIter x)) acc env) env):=by
 have e:compTurn (.ListComp elt [⟨target,iter,ifs,0⟩,⟨lz,cF,jc,0⟩] scope pos) 0 it acc env=(do
  standAt iter.pos
  match <- pyNext it with
  | none=>pure (.done .next)
  | some v=>
    letOwnedTupleGo target it v
    assign target env v
    let mut ok:=true
    for c in ifs do
     if ok then ok <- isTrue c env (eval c env)
    if ok then
     let x <- eval cF env
     standAt cF.pos
     let x <- foldedSetIterable cF env x
     let _ <- runOwn (.compStart (.ListComp elt [⟨target,iter,ifs,0⟩,⟨lz,cF,jc,0⟩] scope pos) 1 (<- holding [x] (pyIter x)) acc env) env
    again (.compLoop (.ListComp elt [⟨target,iter,ifs,0⟩,⟨lz,cF,jc,0⟩] scope pos) 0 it acc env)):=rfl
 rw[e];unfold mH;simp only[bind_assoc,pure_bind]
theorem Z4(elt target iter lz cF:Expr)(ifs jc:List Expr)(scope:Scope)(pos:Pos)(it acc:Value)(env:Env):
 compTurn (.ListComp elt [⟨target,iter,ifs,0⟩,⟨lz,cF,jc,0⟩] scope pos) 1 it acc env=mH (.ListComp elt [⟨target,iter,ifs,0⟩,⟨lz,cF,jc,0⟩] scope pos) 1 it acc env lz jc cF.pos (do let _ <- call (.builtin "list.append") [acc,<- eval elt env]):=rfl
noncomputable def LR(Y:Cx)(pins:List (Addr × Obj))(σ:St)(Q:Hp->Prop)(r:Result)(s':Shared):Prop:=
 match r with
 | .ok _=>∃ H',Inv Y pins σ H' s'/\Q H'
 | .error _=>False
theorem Nv{Y:Cx}(hx:NoX Y)(hc:Y.calm=true){elt:Expr}{gens:List Comprehension}{scope:Scope}{pos:Pos}{d:Nat}{it D:Addr}{tg:Expr}{ifs:List Expr}{ipos:Pos}{inner:Sem Unit}{J:It}{fp:List Addr}{tn:Nat->Heap->Prop}{g:TG}{tif:TT}{tin:TN}
 (ht:compTurn (.ListComp elt gens scope pos) d (.ref it) (.ref D) Y.env=mH (.ListComp elt gens scope pos) d (.ref it) (.ref D) Y.env tg ifs ipos inner)
 (T:Turn Y.prog Y.w Y.K tg J fp it tn) (hg:PG Y tg g) (hi:PTs Y ifs tif) (hn:PN Y inner tin)
 {pins:List (Addr × Obj)} {s:Shared} {σ:St} {H:Hp} {Q:Hp->Prop} (I:Inv Y pins σ H s) (st:tn 0 s.heap) (f:∀ b ∈ fp,nW Y pins H b) (h:Cr J g tif tin σ H Q):
 codeAny (model Y.prog Y.w) Y.A (.compLoop (.ListComp elt gens scope pos) d (.ref it) (.ref D) Y.env) (LR Y pins σ Q) s:=by
 obtain⟨W,⟨m0,w0⟩,turn⟩:=h;have stat:∀ {H':Hp},(∀ b ∈ fp,H' b=none)->∀ b ∈ fp,nW Y pins H' b:=fun hn b hb=>⟨hn b hb,(f b hb).2⟩;refine codeAny_loop rfl (fun n s'=>∃ i H',Inv Y pins σ H' s'/\tn i s'.heap/\(∀ b ∈ fp,H' b=none)/\W i n H') ?_ m0 ⟨0,H,I,st,fun b hb=>(f b hb).1,w0⟩;rintro n s3 ⟨i,H3,I3,st3,fr3,w3⟩;show wpAny _ Y.A ((compTurn (.ListComp elt gens scope pos) d (.ref it) (.ref D) Y.env).onRaise (fun x=>do noteFrame x Y.env;theTreesLotGoes x)) _ _ s3;refine wpAny_noted ?_;rw[ht];unfold mH;refine wpAny_bind (wpAny_standAt ?_)
 rcases turn i n H3 w3 with ⟨stop,qn⟩ | ⟨go,N,hN,step⟩
 · refine wpAny_bind (thn (hx.any (T.done Y rfl rfl rfl hc i pins s3 σ H3 Y.xe I3 (stat fr3) st3 stop)) fun r s4 ⟨hr,I4⟩=>?_);subst hr;exact wpAny_pure ⟨H3,I4,qn⟩
 · refine wpAny_bind (thn (hx.any (T.item Y rfl rfl rfl hc i pins s3 σ H3 Y.xe I3 (stat fr3) st3 go)) fun r s4 ⟨u,hr,h4⟩=>?_);subst hr;refine wpAny_bind (thn (hx.any h4) fun _ s5 ⟨x,H5,I5,r5,y5,st5,fr5⟩=>?_);have I5':=I5.pinned (stat fr5) (T.obj _ _ st5);refine wpAny_bind (thn (hx.any (hg _ s5 σ H5 x u _ I5' r5 (step x H5 y5))) fun _ s6 ⟨σ6,H6,I6,wk,q6⟩=>?_);obtain⟨wl,wv⟩:=wk.ok
   have again:∀ {σ7:St} {H7:Hp} {s7:Shared},Inv Y (pins++ye fp s5.heap) σ7 H7 s7->Wk σ σ7->N H7->∃ m,m<n/\∃ i H',Inv Y pins σ H' s7/\tn i s7.heap/\(∀ b ∈ fp,H' b=none)/\W i m H':=fun {σ7 H7 s7} I7 wk7 n7=>by
    obtain⟨m',hm,w7⟩:=hN H7 n7;obtain⟨wl7,wv7⟩:=wk7.ok;refine⟨m',hm,i+1,H7,(I7.weak wl7 wv7).sr,T.keep _ _ _ st5 fun b hb o e=>(I7.pin (b,o) (List.mem_append_right _ (List.mem_append_right _ (rC hb e)))).1,fun b hb=>?_,w7⟩;obtain⟨o,e,d⟩:=T.obj _ _ st5 b hb;exact(I7.pin (b,o) (List.mem_append_right _ (List.mem_append_right _ (rC hb e)))).2.1
   refine wpAny_bind (thn (hx.any (hi _ s6 σ6 H6 _ I6 q6)) fun ok s7 ⟨H7,I7,q7⟩=>?_)
   cases ok with
   | false=>exact wpAny_pure ⟨rfl,again I7 wk q7⟩
   | true=>exact wpAny_bind (thn (hx.any (hn _ s7 σ6 H7 N I7 q7)) fun _ s8 ⟨H8,I8,q8⟩=>wpAny_pure ⟨rfl,again I8 wk q8⟩)
theorem GZ{prog:Program}{w:World}{A:Around}{R:Result->Shared->Prop}{s:Shared}{elt:Expr}{gens:List Comprehension}{scope:Scope}{pos:Pos}{d:Nat}{it acc:Value}{env:Env}{g:Comprehension}(hg:gens[d]? =some g)(ha:g.is_async=0)
 (h0:codeAny (model prog w) A (.compLoop (.ListComp elt gens scope pos) d it acc env) R s)
 (h:wpAny (model prog w) A (pyIter it) (fun it' s'=>codeAny (model prog w) A (.compLoop (.ListComp elt gens scope pos) d it' acc env) R s') (notedBy (model prog w) A env fun x s'=>R (.error x) s') s):
 codeAny (model prog w) A (.compStart (.ListComp elt gens scope pos) d it acc env) R s:=by
 refine codeAny_of_tree ?_;show wpAny _ _ ((compStart (.ListComp elt gens scope pos) d it acc env).onRaise (fun x=>do noteFrame x env;standAt theWindowsPlace)) _ _ s;refine wpAny_notedAt ?_;unfold compStart;rw[show clausesOf (.ListComp elt gens scope pos)=gens from rfl,hg];have e1:(Option.elim (some g) false fun x=>x.is_async != 0)=false:=by show(g.is_async != 0)=false;rw[ha];rfl
 rw[e1];show wpAny _ _ (ask >>= _) _ _ s;refine wpAny_bind (wpAny_askSetting (wpAny_ite ?_))
 split
 · exact wpAny_bind (wpAny_pure (wpAny_pure (And.intro rfl h0)))
 · exact wpAny_bind (wpAny_rule (wpAny_bind (wpAny_standAt (wpAny_bind (wpAny_mono h (fun it' s' h'=>wpAny_pure (And.intro rfl h')) fun _ _ x=>x)))))
theorem JS{X:Cx}{N':List Str}{sc:Scope}{pins Cv:List (Addr × Obj)}{σ σY:St}{H H':Hp}{s s':Shared}{fp:List Addr}{h':Heap}(I:Inv X pins σ H s)(hf:∀ b ∈ fp,nW X pins H b)
 (IY:Inv (blk X N' sc s.heap.objs.size s H fp) Cv σY H' s') (hs:Heap.SameBut s.heap.objs.size s'.heap h'):Inv X pins σ H' { s' with heap:=h' }:=by
 have hC:∀ b o,s.heap.get? b=some o->b ≠ s.heap.objs.size:=fun b o e=>Nat.ne_of_lt (Heap.lt_size e);have nC:H' s.heap.objs.size=none:=IY.free;have u:Un (frs X.stack) fp H H' s.heap s'.heap:=IY.base;have kk:∀ b o,b ≠ s.heap.objs.size->s'.heap.get? b=some o->h'.get? b=some o:=fun b o hb e=>hs.extBut b o hb e;refine I.call' (s':={ s' with heap:=h' }) (ch:=fp) IY.os ⟨fun b o e n h1 h2=>kk b o (hC b o e) (u.keep b o e n h1 h2),fun b o e n h1 h2=>?_,u.free,fun b o e h2=>?_,u.tups,u.mq,u.mz⟩ ?_ IY.bare fun b hb=>?_
 · obtain⟨sl,q⟩:=u.slot b o e n h1 h2;exact⟨sl,kk b _ (hC b o e) q⟩
 · obtain⟨o',q⟩:=u.there b o e h2;exact⟨o',kk b _ (hC b o e) q⟩
 · intro a o e;refine(IY.hok a o e).stay (fun b v hb q=>kk b v ?_ q) (fun _ q=>q) fun _ _ q=>q;rintro rfl
   rcases hb with z | z
   · rw[z]at nC;rw[nC]at e;cases e
   · rw[nC]at z;cases z
 · obtain⟨f0,f1,f2,f3,f4,f5⟩:=hf b hb;exact⟨f3,f1,f4,f5⟩
section
variable{X:Cx}{N':List Str}{sc:Scope}{nt:Nat}{idx:List Nat}{elt tg iter:Expr}{ifs:List Expr}{gs:List Comprehension}{pos:Pos}{wi:TI}{g:TG}{tif:TT}{tin:Addr->TN}
noncomputable def Jh(nt:Nat)(idx:List Nat)(wi:TI)(g:TG)(tif:TT)(tin:Addr->TN):TE:=fun σ H Q=>wi σ H fun J H1=>∀ D,H1 D=none->Cr J g tif (tin D) (sgb nt idx σ) (upd H1 D (.lst [])) fun H2=>Q (.ref D) H2
structure yq (X:Cx)(N':List Str)(sc:Scope)(elt tg iter:Expr)(ifs:List Expr)(gs:List Comprehension)(pos:Pos)(g:TG)(tif:TT)(tin:Addr->TN):Prop where
 ok:∀(C:Addr) (s₀:Shared) (H₀:Hp) (fp:List Addr) (D it:Addr),∃ inner:Sem Unit,
  compTurn (.ListComp elt (⟨tg,iter,ifs,0⟩::gs) sc pos) 0 (.ref it) (.ref D) (blk X N' sc C s₀ H₀ fp).env=mH (.ListComp elt (⟨tg,iter,ifs,0⟩::gs) sc pos) 0 (.ref it) (.ref D) (blk X N' sc C s₀ H₀ fp).env tg ifs iter.pos inner/\
  PG (blk X N' sc C s₀ H₀ fp) tg g/\PTs (blk X N' sc C s₀ H₀ fp) ifs tif/\PN (blk X N' sc C s₀ H₀ fp) inner (tin D)
theorem JT(B:rD X N' sc nt idx)(hc:X.calm=true)(hi:PI X tg iter wi)(O:yq X N' sc elt tg iter ifs gs pos g tif tin){pins:List (Addr × Obj)}{s:Shared}{σ:St}{H:Hp}{Q:VK}{E:Value->Shared->Prop}{use:Option (Value->Sem Unit)}{QQ:Value->Shared->Prop}
 (I:Inv X pins σ H s) (h:Jh nt idx wi g tif tin σ H Q) (hE:∀ e s,X.xe e s->E e s)
 (hend:∀(D C:Addr) (s3 s':Shared) (H3 H':Hp) (fp:List Addr) (Cv:List (Addr × Obj)) (σY:St),C=s3.heap.objs.size->Inv X pins σ H3 s3->(∀ b ∈ fp,nW X pins H3 b)->Inv (blk X N' sc C s3 H3 fp) Cv σY H' s'->Q (.ref D) H'->
   compPost (model X.prog X.w) X.A E use QQ (.ref D) C (.ok .next) s'):
 wpAny (model X.prog X.w) X.A (eval iter X.env) (fun x s₁=>wpAny (model X.prog X.w) X.A (pyIter x) (fun it s₂=>wpAny (model X.prog X.w) X.A (newList []) (fun acc s₃=>
  wpAny (model X.prog X.w) X.A (newFunctionEnv sc X.env.globals (i_ X.env.cells sc.names []) [] X.env.qual none .none (some X.env)) (fun cenv s₄=>
   codeAny (model X.prog X.w) X.A (.compStart (.ListComp elt (⟨tg,iter,ifs,0⟩::gs) sc pos) 0 it acc { cenv with scope:=relabel sc X.env }) (compPost (model X.prog X.w) X.A E use QQ acc cenv.locals) s₄) E s₃) E s₂) E s₁) E s:=by
 refine wpAny_mono (hi pins s σ H _ I h) (fun v s1 h1=>wpAny_mono h1 (fun itv s2 h2=>?_) hE) hE;obtain⟨it,fp,tn,J,H2,e,I2,T,st2,f2,hl⟩:=h2;subst e;refine wpAny_newObj_type ?_;have I3:Inv X pins σ (upd H2 s2.heap.objs.size (.lst [])) { s2 with heap:=s2.heap.push { cls:=.type "list",data:=.seq ([]:List Value).toArray } }:=I2.U_ (its:=[]) (ys:=[]) (t':=s2.toks) .nil (Nat.zero_le _);have hD:H2 s2.heap.objs.size=none:=I2.hok.fresh (aA _);have lt2:∀ b ∈ fp,b<s2.heap.objs.size:=fun b hb=>let ⟨o,ho,_⟩:=T.obj _ _ st2 b hb;Heap.lt_size ho;have f3:∀ b ∈ fp,nW X pins (upd H2 s2.heap.objs.size (.lst [])) b:=fun b hb=>⟨by rw[aB (Nat.ne_of_lt (lt2 b hb))];exact(f2 b hb).1,(f2 b hb).2⟩;generalize hS3:({ s2 with heap:=s2.heap.push { cls:=.type "list",data:=.seq ([]:List Value).toArray } }:Shared)=s3 at I3 ⊢;have lt3:∀ b ∈ fp,b<s3.heap.objs.size:=fun b hb=>by rw[<- hS3];show b<(s2.heap.push _).objs.size;rw[Heap.size_push];exact Nat.lt_succ_of_lt (lt2 b hb)
 have k3:∀ b o,s2.heap.get? b=some o->s3.heap.get? b=some o:=fun b o e=>by rw[<- hS3];exact Heap.get?_push_of_some _ e
 refine wpAny_newFunctionEnv B.JR (by intro y hy;simp at hy) (fun h₁ hns hsb=>?_) B.kind;have old:∀ b o,s3.heap.get? b=some o->h₁.get? b=some o:=fun b o e=>hsb.extBut b o (Nat.ne_of_lt (Heap.lt_size e)) (Heap.get?_push_of_some _ e);have IY:=Xx (tk:=s3.toks+([]:List (Str × Value)).length) B I3 f3 lt3 hns old;have hx:NoX (blk X N' sc s3.heap.objs.size s3 (upd H2 s2.heap.objs.size (.lst [])) fp):=fun _ _ z=>z;obtain⟨inner,ht,hg,hif,hin⟩:=O.ok s3.heap.objs.size s3 (upd H2 s2.heap.objs.size (.lst [])) fp s2.heap.objs.size it;have stY:tn 0 h₁:=T.keep _ _ _ st2 fun b _ o e=>old b o (k3 b o e)
 have fY:∀ b ∈ fp,nW (blk X N' sc s3.heap.objs.size s3 (upd H2 s2.heap.objs.size (.lst [])) fp) (X.pn++pins) (upd H2 s2.heap.objs.size (.lst [])) b:=fun b hb=>by
  obtain⟨g0,g1,g2,g3,g4,g5⟩:=f3 b hb;refine⟨g0,Nat.ne_of_lt (lt3 b hb),fun z=>(List.mem_cons.mp (I3.yd b z)).elim g1 g2,.inl hb,fun x c e=>?_,fun p hp=>g5 p (by have hp':p ∈ ([]:List (Addr × Obj))++(X.pn++pins):=hp;simpa using hp')⟩
  rcases sE (fun y hy e=>I3.ok.has y.1 (B.fr y hy e)) e with z | z
  · exact g4 x c z
  · simp at z
 have loop:codeAny (model X.prog X.w) X.A (.compLoop (.ListComp elt (⟨tg,iter,ifs,0⟩::gs) sc pos) 0 (.ref it) (.ref s2.heap.objs.size) (blk X N' sc s3.heap.objs.size s3 (upd H2 s2.heap.objs.size (.lst [])) fp).env)
  (compPost (model X.prog X.w) X.A E use QQ (.ref s2.heap.objs.size) s3.heap.objs.size) { s3 with heap:=h₁,toks:=s3.toks+([]:List (Str × Value)).length }:=by
  refine codeAny_mono (Nv (Y:=blk X N' sc s3.heap.objs.size s3 (upd H2 s2.heap.objs.size (.lst [])) fp) hx hc ht T hg hif hin IY stY fY (hl _ hD)) fun r s' hr=>?_
  cases r with
  | error e=>exact False.elim hr
  | ok fl=>
    obtain⟨H',IY',q⟩:=hr;have fin:=hend s2.heap.objs.size _ s3 s' _ H' fp _ _ rfl I3 f3 IY' q
    cases use with
    | none=>exact fin
    | some u=>exact fin
 exact GZ (g:=⟨tg,iter,ifs,0⟩) rfl rfl loop (T.self _ 0 _ _ _ stY loop)
theorem Nx(B:rD X N' sc nt idx)(hc:X.calm=true)(hi:PI X tg iter wi)(O:yq X N' sc elt tg iter ifs gs pos g tif tin)(hs:∀ x,foldedSetIterable iter X.env x=pure x:=by intro _;rfl):
 PE X (.ListComp elt (⟨tg,iter,ifs,0⟩::gs) sc pos) (Jh nt idx wi g tif tin):=by
 intro pins s σ H Q I h;rw[eval_ListComp]
 refine wpAny_comprehension_free (use:=none) (cl:=i_ X.env.cells sc.names []) rfl hs (qR fun y hy e=>I.ok.has y.1 (B.fr y hy e)) B.kind B.loc
  (JT B hc hi O I h (fun _ _ z=>z) fun D C s3 s' H3 H' fp Cv σY hC I3 f3 IY q=>?_)
 subst hC;obtain⟨m,hn,_⟩:=IY.loc;exact⟨m,hn,fun h' hs'=>⟨.ref D,H',JS I3 f3 IY hs',rfl,q⟩⟩
theorem Ew{i:Nat}{y:Str}{py spos:Pos}(hN:X.N.Nodup)(hi':X.N[i]? =some y)(hy:Loc X.env.scope y)(B:rD X N' sc nt idx)(hc:X.calm=true)(hi:PI X tg iter wi)(O:yq X N' sc elt tg iter ifs gs pos g tif tin)
 (hsw:swapsWith (.ListComp elt (⟨tg,iter,ifs,0⟩::gs) sc pos) (some (.Name y py)) spos.line X.env=pure true:=by rfl) (hs:∀ x,foldedSetIterable iter X.env x=pure x:=by intro _;rfl)
 (hf:X.fn y=true\/X.env.scope.names.lookup y=some .local:=by first | exact .inl rfl | exact .inr rfl | assumption):
 PS X (.Assign [.Name y py] (.ListComp elt (⟨tg,iter,ifs,0⟩::gs) sc pos) spos) (O_ (Jh nt idx wi g tif tin) (Jc i)):=by
 intro pins s σ H D0 I h;rw[exec_Assign_Name_used _ _ _ _ hsw];refine wpAny_bind (wpAny_standAt (wpAny_bind ?_));show wpAny _ X.A (do let _ <- comprehension (.ListComp elt (⟨tg,iter,ifs,0⟩::gs) sc pos) sc X.env _ (newList []) false (eval iter X.env) (some (assign (.Name y py) X.env))) _ _ s
 refine wpAny_bind (wpAny_mono (wpAny_comprehension_free (use:=some (assign (.Name y py) X.env)) (Q:=fun _ s'=>SP X pins D0 .next s') (cl:=i_ X.env.cells sc.names []) rfl hs (qR fun y hy e=>I.ok.has y.1 (B.fr y hy e)) B.kind B.loc
  (JT B hc hi O I h (fun _ _ z=>z) fun D C s3 s' H3 H' fp Cv σY hC I3 f3 IY q=>?_)) (fun _ s' hq=>wpAny_pure (wpAny_pure hq)) fun _ _ e=>e)
 subst hC;obtain⟨m,hn,_⟩:=id IY.loc;obtain⟨oC,es,ep,hoC,hdC,rest⟩:=id hn;have IX:Inv X pins σ H' s':=JS (h':=s'.heap) I3 f3 IY (Heap.SameBut.refl ..);have neL:s3.heap.objs.size ≠ X.env.locals:=Nat.ne_of_gt I3.lt;have nfs:s3.heap.objs.size ∉ X.fs:=I3.Za (aA _)
 have abV:∀ x c,X.env.cells.lookup x=some c->c ≠ s3.heap.objs.size:=fun x c e z=>by
  obtain⟨v,hv⟩:=I3.cell x c e;exact absurd hv.lt (by rw[z];exact Nat.lt_irrefl _)
 have ac9:s'.heap.get? s3.heap.objs.size=some oC:=hoC;have hfree:H' s3.heap.objs.size=none:=IY.free
 have IP:Inv X (pins ++ [(s3.heap.objs.size,oC)]) σ H' s':=IX.Ek fun p hp=>by
  rcases List.mem_append.mp hp with z | z
  · exact IX.pin p (List.mem_append_right _ z)
  · have e:p=(s3.heap.objs.size,oC):=by simpa using z
    subst e;exact⟨ac9,hfree,neL,nfs,fun v z=>by rw[hdC]at z;cases z⟩
 show wpAny _ X.A (assign (.Name y py) X.env (.ref D)) _ _ _;refine wpAny_assign_Name (vQ IP hN hi' hy (v:=.ref D) rfl (fun s'' I''=>?_) hf);have pC:=I''.pin (s3.heap.objs.size,oC) (List.mem_append_right _ (List.mem_append_right _ (List.mem_singleton.mpr rfl)));refine⟨m,⟨oC,es,ep,pC.1,hdC,rest⟩,fun h' hs'=>?_⟩;refine⟨_,H',(I''.sr).turned (it:=s3.heap.objs.size) (h':=h') (t':=s''.toks) (fun b o hb e=>hs'.extBut b o hb e) pC.2.1 neL (.inr I3.sz) abV (fun p hp z=>?_),q⟩;have:=(I3.pin p hp).1;exact absurd (Heap.lt_size this) (by rw[z];exact Nat.lt_irrefl _)
theorem Ji{te:TE}(hg:∀ C s₀ H₀ fp,PG (blk X N' sc C s₀ H₀ fp) tg g)(hif:∀ C s₀ H₀ fp,PTs (blk X N' sc C s₀ H₀ fp) ifs tif)(he:∀ C s₀ H₀ fp,PE (blk X N' sc C s₀ H₀ fp) elt te):
 yq X N' sc elt tg iter ifs [] pos g tif (fun D=>Cu D te):=
 ⟨fun C s₀ H₀ fp D it=>⟨_,abU elt tg iter ifs sc pos (.ref it) (.ref D) _,hg C s₀ H₀ fp,hif C s₀ H₀ fp,Nu (he C s₀ H₀ fp)⟩⟩
theorem abW{tg2 cF:Expr}{jc:List Expr}{te:TE}{wi2:TI}{g2:TG}{Z5:TT}(hc:X.calm=true)(hg:∀ C s₀ H₀ fp,PG (blk X N' sc C s₀ H₀ fp) tg g)(hif:∀ C s₀ H₀ fp,PTs (blk X N' sc C s₀ H₀ fp) ifs tif)
 (hi2:∀ C s₀ H₀ fp,PI (blk X N' sc C s₀ H₀ fp) tg2 cF wi2) (hg2:∀ C s₀ H₀ fp,PG (blk X N' sc C s₀ H₀ fp) tg2 g2) (Vd:∀ C s₀ H₀ fp,PTs (blk X N' sc C s₀ H₀ fp) jc Z5) (he:∀ C s₀ H₀ fp,PE (blk X N' sc C s₀ H₀ fp) elt te)
 (hs:∀ C s₀ H₀ fp x,foldedSetIterable cF (blk X N' sc C s₀ H₀ fp).env x=pure x:=by intro _ _ _ _ _;rfl):
 yq X N' sc elt tg iter ifs [⟨tg2,cF,jc,0⟩] pos g tif (fun D=>Sh wi2 g2 Z5 (Cu D te)):=by
 refine⟨fun C s₀ H₀ fp D it=>⟨_,Z3 elt tg iter tg2 cF ifs jc sc pos (.ref it) (.ref D) _,hg C s₀ H₀ fp,hif C s₀ H₀ fp,?_⟩⟩;have hx:NoX (blk X N' sc C s₀ H₀ fp):=fun _ _ z=>z;intro pins s σ H N I h;refine wpAny_bind (thn (hi2 C s₀ H₀ fp pins s σ H _ I h) fun v s1 h1=>?_);refine wpAny_bind (wpAny_standAt (wpAny_bind (wpAny_of_eq (hs C s₀ H₀ fp v) ?_)));refine wpAny_bind (wpAny_holding (thn h1 fun itv s2 h2=>?_));obtain⟨it2,fp2,tn2,J2,H2,e,I2,T2,st2,f2,hl2⟩:=h2;subst e;have loop:=Nv (Y:=blk X N' sc C s₀ H₀ fp) hx hc (Z4 elt tg iter tg2 cF ifs jc sc pos (.ref it2) (.ref D) _) T2 (hg2 C s₀ H₀ fp) (Vd C s₀ H₀ fp) (Nu (he C s₀ H₀ fp)) I2 st2 f2 hl2
 have loop':codeAny (model (blk X N' sc C s₀ H₀ fp).prog (blk X N' sc C s₀ H₀ fp).w) (blk X N' sc C s₀ H₀ fp).A (.compLoop (.ListComp elt [⟨tg,iter,ifs,0⟩,⟨tg2,cF,jc,0⟩] sc pos) 1 (.ref it2) (.ref D) (blk X N' sc C s₀ H₀ fp).env)
  (fun r s'=>match r with | .ok f=>wpAny (model (blk X N' sc C s₀ H₀ fp).prog (blk X N' sc C s₀ H₀ fp).w) (blk X N' sc C s₀ H₀ fp).A (pure ()) (fun _ s'=>∃ H',Inv (blk X N' sc C s₀ H₀ fp) pins σ H' s'/\N H') (blk X N' sc C s₀ H₀ fp).xe s' | .error e=>cameBackBy (model (blk X N' sc C s₀ H₀ fp).prog (blk X N' sc C s₀ H₀ fp).w) (blk X N' sc C s₀ H₀ fp).A (blk X N' sc C s₀ H₀ fp).env (blk X N' sc C s₀ H₀ fp).xe e s') s2:=
  codeAny_mono loop fun r s' hr=>by
   cases r with
   | error e=>exact False.elim hr
   | ok fl=>exact wpAny_pure hr
 exact wpAny_bind (wpAny_runOwn (h:=none) (GZ (g:=⟨tg2,cF,jc,0⟩) rfl rfl loop' (T2.self _ 0 _ _ _ st2 loop')))
end
noncomputable def Z6(N N':List Str)(sc osc:Scope)(nt:Nat)(idx:List Nat):Bool:=
 decide (sc.kind= .function)&&sc.names.all (fun y=>decide (y.2 ≠ .cell))&&sc.names.all (fun y=> !decide (y.2= .local)||decide (sc.names.lookup y.1=some .local)) &&
 sc.names.all (fun y=> !decide (y.2= .free)||(decide (osc.names.lookup y.1=some .cell)||decide (osc.names.lookup y.1=some .free)))&&decide (nt+idx.length=N'.length) &&
 (idx.zip (N'.drop nt)).all (fun p=>decide (N[p.1]? =some p.2)&&decide (sc.names.lookup p.2=some .free))
theorem gW{X:Cx}{N N':List Str}{sc osc:Scope}{nt:Nat}{idx:List Nat}(h1:X.env.scope=osc)(h2:X.N=N)(h:Z6 N N' sc osc nt idx=true):rD X N' sc nt idx:=by
 unfold Z6 at h;simp only[Bool.and_eq_true,List.all_eq_true,decide_eq_true_eq,Bool.or_eq_true,Bool.not_eq_true',decide_eq_false_iff_not]at h;obtain⟨⟨⟨⟨⟨a,b⟩,c⟩,d⟩,e⟩,f⟩:=h;refine⟨a,b,fun y hy q=>(c y hy).resolve_left (fun z=>z q),fun y hy q=>?_,e,fun p hp=>?_⟩
 · have z:=(d y hy).resolve_left (fun z=>z q);unfold Env.kindOf;rw[h1];exact z
 · rw[h2];exact f p hp
structure Low (o u n d:Int):Prop where
 pos:0<d
 gcd:Int.gcd n d=1
 eq:n*u=o*d
 le1:n.natAbs<=o.natAbs
 le2:d.natAbs<=u.natAbs
noncomputable abbrev Drawn:List Int->List Int->Prop:=Paired fun n l=>0<=n/\n<l
section
variable{X:Cx}
theorem Ve{bs:List Bool}:∀ {us:List Value},Vals (bs.map V.bl) us->LSm.BoolsAre us bs:=by
 induction bs with
 | nil=>intro us r;rw[List.map_nil]at r;cases r;exact .nil
 | cons b bs ih=>
   intro us r;rw[List.map_cons]at r
   cases r with
   | cons r1 r2=>
     obtain rfl:=(show _=Value.bool b from r1);exact .cons b (ih r2)
noncomputable def Vf(f:List Bool->Bool):List V->Hp->VK->Prop:=fun xs H Q=>∃ p bs,xs= [.ref p]/\H p=some (.lst (bs.map V.bl))/\Q (.bl (f bs)) H
theorem Sq(hc:X.calm=true):lW X (.builtin "all") (Vf fun bs=>bs.all id):=by
 intro pins s σ H xs us Q I r h;obtain⟨p,bs,rfl,hp,q⟩:=h;obtain⟨u,rfl,ru⟩:=vals1 r;cases ru;obtain⟨_,its,n,rv,ho⟩:=(show bO X.prog X.w H s.heap p (.lst (bs.map V.bl)) from I.hok p _ hp);have hb:=Ve rv;have hl:s.heap.IsList p its.toArray:=⟨_,ho,rfl,_,rfl⟩;have hlt:p<s.heap.objs.size:=Heap.lt_size ho;refine call_all_walk (wpAny_pyIter_list hl ?_)
 refine⟨s.heap.objs.size,[s.heap.objs.size,p],[s.heap.objs.size],its.toArray.size,_,_,fun i=>(bs[i]?).getD true,rfl,Walks.list (A:=X.A.in1) (I.ok.hd hc) _ p (Nat.ne_of_lt hlt) its.toArray,
  ⟨⟨_,Heap.get?_push_size _ rfl,rfl,rfl⟩,hl.push _⟩,fun i v s' Q' E' hP hQ=>?_,fun h' tk hk=>?_⟩
 · obtain⟨b,e,rfl⟩:=hb.get i v (by simpa using hP);simp only[e,Option.getD_some]at hQ;exact wpAny_truthy_bool hQ
 · have e:((List.range its.toArray.size).all fun i=>(bs[i]?).getD true)=bs.all id:=by
    rw[List.size_toArray,hb.length];exact LSm.range_all bs
   rw[e];exact⟨.bl _,H,I.kept (h':=h') (t':=tk) (LSm.kept_iter hk),rfl,q⟩
end
section
variable{X:Cx}{K:ak}{tg l o e:Expr}{es:List Expr}{tl to te:TE}{t:TA}{pos apos:Pos}
noncomputable def ac_(K:ak):List V->Hp->VK->Prop:=fun xs H Q=>∃ p ys,xs= [.ref p]/\(SqL K H p ys\/SqT K H p ys)/\Q (.int ys.length) H
end
theorem Ny{K:ak}{a:Addr}{xs:List V}{g:TG}{tif:TT}{tin:TN}{σ:St}{H:Hp}{Q:Hp->Prop}(Pv:Nat->Hp->Prop)(h0:Pv 0 H)(hl:∀ i H,i<=xs.length->Pv i H->SqL K H a xs)
 (hs:∀ i x H,xs[i]? =some x->Pv i H->g x σ H fun σ2 H2=>Wk σ σ2/\tif σ2 H2 fun b H3=>if b=true then tin σ2 H3 (Pv (i+1)) else Pv (i+1) H3) (hd:∀ H,Pv xs.length H->Q H):Cr (Itl K a) g tif tin σ H Q:=by
 refine⟨fun i m H=>m=xs.length - i/\i<=xs.length/\Pv i H,⟨xs.length,by simp,Nat.zero_le _,h0⟩,?_⟩;rintro i m H ⟨rfl,hi,p⟩;have q:=hl i H hi p
 by_cases hlt:i<xs.length
 · refine .inr ⟨⟨xs,xs[i],q,by simp[hlt]⟩,Pv (i+1),fun H' p'=>⟨xs.length - (i+1),by omega,rfl,hlt,p'⟩,fun x H' y=>?_⟩;obtain⟨e,y⟩:=y;subst e;exact hs i x _ (y xs q) p
 · have e:i=xs.length:=by omega
   subst e;exact .inl ⟨⟨xs,q,aA _⟩,hd H p⟩
example (a b v:V):Wk (sgb 1 [0,1] [some a,some b]) ((sgb 1 [0,1] [some a,some b]).set 0 (some v)):=⟨rfl,rfl,trivial⟩
noncomputable def Kp(fs:List Addr)(g h:Heap):Prop:=∀ b o,g.get? b=some o->(b ∉ fs->h.get? b=some o)/\(b ∈ fs->∃ sl,h.get? b=some { o with slots:=sl })
theorem Kp.of_keeps{fs:List Addr}{g h:Heap}(k:∀ b o,g.get? b=some o->h.get? b=some o):Kp fs g h:=fun b o e=>⟨fun _=>k b o e,fun _=>⟨o.slots,k b o e⟩⟩
noncomputable def Fly(g:Heap)(fl:Value)(e:Addr)(cls:Value)(d:Option Addr)(a0:Value)(h:Heap):Prop:=
 g.get? e=none/\∃ oe vs T oT ts,h.get? e=some oe/\oe.cls=cls/\oe.dict=d/\oe.data= .fields vs/\vs[0]? =some a0/\vs[1]? =some (.ref T)/\T ≠ e/\g.get? T=none/\h.get? T=some oT/\oT.data= .fields ts/\ts[3]? =some fl
section
variable{M:Model}{A:Around}{E:Value->Shared->Prop}{s:Shared}{base g:Heap}{env:Env}{outer:List Env}{L e:Addr}{a0:Value}
theorem G3{oe:Obj}{vs:Array Value}{head:Value}{hadNext:Bool}{Q:Unit->Shared->Prop}(hfr:A.frames=some (env::outer))(hl:s.heap.FunFrames base (env::outer))(hf:env.frame=some L)
 (he:s.heap.get? e=some oe) (hd:oe.data= .fields vs) (hsz:1<vs.size)
 (h:∀ h' T oT ts,(∀ b o,s.heap.get? b=some o->b ≠ e->(b ∉ frs (env::outer)->h'.get? b=some o)/\∃ sl,h'.get? b=some { o with slots:=sl })->s.heap.get? T=none->
   h'.get? e=some (Obj.mapFields (·.setIfInBounds 1 (.ref T)) oe)->h'.get? T=some oT->oT.data= .fields ts->ts[3]? =some (rawInt L)->Q () { s with heap:=h' }):
 wpAny M A (do let a <- frameOf env;let pl <- entryPlaceOf L hadNext;let b <- EntryCells.newEntry head a .none (rawInt L) .none pl;setField (.ref e) 1 b) Q E s:=by
 have hene:e ∉ (env::outer).filterMap (·.frame):=fun hm=>by
  obtain⟨_,o,ho,hnf⟩:=hl.mem hm;rw[he]at ho;cases ho;exact hnf vs hd
 refine wpAny_bind (wpAny_frameOf_fun hfr hl hf fun h1 hs1=>?_);refine wpAny_bind (wpAny_entryPlaceOf fun pl hpl=>?_);unfold EntryCells.newEntry newFields;refine wpAny_bind (wpAny_newObj_type ?_ (hpl.sizeOk5 _ _ _ _ _));have he1:h1.get? e=some oe:=(hs1.2.1 e hene).trans he;refine wpAny_setField (Heap.get?_push_of_some _ he1) hd hsz ?_;have hTe:h1.objs.size ≠ e:=Nat.ne_of_gt (Heap.lt_size he1);refine h _ h1.objs.size _ _ (fun b o hb hbe=>?_) ?_ ?_ ((Heap.get?_update_other _ _ hTe.symm).trans (Heap.get?_push_size h1 rfl)) rfl ?_
 · have up:∀ o',h1.get? b=some o'->((h1.push { cls:=.type "traceback",dict:=none,data:=.fields ([head,.ref L,.none,rawInt L,.none]++(if pl.isEmpty then List.replicate 6 Value.none else pl)).toArray }).update e (Obj.mapFields (·.setIfInBounds 1 (Value.ref h1.objs.size)))).get? b=some o':=fun o' q=>by
    rw[Heap.get?_update_other _ _ hbe.symm];exact Heap.get?_push_of_some _ q
   refine⟨fun hn=>up o ((hs1.2.1 b hn).trans hb),?_⟩;obtain⟨sl,q⟩:=hs1.2.2 b o hb;exact⟨sl,up _ q⟩
 · cases q:s.heap.get? h1.objs.size with
   | none=>rfl
   | some o=>
     obtain⟨sl,q'⟩:=hs1.2.2 _ o q;exact absurd (Heap.lt_size q') (Nat.lt_irrefl _)
 · exact Heap.get?_update_self _ (Heap.get?_push_of_some _ he1) (Obj.isFreed_of_fields (Obj.data_mapFields hd _))
 · first
    | (simp;done)
    | (rcases hpl with rfl | ⟨_,_,_,_,_,_,_,rfl⟩ <;> simp)
theorem vh(f:Array Value->Array Value)(o:Obj):(Obj.mapFields f o).dict=o.dict:=by
 obtain⟨c,d,dt,sl⟩:=o;cases dt <;> rfl
theorem Qg{oe:Obj}{vs:Array Value}{Q:Unit->Shared->Prop}(hfr:A.frames=some (env::outer))(hl:s.heap.FunFrames base (env::outer))(hf:env.frame=some L)
 (he:s.heap.get? e=some oe) (hd:oe.data= .fields vs) (h0:vs[0]? =some a0) (h1:vs[1]? =some .none) (hg:g.get? e=none) (hgs:Kp (frs (env::outer)) g s.heap)
 (h:∀ h',Kp (frs (env::outer)) g h'->Fly g (rawInt L) e oe.cls oe.dict a0 h'->Q () { s with heap:=h' }):wpAny M A (noteFrame (.ref e) env) Q E s:=by
 unfold noteFrame;simp only[hf];refine wpAny_bind (wpAny_field he hd h1 ?_);rw[if_neg (by decide)];have sz:=(Array.getElem?_eq_some_iff.mp h1).1;refine G3 hfr hl hf he hd sz fun h' T oT ts k kT ke kt kd k3=>h h' (fun b o q=>?_) ⟨hg,_,_,T,oT,ts,ke,Obj.cls_mapFields _ _,vh _ _,Obj.data_mapFields hd _,by rw[Array.getElem?_setIfInBounds_ne (by decide)];exact h0,by simp[sz],fun z=>?_,?_,kt,kd,k3⟩
 · have hbe:b ≠ e:=fun z=>by rw[z,hg]at q;cases q
   refine⟨fun hb=>(k b o ((hgs b o q).1 hb) hbe).1 hb,fun hb=>?_⟩;obtain⟨sl,q1⟩:=(hgs b o q).2 hb;obtain⟨sl2,q2⟩:=(k b _ q1 hbe).2;exact⟨sl2,q2⟩
 · rw[z,he]at kT;cases kT
 · cases q:g.get? T with
   | none=>rfl
   | some o=>
     exfalso
     by_cases hb:T ∈ frs (env::outer)
     · obtain⟨sl,q1⟩:=(hgs T o q).2 hb;rw[kT]at q1;cases q1
     · have q1:=(hgs T o q).1 hb;rw[kT]at q1;cases q1
theorem G4{cls:Value}{d:Option Addr}{Q:Unit->Shared->Prop}(hfr:A.frames=some (env::outer))(hl:s.heap.FunFrames base (env::outer))(hf:env.frame=some L)
 (hF:Fly g .none e cls d a0 s.heap) (hgs:Kp (frs (env::outer)) g s.heap)
 (h:∀ h',Kp (frs (env::outer)) g h'->Fly g (rawInt L) e cls d a0 h'->Q () { s with heap:=h' }):wpAny M A (noteFrame (.ref e) env) Q E s:=by
 obtain⟨hg,oe,vs,T,oT,ts,he,hc,hdd,hd,h0,h1,hTe,hgT,hT,hdT,h3⟩:=hF;subst hc hdd;unfold noteFrame;simp only[hf];refine wpAny_bind (wpAny_field he hd h1 ?_);rw[if_pos (show(Value.ref T != Value.none)=true from by simp)];refine wpAny_bind (wpAny_field hT hdT h3 ?_);rw[if_neg (show ¬ ((Value.none==rawInt L)=true) from by simp[rawInt])];refine wpAny_bind (wpAny_setField hT hdT (Array.getElem?_eq_some_iff.mp h3).1 ?_);have other:∀ b,b ≠ T->(s.heap.update T (Obj.mapFields (·.setIfInBounds 3 Value.none))).get? b=s.heap.get? b:=fun b hb=>Heap.get?_update_other _ _ (Ne.symm hb);have sz:=(Array.getElem?_eq_some_iff.mp h1).1;have Cw:(s.heap.update T (Obj.mapFields (·.setIfInBounds 3 Value.none))).FunFrames base (env::outer):=hl.of_keeps fun b o hb hnf=>⟨o,(other b fun q=>by rw[q,hT]at hb;cases hb;exact hnf ts hdT).trans hb,rfl⟩;refine G3 hfr Cw hf ((other e (Ne.symm hTe)).trans he) hd sz fun h' T2 oT2 ts2 k kT ke kt kd k3=>h h' (fun b o q=>?_) ⟨hg,_,_,T2,oT2,ts2,ke,Obj.cls_mapFields _ _,vh _ _,Obj.data_mapFields hd _,by rw[Array.getElem?_setIfInBounds_ne (by decide)];exact h0,by simp[sz],fun z=>?_,?_,kt,kd,k3⟩
 · have hbe:b ≠ e:=fun z=>by rw[z,hg]at q;cases q
   have hbT:b ≠ T:=fun z=>by rw[z,hgT]at q;cases q
   refine⟨fun hb=>(k b o ((other b hbT).trans ((hgs b o q).1 hb)) hbe).1 hb,fun hb=>?_⟩;obtain⟨sl,q1⟩:=(hgs b o q).2 hb;obtain⟨sl2,q2⟩:=(k b _ ((other b hbT).trans q1) hbe).2;exact⟨sl2,q2⟩
 · rw[z,other e (Ne.symm hTe),he]at kT;cases kT
 · cases q:g.get? T2 with
   | none=>rfl
   | some o=>
     exfalso;have hbT:T2 ≠ T:=fun z=>by rw[z,hgT]at q;cases q
     rw[other _ hbT]at kT
     by_cases hb:T2 ∈ frs (env::outer)
     · obtain⟨sl,q1⟩:=(hgs T2 o q).2 hb;rw[kT]at q1;cases q1
     · have q1:=(hgs T2 o q).1 hb;rw[kT]at q1;cases q1
theorem vZ{fs:List Addr}{cls fl:Value}{d:Option Addr}{Q:Unit->Shared->Prop}(hF:Fly g fl e cls d a0 s.heap)(hgs:Kp fs g s.heap)
 (h:∀ h',Kp fs g h'->Fly g .none e cls d a0 h'->Q () { s with heap:=h' }):wpAny M A (setFlight (.ref e) none) Q E s:=by
 obtain⟨hg,oe,vs,T,oT,ts,he,hc,hdd,hd,h0,h1,hTe,hgT,hT,hdT,h3⟩:=hF;have sz:=(Array.getElem?_eq_some_iff.mp h3).1;have other:∀ b,b ≠ T->(s.heap.update T (Obj.mapFields (·.setIfInBounds 3 ((none:Option Addr).elim Value.none fun f=>rawInt f)))).get? b=s.heap.get? b:=fun b hb=>Heap.get?_update_other _ _ (Ne.symm hb);unfold setFlight;refine wpAny_bind (wpAny_field he hd h1 ?_);rw[if_pos (show(Value.ref T != Value.none)=true from by simp)];refine wpAny_setField hT hdT sz (h _ (fun b o q=>?_) ?_)
 · have hbT:b ≠ T:=fun z=>by rw[z,hgT]at q;cases q
   exact⟨fun hb=>(other b hbT).trans ((hgs b o q).1 hb),fun hb=>let ⟨sl,q1⟩:=(hgs b o q).2 hb;⟨sl,(other b hbT).trans q1⟩⟩
 · exact⟨hg,oe,vs,T,_,_,(other e (Ne.symm hTe)).trans he,hc,hdd,hd,h0,h1,hTe,hgT,Heap.get?_update_self _ hT (Obj.isFreed_of_fields (Obj.data_mapFields hdT _)),Obj.data_mapFields hdT _,by simp[sz]⟩
theorem Mw{oe:Obj}{vs:Array Value}{Q:Unit->Shared->Prop}(hfr:A.frames=some (env::outer))(hl:s.heap.FunFrames base (env::outer))(hf:env.frame=some L)
 (he:s.heap.get? e=some oe) (hd:oe.data= .fields vs) (h0:vs[0]? =some a0) (h1:vs[1]? =some .none) (hg:g.get? e=none) (hgs:Kp (frs (env::outer)) g s.heap)
 (h:∀ h',Kp (frs (env::outer)) g h'->Fly g .none e oe.cls oe.dict a0 h'->Q () { s with heap:=h' }):wpAny M A (leaving env (.ref e)) Q E s:=by
 unfold leaving;exact wpAny_bind (Qg hfr hl hf he hd h0 h1 hg hgs fun h' k F=>vZ (s:={ s with heap:=h' }) F k fun h'' k2 F2=>h h'' k2 F2)
theorem Qh{cls:Value}{d:Option Addr}{Q:Unit->Shared->Prop}(hfr:A.frames=some (env::outer))(hl:s.heap.FunFrames base (env::outer))(hf:env.frame=some L)
 (hF:Fly g .none e cls d a0 s.heap) (hgs:Kp (frs (env::outer)) g s.heap)
 (h:∀ h',Kp (frs (env::outer)) g h'->Fly g .none e cls d a0 h'->Q () { s with heap:=h' }):wpAny M A (leaving env (.ref e)) Q E s:=by
 unfold leaving;exact wpAny_bind (G4 hfr hl hf hF hgs fun h' k F=>vZ (s:={ s with heap:=h' }) F k fun h'' k2 F2=>h h'' k2 F2)
end
structure Ord (bm:List Value):Prop where
 v:bm.contains (.type "ValueError")=true
 b:bm.contains (.type "BaseException")=true
 a:bm.contains (.type "AttributeError")=false
 n:bm.contains (.type "NameError")=false
theorem Ord.cv{bm:List Value}(T:Ord bm)(C:Addr):(Value.ref C::bm).contains (.type "ValueError")=true:=by rw[List.contains_cons,T.v,Bool.or_true]
theorem Ord.cb{bm:List Value}(T:Ord bm)(C:Addr):(Value.ref C::bm).contains (.type "BaseException")=true:=by rw[List.contains_cons,T.b,Bool.or_true]
theorem Ord.ca{bm:List Value}(T:Ord bm)(C:Addr):(Value.ref C::bm).contains (.type "AttributeError")=false:=by rw[List.contains_cons,T.a];rfl
theorem Ord.cn{bm:List Value}(T:Ord bm)(C:Addr):(Value.ref C::bm).contains (.type "NameError")=false:=by rw[List.contains_cons,T.n];rfl
noncomputable abbrev VF:=PySem.F.excBase_ValueError
noncomputable abbrev g_(C t:Addr)(d:Option Addr):Obj:={ cls:=.ref C,dict:=d,data:=.fields #[.ref t,.none,.none,.none,.bool false,.none] }
section
variable{prog:Program}{w:World}{A:Around}{E:Value->Shared->Prop}{h:Heap}{g:Array GenState}{d:PySem.Drawn}{t:Nat}{os:OsState}
variable{nm q:Str}{C N:Addr}{bs bm:List Value}{hdct:Bool}{sn:List Str}{sub:List Value}{ab:Bool}{col:Option Bool}{dd:Option Addr}{k0 k1 k2 k3 k5:Option Value}
theorem Z7{R:Result->Shared->Prop}{rest:List Value}(T:Ord bm)(hC:h.get? C=some (excClassObj nm q C N bs bm hdct sn sub ab col dd k0 k1 k2 k3 k5 "ValueError.__new__"))
 (hq:R (.ok (.ret (.ref (h.objs.size+1)))) ⟨(h.push { cls:=.type "tuple",data:=.seq rest.toArray }).push (g_ C h.objs.size none),g,d,t,os⟩) (hrest:rest.length<=sizeLine:=by size_fits):
 codeAny (model prog w) A (.builtin "ValueError.__new__" ⟨.ref C::rest,[]⟩) R ⟨h,g,d,t,os⟩:=by
 have hends:=VF.ends;have c1:=T.cv C;have c2:=T.ca C;have c3:=T.cn C;refine codeAny_builtinAt VF.entry ?_;unfold Builtin.«BaseException.__new__»;refine PySem.wpAt_bind ?_;show PySem.wpAt _ _ _ (stack >>= _) _ _ _;refine PySem.wpAt_bind (PySem.wpAt_stack fun p below=>PySem.wpAt_of_wpAny ?_)
 wp_walk
 refine PySem.wpAt_of_wpAny ?_;rw[VF.owner]
 repeat (first | with_reducible refine wpAny_madeHere_exc VF.canon hC ?_ | with_reducible refine wpAny_loadPart_at hC ?_ | (with_reducible refine wpAny_isSubtype_exc hC ?_;first | rw[c1] | rw[c2] | rw[c3]) | wp_step)
 show R _ _;rw[Heap.size_push];exact hq
theorem Vg{M:Model}{rest:List Value}{Q:Unit->Shared->Prop}(T:Ord bm)(hC:h.get? C=some (excClassObj nm q C N bs bm hdct sn sub ab col dd k0 k1 k2 k3 k5 "ValueError.__new__"))
 (hq:Q () ⟨h,g,d,t,os⟩):wpAny M A (checkBuiltinCall "ValueError.__new__" ⟨.ref C::rest,[]⟩) Q E ⟨h,g,d,t,os⟩:=by
 have c1:=T.cv C;have hstar:=VF.noStar;simp only[checkBuiltinCall,VF.newKind,VF.newSplit,VF.newRow]
 repeat (first | refine wpAny_loadPart_at hC ?_ | (refine wpAny_isSubtype_exc hC ?_;rw[c1]) | refine wpAny_staticBase_exc hC ?_ | refine wpAny_madeBy_exc hC ?_ | simp only[bne_self_eq_false,Bool.false_eq_true,if_false] | wp_step)
 exact hq
theorem Xz{rest:List Value}{fI:Addr}{Q:Value->Shared->Prop}(T:Ord bm)(hC:h.get? C=some (excClassObj nm q C N bs bm hdct sn sub ab col dd k0 k1 k2 k3 k5 "ValueError.__new__"))
 (hi:PySem.W.Looks (model prog w) h (typeLookup (.ref C) "__init__") (some (.ref fI))) (hb:∀ self,PySem.W.Looks (model prog w) h (bindSpecial (.ref fI) self) (.ref fI,[self]))
 (hq:wpAny (model prog w) (A.under (.builtin "type.__call__" ⟨.ref C::rest,[]⟩)) (call (.ref fI) (.ref (h.objs.size+1)::rest)) (fun r s'=>r= .none/\Q (.ref (h.objs.size+1)) s') E
   ⟨(h.push { cls:=.type "tuple",data:=.seq rest.toArray }).push (g_ C h.objs.size none),g,d,t,os⟩) (hrest:rest.length<=sizeLine:=by size_fits):
 wpAny (model prog w) A (call (.ref C) rest) Q E ⟨h,g,d,t,os⟩:=by
 have f1:=tc_lookup;have f2:=tc_bind (.ref C);have hT:(⟨h,g,d,t,os⟩:Shared).TypeIs (.ref C) "type":=⟨_,hC,rfl⟩;refine wpAny_call (codeAny_of_tree ?_);show wpAny _ _ (callAny (.ref C) _) _ _ _
 repeat (any_goals (first | assumption | with_reducible refine wpAny_loadPart_at hC ?_ | wp_step))
 refine⟨rfl,?_⟩;refine codeAny_call_builtin_at (Code.quiet_builtin _ (by decide +kernel)) entry_typeCall (wpAny_check_type_call_sub hC ?_)
 repeat (first | with_reducible refine wpAny_loadPart_at hC ?_ | with_reducible refine wpAny_madeBy_exc hC ?_ | wp_step)
 refine codeAny_call_builtin_code (Code.quiet_builtin _ VF.quiet) (Vg T hC ?_);refine Z7 T hC ?_ hrest;show wpAny _ _ _ _ _ _;have k:∀ b o,h.get? b=some o->((h.push { cls:=.type "tuple",data:=.seq rest.toArray }).push (g_ C h.objs.size none)).get? b=some o:=fun b o e=>Heap.get?_push_of_some _ (Heap.get?_push_of_some _ e);have hC1:=k _ _ hC;have hget:((h.push { cls:=.type "tuple",data:=.seq rest.toArray }).push (g_ C h.objs.size none)).get? (h.objs.size+1)=some (g_ C h.objs.size none):=by heap_get
 have hcC:(Value.ref C::bm).contains (.ref C)=true:=by simp
 unfold isInstance
 repeat (first | with_reducible refine wpAny_loadPart_at hget ?_ | wp_step)
 show wpAny _ _ (isSubtype (.ref C) (.ref C)) _ _ _;refine wpAny_isSubtype_exc hC1 ?_;rw[hcC]
 repeat (first | with_reducible refine wpAny_loadPart_at hget ?_ | wp_step)
 show wpAny _ _ (typeLookup (.ref C) _) _ _ _;refine(hi.keeps k).here ?_;refine wpAny_holding (wpAny_bind (((hb _).keeps k).here ?_));refine wpAny_bind (wpAny_mono hq (fun r s' hr=>?_) fun _ _ x=>x);obtain⟨rfl,hQ⟩:=hr
 wp_walk
 exact hQ
end
end L2
namespace L2
open PySem PySem.Spec PySem.SeqAt PyProof.Rows
open PySem.Builtin.ObjectAttr
noncomputable abbrev bmV:List Value:=[.type "ValueError",.type "Exception",.type "BaseException",.type "object"]
theorem Qi(self:Value):refuseLoop self "__setattr__" bmV=pure ():=by
 kernel_rfl
theorem Cy(self:Value):∀ as:List Addr,refuseLoop self "__setattr__" (as.map Value.ref++bmV)=pure ()
 | []=>Qi self
 | c::r=>by rw[List.map_cons,List.cons_append,refuseLoop_ref];exact Cy self r
theorem Nz:∀ as:List Addr,(as.map Value.ref++bmV).contains (.type "object")=true
 | []=>by decide
 | c::r=>by rw[List.map_cons,List.cons_append,List.contains_cons,Nz r,Bool.or_true]
section
variable{prog:Program}{w:World}{A:Around}{E:Value->Shared->Prop}{s:Shared}{K:ak}{C e t:Addr}{v:Value}{name:Str}{cd:ClassData}{as:List Addr}
theorem XC{Q:Unit->Shared->Prop}(X:K.In s.heap)(hx:s.heap.get? e=some (g_ C t none))(hc:PySem.W.clsIn K C=some cd)(hm:cd.mro=as.map Value.ref++bmV)(hd:cd.hasDict=true)
 (hs:PySem.W.findIn K (.ref C) "__setattr__" =some (some (.builtin "object.__setattr__"))) (ht:PySem.W.findIn K (.ref C) name=some none)
 (h:∀ h' dx,s.heap.get? dx=none->h'.Ns1 dx (fun y=>if y=name then some v else none)->h'.get? e=some (g_ C t (some dx))->(∀ b o,b ≠ e->s.heap.get? b=some o->h'.get? b=some o)->Q () { s with heap:=h',toks:=s.toks+2 }):
 wpAny (model prog w) A (setAttr (.ref e) name v) Q E s:=by
 have SF:=PySem.F.store_object;have J:PySem.W.InstAt s.heap e (g_ C t none) C none:=⟨hx,rfl,rfl,trivial⟩;have J1:PySem.W.InstAt ({ s with toks:=s.toks+1 }:Shared).heap e (g_ C t none) C none:=J;have ne:cd.mro.isEmpty=false:=by rw[hm];cases as <;> rfl
 have sub:PySem.W.Looks (model prog w) s.heap (isInstance (.ref e) (.type "object")) true:=J.type.andThen (PySem.W.looks_mroIn X (by unfold PySem.W.mroIn;rw[hc,Option.bind_some,if_neg (by rw[ne];decide),hm,Nz as]));refine PySem.W.set_plain X J hs ?_;refine codeAny_call_builtin SF.slot.plain SF.entry (@PySem.W.check_slot (model prog w) _ _ { s with toks:=s.toks+1 } "object.__setattr__" "object" "__setattr__" (.ref e) [.str name s.toks,v] [] _ SF.kind SF.split sub (SF.args (.ref e) (.str name s.toks) v) ?_);have hmro:PySem.W.Looks (model prog w) s.heap (mroOf (.ref C)) cd.mro:=(PySem.W.looks_clsIn X hc).andThen .now;rw[PySem.W.osa_eq,refuse_eq];refine wpAny_bind (wpAny_bind (J1.type.here (wpAny_bind (PySem.W.Looks.here (s:={ s with toks:=s.toks+1 }) hmro ?_))));rw[hm,Cy];refine wpAny_pure (wpAny_bind (J1.type.here (wpAny_bind (PySem.W.Looks.here (s:={ s with toks:=s.toks+1 }) (PySem.W.looks_findIn X ht) (wpAny_bind (wpAny_pure ?_))))));show wpAny _ _ (storeInOwnDict (.ref e) (.ref C) (.str name s.toks) name v false) _ _ _;refine wpAny_bind (wpAny_pure (wpAny_bind ?_));show wpAny _ _ (instanceDict e true) _ _ _;unfold instanceDict;refine wpAny_bind (wpAny_loadPart (s:={ s with toks:=s.toks+1 }) hx (wpAny_bind (PySem.W.Looks.here (s:={ s with toks:=s.toks+1 }) (PySem.W.looks_clsIn X hc) ?_)));rw[hd];show wpAny _ _ (alloc { cls:=.type "dict",data:=.dict #[] } >>= fun d=>update e (fun o=>{ o with dict:=some d }) >>= fun _=>dictMade (.ref C) e d) _ _ _;refine wpAny_bind (wpAny_alloc (wpAny_bind (wpAny_update (o:=g_ C t none) (Heap.get?_push_of_some _ hx) (wpAny_pure ?_))));have hlt:e<s.heap.objs.size:=Heap.lt_size hx;have hE:((s.heap.push PySem.W.emptyDict).update e (fun o=>{ o with dict:=some s.heap.objs.size })).get? e=some (g_ C t (some s.heap.objs.size)):=Heap.get?_update_self _ (Heap.get?_push_of_some _ hx) rfl;have hD:((s.heap.push PySem.W.emptyDict).update e (fun o=>{ o with dict:=some s.heap.objs.size })).get? s.heap.objs.size=some PySem.W.emptyDict:=(Heap.get?_update_other _ _ (Nat.ne_of_lt hlt)).trans (Heap.get?_push_size _ rfl)
 have hn:((s.heap.push PySem.W.emptyDict).update e (fun o=>{ o with dict:=some s.heap.objs.size })).Ns1 s.heap.objs.size (fun _=>none):=
  Heap.Ns1.of_empty ⟨PySem.W.emptyDict,#[],_,hD,rfl,(fun e he=>absurd he (by simp)),fun _=>rfl⟩
 show wpAny _ _ (storeInDict s.heap.objs.size (.str name s.toks) name v) _ _ _;refine wpAny_bind (wpAny_pure (wpAny_bind ?_));refine wpAny_nsSet1 (s:={ s with heap:=(s.heap.push PySem.W.emptyDict).update e (fun o=>{ o with dict:=some s.heap.objs.size }),toks:=s.toks+1 }) hn fun h' hn2 hs2=>?_;obtain⟨oD,esD,epD,hoD,hdD,hcD⟩:=hn2.count (PySem.Within.cons name v (ns:=[]) (fun _ z=>absurd rfl z));refine wpAny_bind (wpAny_lookBehind hoD (by rw[hdD];exact pastItsLine_dict (Nat.le_trans hcD (by show 1<=sizeLine+1;exact Nat.le_add_left 1 _))) ?_);refine wpAny_pure (h h' s.heap.objs.size (Heap.get?_none_of_le (aA _)) hn2 ((hs2.2 _ (Nat.ne_of_lt hlt)).trans hE) fun b o hb q=>?_);refine(hs2.2 b (Nat.ne_of_lt (Heap.lt_size q))).trans ((Heap.get?_update_other _ _ (Ne.symm hb)).trans (Heap.get?_push_of_some _ q))
end
section
variable{prog:Program}{w:World}{A:Around}{E:Value->Shared->Prop}{h:Heap}{g:Array GenState}{d:PySem.Drawn}{t:Nat}{os:OsState}
variable{nm q:Str}{C N e ta:Addr}{bs bm:List Value}{hdct:Bool}{sn:List Str}{sub:List Value}{ab:Bool}{col:Option Bool}{dd od:Option Addr}{k0 k1 k2 k3 k5:Option Value}
theorem init_exc{rest:List Value}{Q:Value->Shared->Prop}(T:Ord bm)(hC:h.get? C=some (excClassObj nm q C N bs bm hdct sn sub ab col dd k0 k1 k2 k3 k5 "ValueError.__new__"))(he:h.get? e=some (g_ C ta od))
 (hq:∀ h',h'.get? e=some (g_ C h.objs.size od)->(∀ b o,b ≠ e->h.get? b=some o->h'.get? b=some o)->Q .none ⟨h',g,d,t,os⟩) (hrest:rest.length<=sizeLine:=by size_fits):
 wpAny (model prog w) A (call (.builtin "ValueError.__init__") (.ref e::rest)) Q E ⟨h,g,d,t,os⟩:=by
 have c1:=T.cv C;have hstar:=VF.noStar;refine wpAny_call (codeAny_call_builtin VF.init.plain VF.initEntry ?_);simp only[checkBuiltinCall,VF.initKind,VF.initSplit,VF.initRow];have hcls:(g_ C ta od).cls= .ref C:=rfl
 repeat (first | (with_reducible refine wpAny_loadPart_at he ?_;rw[hcls]) | with_reducible refine wpAny_loadPart_at hC ?_ | (with_reducible refine wpAny_isSubtype_exc hC ?_;rw[c1]) | wp_step)
 refine wpAny_onRaise ?_
 rw[show ∀(a b:String) (n:Nat),Bind.check ⟨.positional,"*","ValueError",.self,[⟨"args",.varPos,false⟩]⟩ a b n (List.map (fun x=>x.fst) ({ pos:=Value.ref e::rest }:Args).kw)=pure () from
  fun a b n=>check_star_args _ _ _ _ _ _]
 refine wpAny_pure ?_;have hlt:=Heap.lt_size he
 wp_walk
 refine hq _ (Heap.get?_update_self _ (Heap.get?_push_of_some _ he) rfl) fun b o hb z=>?_;exact(Heap.get?_update_other _ _ (Ne.symm hb)).trans (Heap.get?_push_of_some _ z)
end
end L2
namespace L2
open PySem PySem.Spec PySem.SeqAt PyProof.Rows
section
variable{prog:Program}{w:World}{A:Around}{E:Value->Shared->Prop}{h:Heap}{g:Array GenState}{d:PySem.Drawn}{t:Nat}{os:OsState}
variable{nm q:Str}{C N e dx:Addr}{bs bm:List Value}{hdct:Bool}{sn:List Str}{sub:List Value}{ab:Bool}{col:Option Bool}{dd:Option Addr}{k0 k1 k2 k3 k5:Option Value}{K:ak}{cd:ClassData}
theorem XD{name:Str}{v:Value}{oe:Obj}{mA:Str->Option Value}{expr:Bool}{Q:Value->Shared->Prop}(X:K.In h)(T:Ord bm)(hC:h.get? C=some (excClassObj nm q C N bs bm hdct sn sub ab col dd k0 k1 k2 k3 k5 "ValueError.__new__"))
 (g1:PySem.W.findIn K (.ref C) "__getattribute__" =some (some (.builtin "BaseException.__getattribute__"))) (g2:PySem.W.findIn K (.ref C) "__getattr__" =some none) (g3:PySem.W.findIn K (.ref C) name=some none)
 (hcls:PySem.W.clsIn K C=some cd) (hcd:cd.hasDict=true) {vs:Array Value} (hx:h.get? e=some oe) (hc:oe.cls= .ref C) (hfd:oe.data= .fields vs) (hdi:oe.dict=some dx) (hn:h.Ns1 dx mA) (hv:mA name=some v) (hh:PySem.W.handedIn v=true)
 (hq:Q v ⟨h,g,d,t+1,os⟩):wpAny (model prog w) A (getAttr (.ref e) name expr) Q E ⟨h,g,d,t,os⟩:=by
 have FB:=PySem.F.attrBase_ValueError;have f3:=FB.ga.bind (.ref e);have L1:=PySem.W.looks_findIn (M:=model prog w) X g1;have L2:=PySem.W.looks_findIn (M:=model prog w) X g2;have L3:=PySem.W.looks_findIn (M:=model prog w) X g3;have hx0:(expr&&onTheHeap (Value.builtin "BaseException.__getattribute__"))=false:=by cases expr <;> rfl
 have hx2:(Value.builtin "BaseException.__getattribute__" == Value.builtin "object.__getattribute__")=false:=by decide +kernel
 have hx1:(onTheHeap (Value.ref C)&&Value.builtin "BaseException.__getattribute__" == Value.builtin "object.__getattribute__")=false:=by rw[hx2];rfl
 have cb:=T.cb C;unfold getAttr
 repeat (any_goals (first | assumption | (with_reducible refine wpAny_loadPart_at hx ?_;rw[hc]) | with_reducible refine PySem.W.Looks.here L1 ?_ | with_reducible refine PySem.W.Looks.here L2 ?_ | wp_step))
 refine codeAny_call_builtin FB.ga.plain PySem.F.entry_bexc_ga ?_;have hk:builtinKind "BaseException.__getattribute__" =some .slot:=by decide +kernel
 have hsplit:splitId "BaseException.__getattribute__" =some ("BaseException","__getattribute__"):=by decide +kernel
 have ha:=PySem.F.args_bexc_ga (.ref e) (.str name t);simp only[checkBuiltinCall,hk,hsplit];refine wpAny_bind ?_;unfold isInstance
 repeat (first | (with_reducible refine wpAny_loadPart_at hx ?_;rw[hc]) | (with_reducible refine wpAny_isSubtype_exc hC ?_;rw[cb]) | wp_step)
 repeat (any_goals (first | assumption | (with_reducible refine wpAny_loadPart_at hx ?_;rw[hc]) | with_reducible refine PySem.W.Looks.here L3 ?_ | wp_step))
 rw[hfd];show wpAny _ _ (instanceDict e false) _ _ _;unfold instanceDict;refine wpAny_bind (wpAny_loadPart_at hx ?_);rw[hc,hdi];refine wpAny_bind (PySem.W.Looks.here (PySem.W.looks_clsIn X hcls) ?_);rw[hcd];refine wpAny_pure ?_;show wpAny _ _ (Builtin.ObjectAttr.inDict name (some dx)) _ _ _;unfold Builtin.ObjectAttr.inDict;refine wpAny_nsGet hn.ns ?_;rw[hv];refine wpAny_bind (wpAny_rule (wpAny_pure (wpAny_pure ?_)));show wpAny _ _ (handedOut v) _ _ _;rw[PySem.W.handedOut_of hh];exact wpAny_pure hq
end
structure Sup (H':Hp)(h0 g h:Heap):Prop where
 sub:∀ b o,g.get? b=some o->h.get? b=some o
 old:∀ b o,h.get? b=some o->((∃ o0,h0.get? b=some o0)\/∃ u,H' b=some u)->g.get? b=some o
noncomputable def CXE(P:Program)(w:World):CXT:=fun outer H s E ev s'=>∃(e:Addr) (C:Value) (d:Option Addr) (a0:Value) (H':Hp) (g:Heap),ev= .ref e/\s'.os=s.os/\AllBare s'.gens/\
 Un (frs outer) [] H H' s.heap s'.heap/\HOk P w H' s'.heap/\Fly g .none e C d a0 s'.heap/\Sup H' s.heap g s'.heap/\E C d H'
theorem v5{P:Program}{w:World}{outer:List Env}{H:Hp}{s s':Shared}{e:Value}:¬ CXE P w outer H s (fun _ _ _=>False) e s':=fun⟨_,_,_,_,_,_,_,_,_,_,_,_,_,h⟩=>h
theorem bO.get{P:Program}{w:World}{H:Hp}{h:Heap}{a:Addr}{o:HO}(x:bO P w H h a o):∃ ob,h.get? a=some ob:=by
 cases o with
 | lst xs=>obtain⟨_,_,_,_,e⟩:=x;exact⟨_,e⟩
 | tup xs=>obtain⟨_,_,_,ob,e,_⟩:=x;exact⟨_,e⟩
 | dK kvs=>obtain⟨_,_,_,_,o,_,_,e,_⟩:=x;exact⟨_,e⟩
 | dT kvs=>obtain⟨_,_,_,_,o,_,_,e,_⟩:=x;exact⟨_,e⟩
 | set S n=>obtain⟨o,_,_,_,e,_⟩:=x;exact⟨_,e⟩
 | ins C dx fs=>obtain⟨_,_,_,e,_⟩:=x;exact⟨_,e⟩
 | own y=>obtain⟨_,e⟩:=x;exact⟨_,e⟩
 | xd fs=>obtain⟨_,⟨_,_,_,e,_⟩,_⟩:=x;exact⟨_,e⟩
 | rng lo hi=>obtain⟨_,_,_,e⟩:=x;exact⟨_,e⟩
 | frz ob u=>obtain⟨e,_⟩:=x;exact⟨_,e⟩
 | tbl ps=>exact⟨_,(show h.get? a=some _ from x)⟩
 | met f y=>exact⟨_,(show h.get? a=some _ from x)⟩
 | ext φ=>obtain⟨_,⟨_,e⟩,_⟩:=x;exact⟨_,e⟩
noncomputable def only(g h:Heap):Heap:=PySem.W.hideAll h ((List.range h.objs.size).filter fun b=>(g.get? b).isNone)
theorem G5{g h:Heap}{b:Addr}(hb:g.get? b=none):(only g h).get? b=none:=by
 cases q:(only g h).get? b with
 | none=>rfl
 | some o=>
   have e:h.get? b=some o:=PySem.W.of_hideAll _ q;have hm:b ∈ (List.range h.objs.size).filter fun b=>(g.get? b).isNone:=List.mem_filter.mpr ⟨List.mem_range.mpr (Heap.lt_size e),by rw[hb];rfl⟩;have q2:(only g h).get? b=none:=PySem.W.hideAll_none _ hm;rw[q]at q2;cases q2
theorem Vh{g h:Heap}{b:Addr}{o o':Obj}(e:h.get? b=some o)(hb:g.get? b=some o'):(only g h).get? b=some o:=by
 refine PySem.W.hideAll_get _ e fun hm=>?_;have:=(List.mem_filter.mp hm).2;rw[hb]at this;cases this
theorem XF{g h:Heap}{b:Addr}{o:Obj}(e:(only g h).get? b=some o):h.get? b=some o:=PySem.W.of_hideAll _ e
theorem Fly.only{g h:Heap}{fl:Value}{e:Addr}{C:Value}{d:Option Addr}{a0:Value}(F:Fly g fl e C d a0 h):Fly (only g h) fl e C d a0 h:=by
 obtain⟨hg,oe,vs,T,oT,ts,h1,h2,h3,h4,h5,h6,h7,h8,r⟩:=F;exact⟨G5 hg,oe,vs,T,oT,ts,h1,h2,h3,h4,h5,h6,h7,G5 h8,r⟩
theorem v7{env:Env}{outer:List Env}{L:Addr}(h:env.frame=some L):frs (env::outer)=L::frs outer:=by
 unfold frs;rw[List.filterMap_cons,h]
structure Own (X:Cx):Prop where
 ex:X.ex= []
 st:X.stack=X.env::X.outer
 fr:X.env.frame=some X.env.locals
section
variable{X:Cx}{pins:List (Addr × Obj)}{σ:St}{H H':Hp}{s s':Shared}{E:XK}{e:Addr}{C:Value}{d:Option Addr}{a0:Value}{g h':Heap}
theorem Own.frs(O:Own X):L2.frs X.stack=X.env.locals::X.fs:=by rw[O.st,v7 O.fr]
theorem Inv.Ss(I:Inv X pins σ H s)(O:Own X){b:Addr}{o:Obj}(q:X.s₀.heap.get? b=some o):∃ o',s.heap.get? b=some o':=I.base.there b o q (by rw[O.ex];simp)
theorem Su{fs:List Addr}{base h h':Heap}{l:List Env}(u:Un fs [] H H' h h')(hs:∀ b ∈ L2.frs l,b ∈ fs)(hf:∀ b ∈ L2.frs l,H b=none)(hl:h.FunFrames base l):h'.FunFrames base l:=by
 induction l with
 | nil=>trivial
 | cons env rest ih=>
   obtain⟨hk,⟨L,o,hfr,hn,ho,hd⟩,hr⟩:=hl;have hm:L ∈ L2.frs (env::rest):=by rw[v7 hfr];exact List.mem_cons_self
   obtain⟨sl,e⟩:=u.slot L o ho (hf L hm) (hs L hm) (by simp);exact⟨hk,⟨L,_,hfr,hn,e,hd⟩,ih (fun b hb=>hs b (by rw[v7 hfr];exact List.mem_cons_of_mem _ hb)) (fun b hb=>hf b (by rw[v7 hfr];exact List.mem_cons_of_mem _ hb)) hr⟩
theorem Sv(O:Own X)(I:Inv X pins σ H s)(hos:s'.os=s.os)(hb:AllBare s'.gens)(u:Un (L2.frs X.stack) [] H H' s.heap s'.heap)(ok:HOk X.prog X.w H' s'.heap)
 (sup:Sup H' X.s₀.heap g s'.heap) (k:Kp (L2.frs X.stack) g h') (F:Fly g .none e C d a0 h') (hE:E C d H'):CXE X.prog X.w X.outer X.H₀ X.s₀ E (.ref e) { s' with heap:=h' }:=by
 have b0:Un X.fs [] X.H₀ H X.s₀.heap s.heap:=by have:=I.base;rw[O.ex]at this;exact this
 have fr:=O.frs;rw[fr]at u k;have u0:Un (X.env.locals::X.fs) [] X.H₀ H' X.s₀.heap s'.heap:=(b0.mono (fun b hb=>List.mem_cons_of_mem _ hb) fun _ h=>h).trans u;have hL:X.s₀.heap.get? X.env.locals=none:=Heap.get?_none_of_le I.ok.above;have neL:∀ {b o},X.s₀.heap.get? b=some o->b ≠ X.env.locals:=fun q z=>by rw[z,hL]at q;cases q
 have nof:∀ b u',H' b=some u'->b ∉ X.env.locals::X.fs:=fun b u' q hm=>by
  have hm':b ∈ L2.frs X.stack:=by rw[fr];exact hm
  obtain⟨_,o,ho,_⟩:=I.stack.mem hm';rw[u.free b o ho (I.qj b hm') (by simp)]at q;cases q
 refine⟨e,C,d,a0,H',L2.only g h',rfl,hos.trans I.os,hb,⟨fun b o q n hf _=>?_,fun b o q n hf _=>?_,u0.free,fun b o q _=>?_,u0.tups,u0.mq,u0.mz⟩,fun a o ea=>?_,F.only,⟨fun b o q=>XF q,fun b o q hc=>?_⟩,hE⟩
 · have hn:b ∉ X.env.locals::X.fs:=fun z=>(List.mem_cons.mp z).elim (neL q) hf;exact(k b o (sup.old b o (u0.keep b o q n hn (by simp)) (.inl ⟨o,q⟩))).1 hn
 · obtain⟨sl,q1⟩:=u0.slot b o q n (List.mem_cons_of_mem _ hf) (by simp);obtain⟨sl2,q2⟩:=(k b _ (sup.old b _ q1 (.inl ⟨o,q⟩))).2 (List.mem_cons_of_mem _ hf);exact⟨sl2,q2⟩
 · obtain⟨o',q1⟩:=u0.there b o q (by simp);have q2:=sup.old b _ q1 (.inl ⟨o,q⟩)
   by_cases hm:b ∈ X.env.locals::X.fs
   · obtain⟨sl,q3⟩:=(k b _ q2).2 hm;exact⟨_,q3⟩
   · exact⟨_,(k b _ q2).1 hm⟩
 · refine(ok a o ea).stay (fun b v hbv q=>?_) (fun _ q=>q) fun _ _ q=>q
   have tr:∃ u',H' b=some u':=by
    rcases hbv with z | z
    · exact⟨o,by rw[z];exact ea⟩
    · exact⟨_,z⟩
   obtain⟨u',z⟩:=tr;exact(k b v (sup.old b v q (.inr ⟨u',z⟩))).1 (nof b u' z)
 · have:∃ o',g.get? b=some o':=by
    rcases hc with ⟨o0,q0⟩ | ⟨u',z⟩
    · obtain⟨o',q1⟩:=u0.there b o0 q0 (by simp);exact⟨_,sup.old b _ q1 (.inl ⟨o0,q0⟩)⟩
    · obtain⟨o',q1⟩:=(ok b u' z).get;exact⟨_,sup.old b _ q1 (.inr ⟨u',z⟩)⟩
   obtain⟨o',q2⟩:=this;exact Vh q q2
noncomputable def Bd(X:Cx)(E:XK):Value->Shared->Prop:=fun e s'=>wpAny (model X.prog X.w) X.A (leaving X.env e) (fun _ s''=>CXE X.prog X.w X.outer X.H₀ X.s₀ E e s'') (fun e' s''=>CXE X.prog X.w X.outer X.H₀ X.s₀ E e' s'') s'
theorem Be{E':XK}(O:Own X)(hx:X.xe=Bd X E)(hE:∀ C d H,E' C d H->E C d H):Passes (CXE X.prog X.w) X E':=by
 intro pins σ H s ev s' I h;obtain⟨e,C,d,a0,H',g,rfl,hos,hb,u,ok,F,sup,q⟩:=h;rw[hx];unfold Bd;have hfr:X.A.frames=some (X.env::X.outer):=by rw[I.ok.frames,O.st]
 have hl:s'.heap.FunFrames X.base (X.env::X.outer):=by
  have:=Su u (fun _ h=>h) I.qj I.stack;rw[O.st]at this;exact this
 refine Qh hfr hl O.fr F (Kp.of_keeps sup.sub) fun h' k F'=>?_;rw[<- O.st]at k;refine Sv O I hos hb u ok ⟨sup.sub,fun b o q hc=>sup.old b o q ?_⟩ k F' (hE _ _ _ q)
 rcases hc with ⟨o0,q0⟩ | z
 · exact .inl (I.Ss O q0)
 · exact .inr z
theorem XH{oe:Obj}{vs:Array Value}(O:Own X)(hx:X.xe=Bd X E)(I:Inv X pins σ H s)(he:s.heap.get? e=some oe)(hd:oe.data= .fields vs)(h0:vs[0]? =some a0)(h1:vs[1]? =some .none)(hn:X.s₀.heap.get? e=none)
 (hm:Mut (H e)) (hE:E oe.cls oe.dict (fun b=>if b=e then none else H b)):X.xe (.ref e) s:=by
 rw[hx];unfold Bd;have hfr:X.A.frames=some (X.env::X.outer):=by rw[I.ok.frames,O.st]
 have hl:s.heap.FunFrames X.base (X.env::X.outer):=by have:=I.stack;rw[O.st]at this;exact this
 have ne:∀ {b u},(fun b=>if b=e then none else H b) b=some u->b ≠ e/\H b=some u:=fun {b u} q=>by
  have q':(if b=e then none else H b)=some u:=q
  by_cases z:b=e
  · rw[if_pos z]at q';cases q'
  · rw[if_neg z]at q';exact⟨z,q'⟩
 have eo:∀ {b:Addr},b ≠ e->(fun b=>if b=e then none else H b) b=H b:=fun z=>if_neg z;have Z8:∀ b xs,H b=some (.tup xs)->b ≠ e:=fun b xs q z=>by rw[<- z,q]at hm;exact hm
 have ada:∀ b a,H b=some (.own a)->b ≠ e:=fun b a q z=>by rw[<- z,q]at hm;exact hm
 have adb:∀ b o u,H b=some (.frz o u)->b ≠ e:=fun b o u q z=>by rw[<- z,q]at hm;exact hm
 have ade:∀ b ps,H b=some (.tbl ps)->b ≠ e:=fun b ps q z=>by rw[<- z,q]at hm;exact hm
 refine Mw (g:=PySem.W.hideAll s.heap [e]) hfr hl O.fr he hd h0 h1 (PySem.W.hideAll_none _ List.mem_cons_self) (Kp.of_keeps fun b o q=>PySem.W.of_hideAll _ q) fun h' k F=>?_;rw[<- O.st]at k;refine Sv (H':=fun b=>if b=e then none else H b) O I rfl I.bare ⟨fun _ _ q _ _ _=>q,fun b o q _ _ _=>⟨o.slots,q⟩,fun b o _ n _=>?_,fun b o q _=>⟨o,q⟩,fun b xs q=>(eo (Z8 b xs q)).trans q,fun b o u q=>(eo (adb b o u q)).trans q,fun b ps q=>⟨#[],by rw[Array.append_empty];exact(eo (ade b ps q)).trans q⟩⟩ ?_ ⟨fun b o q=>PySem.W.of_hideAll _ q,fun b o q hc=>?_⟩ k F hE
 · by_cases z:b=e
   · exact if_pos z
   · exact(if_neg z).trans n
 · intro a o ea;obtain⟨z,q⟩:=ne ea;exact(I.hok a o q).stay (fun _ _ _ q=>q) (fun b q=>(eo (ada b a q)).trans q) fun b xs q=>(eo (Z8 b xs q)).trans q
 · refine PySem.W.hideAll_get _ q fun z=>?_;have z':b=e:=by simpa using z
   rcases hc with ⟨o0,q0⟩ | ⟨u',q0⟩
   · rw[z',hn]at q0;cases q0
   · exact(ne q0).1 z'
end
noncomputable def XO(e C:Addr)(d:Option Addr):HO:=.ext fun h=>∃ t,h.get? e=some (g_ C t d)
theorem Qj{P:Program}{w:World}{H:Hp}{h:Heap}{e C t:Addr}{d:Option Addr}(q:h.get? e=some (g_ C t d)):bO P w H h e (XO e C d):=
 ⟨⟨t,q⟩,⟨_,q⟩,fun h1 h2 ⟨t',q'⟩ k=>⟨t',k _ q'⟩⟩
theorem Qk{P:Program}{w:World}{H:Hp}{h:Heap}{e C:Addr}{d:Option Addr}(ok:HOk P w H h)(q:H e=some (XO e C d)):∃ t,h.get? e=some (g_ C t d):=(ok e _ q).1
theorem Vi{H:Hp}{a:Addr}{o:HO}(h:H a=some o):upd H a o=H:=by
 funext b;unfold upd;split
 · rename_i e;rw[e,h]
 · rfl
theorem rR:∀ as:List Addr,Ord (as.map Value.ref++bmV)
 | []=>⟨by decide,by decide,by decide,by decide⟩
 | c::r=>by
   obtain⟨a,b,c',d⟩:=rR r;exact⟨by rw[List.map_cons,List.cons_append,List.contains_cons,a,Bool.or_true],by rw[List.map_cons,List.cons_append,List.contains_cons,b,Bool.or_true],by rw[List.map_cons,List.cons_append,List.contains_cons,c'];rfl,by rw[List.map_cons,List.cons_append,List.contains_cons,d];rfl⟩
structure jJ (K:ak)(C:Addr):Prop where
 obj:∃(nm q:Str) (N:Addr) (bs:List Value) (as:List Addr) (sn:List Str) (sub:List Value) (ab:Bool) (col:Option Bool) (dd:Option Addr) (k0 k1 k2 k3 k5:Option Value),
  K.lookup C=some (excClassObj nm q C N bs (as.map Value.ref++bmV) true sn sub ab col dd k0 k1 k2 k3 k5 "ValueError.__new__")
 adf:PySem.W.findIn K (.ref C) "__setattr__" =some (some (.builtin "object.__setattr__"))
 adg:PySem.W.findIn K (.ref C) "__getattribute__" =some (some (.builtin "BaseException.__getattribute__"))
 adh:PySem.W.findIn K (.ref C) "__getattr__" =some none
theorem jJ.cls{K:ak}{C:Addr}(c:jJ K C):∃(cd:ClassData) (as:List Addr),PySem.W.clsIn K C=some cd/\cd.mro=as.map Value.ref++bmV/\cd.hasDict=true:=by
 obtain⟨nm,q,N,bs,as,sn,sub,ab,col,dd,k0,k1,k2,k3,k5,e⟩:=c.obj;have e2:PySem.W.clsIn K C=some { name:=nm,bases:=bs,mro:=.ref C::(as.map Value.ref++bmV),ns:=N,qualname:=q,hasDict:=true,slotNames:=sn,subclasses:=sub,abstract:=ab,collection:=col,hasDel:=false }:=by unfold PySem.W.clsIn;rw[e]
 exact⟨_,C::as,e2,rfl,rfl⟩
structure XMk (K:ak)(C f:Addr):Prop where
 cls:jJ K C
 init:PySem.W.findIn K (.ref C) "__init__" =some (some (.ref f))
 fn:PySem.W.typeIn K (.ref f)=some (.type "function")
 kp:PySem.W.keepIn K (.ref C)=true
section
variable{X:Cx}{pins:List (Addr × Obj)}{σ:St}{H:Hp}{s:Shared}
noncomputable def abX(K:ak)(ta tv:TE)(f:Str):TS:=fun D σ H=>tv σ H fun y H1=>ta σ H1 fun x H2=>∃ e C,x= .ref e/\H2 e=some (XO e C none)/\jJ K C/\cL K C f/\
 ∀ dx,H2 dx=none->dx ≠ e->D.nx σ (upd (upd H2 dx (.xd [(f,y)])) e (XO e C (some dx)))
theorem XJ{e C:Addr}{f:Str}{y:V}{u:Value}{Q:Unit->Shared->Prop}(I:Inv X pins σ H s)(he:H e=some (XO e C none))(c:jJ X.K C)(n:cL X.K C f)(ry:RelV y u)
 (h:∀ dx s',H dx=none->dx ≠ e->Inv X pins σ (upd (upd H dx (.xd [(f,y)])) e (XO e C (some dx))) s'->Q () s'):wpAny (model X.prog X.w) X.A (setAttr (.ref e) f u) Q X.xe s:=by
 obtain⟨t,hx⟩:=Qk I.hok he;obtain⟨cd,as,hc,hm,hd⟩:=c.cls;refine XC I.kIn hx hc hm hd c.adf n fun h' dx hdx hn hE k=>?_
 have hdn:H dx=none:=by
  cases q:H dx with
  | none=>rfl
  | some o=>
    obtain⟨ob,z⟩:=(I.hok dx o q).get;rw[hdx]at z;cases z
 have hde:dx ≠ e:=fun z=>by rw[z,hx]at hdx;cases hdx
 have nT:∀ b xs,H b=some (.tup xs)->b ≠ e:=fun b xs q z=>by rw[z,he]at q;cases q
 have nO:∀ b a,H b=some (.own a)->b ≠ e:=fun b a q z=>by rw[z,he]at q;cases q
 have nF:∀ b o u,H b=some (.frz o u)->b ≠ e:=fun b o u q z=>by rw[z,he]at q;cases q
 have nB:∀ b ps,H b=some (.tbl ps)->b ≠ e:=fun b ps q z=>by rw[z,he]at q;cases q
 have up:∀ {b o},H b=some o->b ≠ e->upd (upd H dx (.xd [(f,y)])) e (XO e C (some dx)) b=some o:=fun q z=>by rw[aB z,aB (bL q hdn)];exact q
 refine h dx _ hdn hde (I.un (h':=h') (t':=s.toks+2) ⟨fun b o q n _ _=>k b o (fun z=>by rw[z,he]at n;cases n) q,fun b o q n _ _=>⟨o.slots,k b o (fun z=>by rw[z,he]at n;cases n) q⟩,fun b o q n _=>?_,fun b o q _=>?_,fun b xs q=>up q (nT b xs q),fun b o u q=>up q (nF b o u q),fun b ps q=>⟨#[],by rw[Array.append_empty];exact up q (nB b ps q)⟩⟩ fun a o q=>?_)
 · have h1:b ≠ e:=fun z=>by rw[z,he]at n;cases n
   have h2:b ≠ dx:=fun z=>by rw[z,hdx]at q;cases q
   rw[aB h1,aB h2];exact n
 · by_cases z:b=e
   · subst z;exact⟨_,hE⟩
   · exact⟨o,k b o z q⟩
 · by_cases z:a=e
   · subst z;rw[az]at q;cases q;exact Qj hE
   · rw[aB z]at q
     by_cases z2:a=dx
     · subst z2;rw[az]at q;cases q;refine⟨_,hn,fun g=>?_⟩;rw[List.lookup_cons]
       by_cases hg:g=f
       · subst hg;rw[beq_self_eq_true,if_pos rfl];exact ry
       · rw[if_neg hg,show(g==f)=false by simpa using hg];trivial
     · rw[aB z2]at q;refine(I.hok a o q).stay (fun b v hb q'=>k b v ?_ q') (fun b q'=>up q' (nO b a q')) fun b xs q'=>up q' (nT b xs q')
       rcases hb with z3 | z3
       · rw[z3];exact z
       · exact nO b a z3
theorem XM{o value:Expr}{f:Str}{pos pos':Pos}{ta tv:TE}(ha:PE X o ta)(hv:PE X value tv)(hs:swapsWith value (some (.Attribute o f pos')) pos.line X.env=pure false:=by rfl):
 PS X (.Assign [.Attribute o f pos'] value pos) (abX X.K ta tv f):=by
 intro pins s σ H D I h;refine plainObj_wpAny_Assign_Attribute (thn (hv pins s σ H _ I h) fun u s1 ⟨y,H1,I1,ry,q1⟩=>thn (ha pins s1 σ H1 _ I1 q1) fun ov s2 ⟨x,H2,I2,rx,e,C,ex,he,c,n,q2⟩=>?_) hs;subst ex;obtain rfl:ov=Value.ref e:=rx;exact XJ I2 he c n ry fun dx s' h1 h2 I3=>⟨σ,_,I3,q2 dx h1 h2⟩
noncomputable def Z9(K:ak)(t:TA):TE:=fun σ H Q=>t σ H fun vs H1=>∃ e C d y,vs= [.ref e,y]/\H1 e=some (XO e C d)/\jJ K C/\Q .non H1
theorem Vj{e C:Addr}{d:Option Addr}{us:List Value}{Q:Value->Shared->Prop}(I:Inv X pins σ H s)(he:H e=some (XO e C d))(c:jJ X.K C)(hl:us.length<=sizeLine)
 (h:∀ s',Inv X pins σ H s'->Q .none s'):wpAny (model X.prog X.w) X.A (call (.builtin "ValueError.__init__") (.ref e::us)) Q X.xe s:=by
 obtain⟨t,hx⟩:=Qk I.hok he;obtain⟨nm,q,N,bs,as,sn,sub,ab,col,dd,k0,k1,k2,k3,k5,lk⟩:=c.obj;have hC:=I.kIn _ _ lk;obtain⟨hp,g,dr,tk,os⟩:=s;refine init_exc (rR as) hC hx (fun h' hE k=>?_) hl;have I2:=I.write (x:=e) (e:=e) (o:=XO e C d) (h':=h') (t':=tk) (by rw[he];trivial) (.inl rfl) (fun b u hb q=>k b u hb q) ⟨_,hE⟩ (Qj hE);rw[Vi he]at I2;exact h _ I2
theorem Vk{p apos pos:Pos}{a b:Expr}{t:TA}(hg:Gl X "ValueError")(hm:X.mg "ValueError" =none)(ha:PA X [a,b] t)
 (hst:starEach [a,b] X.env=(false,eval a X.env)::starEach [b] X.env:=by rfl) (hpl:(backTo pos (starEach [b] X.env)).any (·.1)=false:=by rfl) (hl:(2:Nat)<=sizeLine:=by decide) {pl:Sem Bool}
 (ht:eval (.Call (.Attribute (.Name "ValueError" p) "__init__" apos) [a,b] [] pos) X.env=(do
   let ov <- eval (.Name "ValueError" p) X.env
   standAt apos.atName
   let (f,first) <- holding [ov] (getMethod ov "__init__" pl)
   callWith pos f first (backTo pos (starEach [a,b] X.env)) (backToKw pos (keywordEach [] X.env))):=by rfl):
 PE X (.Call (.Attribute (.Name "ValueError" p) "__init__" apos) [a,b] [] pos) (Z9 X.K t):=by
 intro pins s σ H Q I h;obtain⟨m,F⟩:=I.fr;refine PySem.W.methodCall_KW (pl:=pl) (qN I hg hm rfl ?_) ht;refine PySem.W.method_type (K:=X.K) F I.mod.kin (v:=.builtin "ValueError.__init__") (by rfl) (by decide +kernel) (by rfl) (by rfl) ?_;refine PyProof.Rows.callWith_builtin1 (thn (ha pos pins _ σ H _ (I.tok _) h) fun us s2 ⟨vs,H2,I2,r,e,C,d,y,ev,he,c,q⟩=>?_) hst hpl;subst ev;obtain⟨u1,u2,rfl,r1,r2⟩:=vals2 r;obtain rfl:u1=Value.ref e:=r1;exact Vj (us:=[u2]) I2 he c (Nat.le_trans (show 1<=2 by decide) hl) fun s' I3=>⟨.non,H2,I3,rfl,q⟩
structure CI (K:ak)(S f:Addr):Prop where
 sp:PySem.W.specialIn K (.ref S) "__getattribute__" =some (some (.builtin "type.__getattribute__"))
 rd:PySem.W.readsIn K S (.type "type")=true
 fc:PySem.W.findCls K (.ref S) (.type "type") "__init__" =some (.val (.ref f))
 hd:PySem.W.handedIn (.ref f)=true
 kp:PySem.W.keepIn K (.ref f)=true
theorem sG{CX:CXT}{k:Nat}{f S:Addr}{fd:FuncData}{ps:List Str}{sp:Sp}{E:XK}{x:Str}{p apos pos:Pos}{e:Expr}{es:List Expr}{t:TA}(c:CI X.K S f)(F:bB X.prog X.w X.K X.mg X.base CX k f fd ps sp)(hr:bD k X.A)(hg:Gl X x)(hm:X.mg x=some (.ref S))(hb:Binds X.K fd ps [])(hx:Passes CX X E)
 (ha:PA X (e::es) t) (hdb:(x==("__debug__":Str))=false:=by decide)
 (hst:starEach (e::es) X.env=(false,eval e X.env)::starEach es X.env:=by rfl) (hpl:(backTo pos (starEach es X.env)).any (·.1)=false:=by rfl) {pl:Sem Bool}
 (ht:eval (.Call (.Attribute (.Name x p) "__init__" apos) (e::es) [] pos) X.env=(do
   let ov <- eval (.Name x p) X.env
   standAt apos.atName
   let (f,first) <- holding [ov] (getMethod ov "__init__" pl)
   callWith pos f first (backTo pos (starEach (e::es) X.env)) (backToKw pos (keywordEach [] X.env))):=by rfl):
 PE X (.Call (.Attribute (.Name x p) "__init__" apos) (e::es) [] pos) (zE sp [] E t):=by
 intro pins s σ H Q I h;refine PySem.W.methodCall_KW (pl:=pl) (o8 I hg hm ?_ hdb) ht;refine PySem.W.method_cls I.kIn c.sp (PySem.W.cls_value I.kIn c.rd c.fc c.hd ?_);refine PySem.W.callWith_K (first:=[]) (K:=X.K) (h₀:=X.base) I.ok.mod.kin c.kp (thn (ha pos pins _ σ H _ (I.tok _) h) fun us s2 ⟨vs,H2,I2,r,q⟩=>⟨I2.kIn,?_⟩) hst hpl;exact Ci F hr hb .nil hx I2 r q
theorem Sw{CX:CXT}{k:Nat}{f C:Addr}{fd:FuncData}{ps:List Str}{sp:Sp}{E:XK}{us:List Value}{vs:List V}{R:Addr->Hp->Prop}(M:XMk X.K C f)(F:bB X.prog X.w X.K X.mg X.base CX k f fd ps sp)(hr:bD (k+1) X.A)(hb:Binds X.K fd ps [])
 (hx:Passes CX X E) (I:Inv X pins σ H s) (r:Vals vs us) (hlu:us.length<=sizeLine)
 (h:∀ e,H e=none->sp (.ref e::vs) (upd H e (XO e C none)) (fun v H2=>v= .non/\R e H2) E):
 wpAny (model X.prog X.w) X.A (call (.ref C) us) (fun u s'=>∃ e H',u= .ref e/\s.heap.get? e=none/\Inv X pins σ H' s'/\R e H') X.xe s:=by
 obtain⟨nm,q,N,bs,as,sn,sub,ab,col,dd,k0,k1,k2,k3,k5,lk⟩:=M.cls.obj;have hC:=I.kIn _ _ lk;have fr:H (s.heap.objs.size+1)=none:=I.hok.fresh (Nat.le_succ _);have hq:=h (s.heap.objs.size+1) fr;have kp:∀ b o,s.heap.get? b=some o->((s.heap.push { cls:=.type "tuple",data:=.seq us.toArray }).push (g_ C s.heap.objs.size none)).get? b=some o:=fun b o e=>Heap.get?_push_of_some _ (Heap.get?_push_of_some _ e);have hget:((s.heap.push { cls:=.type "tuple",data:=.seq us.toArray }).push (g_ C s.heap.objs.size none)).get? (s.heap.objs.size+1)=some (g_ C s.heap.objs.size none):=by heap_get
 have I2:Inv X pins σ (upd H (s.heap.objs.size+1) (XO (s.heap.objs.size+1) C none)) { s with heap:=(s.heap.push { cls:=.type "tuple",data:=.seq us.toArray }).push (g_ C s.heap.objs.size none),toks:=s.toks }:=
  I.laid kp (Nat.le_succ _) (Qj hget)
 have r2:Vals (V.ref (s.heap.objs.size+1)::vs) (Value.ref (s.heap.objs.size+1)::us):=.cons rfl r
 have hl:(Value.ref (s.heap.objs.size+1)::us).length=ps.length:=by
  have e:=r2.length;rw[F.len _ _ _ _ hq]at e;exact e.symm
 have hbs:=hb { s with heap:=(s.heap.push { cls:=.type "tuple",data:=.seq us.toArray }).push (g_ C s.heap.objs.size none),toks:=s.toks } (Value.ref (s.heap.objs.size+1)::us) I2.kIn (by rw[List.append_nil];exact hl);rw[List.append_nil]at hbs;refine Xz (h:=s.heap) (g:=s.gens) (d:=s.drawn) (t:=s.toks) (os:=s.os) (rR as) hC (PySem.W.looks_findIn I.kIn M.init) (fun self=>PySem.W.bind_fn I.kIn self M.fn) ?_ hlu;refine wpAny_call (codeAny_mono (F.run _ X.stack _ _ ⟨Value.ref (s.heap.objs.size+1)::us,[]⟩ (Value.ref (s.heap.objs.size+1)::us) _ _ E (hr.make C us []) (I2.env0.make C us []) hbs r2 hq) fun r s' hq'=>?_)
 cases r with
 | error e=>exact hx pins σ _ _ e s' I2 hq'
 | ok fl=>
   cases fl with
   | ret u=>
     obtain⟨v,H',I3,rv,ev,q3⟩:=I2.after hq';subst ev
     exact⟨rv,_,H',rfl,Heap.get?_none_of_le (Nat.le_succ _),I3,q3⟩
   | next=>exact False.elim hq'
   | brk=>exact False.elim hq'
   | cont=>exact False.elim hq'
theorem Mx{M:Model}{A:Around}{E:Value->Shared->Prop}{s:Shared}{env:Env}{C:Addr}{x:Sem Value}{Q:Flow->Shared->Prop}(hh:A.handled=none)
 (h:wpAny M A x (fun v s₁=>∃(e t N:Addr) (d:Option Addr) (nm q:Str) (bs:List Value) (as:List Addr) (sn:List Str) (sub:List Value) (ab:Bool) (col:Option Bool) (dd:Option Addr) (k0 k1 k2 k3 k5:Option Value),v= .ref e/\s₁.heap.get? C=some (excClassObj nm q C N bs (as.map Value.ref++bmV) true sn sub ab col dd k0 k1 k2 k3 k5 "ValueError.__new__")/\
   s₁.heap.get? e=some (g_ C t d)/\E (.ref e) s₁) E s):
 wpAny M A (raiseStmt env (some x) none) Q E s:=by
 unfold raiseStmt;refine wpAny_bind (wpAny_mono h (fun v s₁ h₁=>?_) fun _ _ x=>x);obtain⟨e,t,N,d,nm,q,bs,as,sn,sub,ab,col,dd,k0,k1,k2,k3,k5,rfl,hC,he,hE⟩:=h₁;have hcB:=(rR as).cb C;obtain⟨hp,g,dr,tk,os⟩:=s₁
 repeat (first | with_reducible refine wpAny_loadPart_at he ?_ | with_reducible refine wpAny_loadPart_at hC ?_ | (with_reducible refine wpAny_isSubtype_exc hC ?_;rw[hcB]) | wp_step)
 exact wpAny_raiseNew_none hh hE
noncomputable def Sx(C:Addr)(sp:Sp)(E:XK)(t:TA):TS:=fun D σ H=>t σ H fun vs H1=>vs.length<=sizeLine/\∀ e,H1 e=none->sp (.ref e::vs) (upd H1 e (XO e C none)) (fun v H2=>v= .non/\∃ d,H2 e=some (XO e C d)/\E (.ref C) d (fun b=>if b=e then none else H2 b)) E0
theorem Vl{k:Nat}{f C:Addr}{fd:FuncData}{ps:List Str}{sp:Sp}{E:XK}{us:List Value}{vs:List V}(O:Own X)(hxe:X.xe=Bd X E)(M:XMk X.K C f)(F:bB X.prog X.w X.K X.mg X.base CX0 k f fd ps sp)(hr:bD (k+1) X.A)(hb:Binds X.K fd ps [])
 (I:Inv X pins σ H s) (r:Vals vs us) (hlu:vs.length<=sizeLine)
 (h:∀ e,H e=none->sp (.ref e::vs) (upd H e (XO e C none)) (fun v H2=>v= .non/\∃ d,H2 e=some (XO e C d)/\E (.ref C) d (fun b=>if b=e then none else H2 b)) E0):
 wpAny (model X.prog X.w) X.A (call (.ref C) us) (fun v s₁=>∃(e t N:Addr) (d:Option Addr) (nm q:Str) (bs:List Value) (as:List Addr) (sn:List Str) (sub:List Value) (ab:Bool) (col:Option Bool) (dd:Option Addr) (k0 k1 k2 k3 k5:Option Value),v= .ref e/\s₁.heap.get? C=some (excClassObj nm q C N bs (as.map Value.ref++bmV) true sn sub ab col dd k0 k1 k2 k3 k5 "ValueError.__new__")/\
  s₁.heap.get? e=some (g_ C t d)/\X.xe (.ref e) s₁) X.xe s:=by
 refine thn (Sw M F hr hb ug I r (by rw[<- r.length];exact hlu) h) fun u s' ⟨e,H',hu,hn,I',d,he,q⟩=>?_;obtain⟨nm,qn,N,bs,as,sn,sub,ab,col,dd,k0,k1,k2,k3,k5,lk⟩:=M.cls.obj;obtain⟨t,hx⟩:=Qk I'.hok he;refine⟨e,t,N,d,nm,qn,bs,as,sn,sub,ab,col,dd,k0,k1,k2,k3,k5,hu,I'.kIn _ _ lk,hx,?_⟩;refine XH (a0:=.ref t) O hxe I' hx rfl rfl rfl ?_ (by rw[he];trivial) q
 cases z:X.s₀.heap.get? e with
 | none=>rfl
 | some o=>
   obtain⟨o',z'⟩:=I.Ss O z;rw[hn]at z';cases z'
theorem Sy{k:Nat}{f C:Addr}{fd:FuncData}{ps:List Str}{sp:Sp}{E:XK}{x:Str}{p cpos pos:Pos}(O:Own X)(hxe:X.xe=Bd X E)(hc:X.calm=true)(M:XMk X.K C f)(F:bB X.prog X.w X.K X.mg X.base CX0 k f fd ps sp)(hr:bD (k+1) X.A)(hb:Binds X.K fd ps [])
 (hg:Gl X x) (hm:X.mg x=some (.ref C)) (hdb:(x==("__debug__":Str))=false:=by decide):PS X (.Raise (some (.Call (.Name x p) [] [] cpos)) none pos) (Sx C sp E Pz):=by
 intro pins s σ H D I h;rw[arm_exec_Raise];refine wpAny_bind (wpAny_standAt ?_);refine Mx (I.ok.hd hc) (C:=C) ?_;refine wpAny_bind (wpAny_mono (Q:=fun v s₁=>_) (wpAny_Call_Name_kw (o8 I hg hm (PySem.W.callWith_K0 I.kIn M.kp (Vl (us:=[]) O hxe M F hr hb I .nil h.1 h.2)) hdb)) (fun v s₁ q=>wpAny_bind (wpAny_standAt (wpAny_pure q))) fun _ _ z=>z)
end
noncomputable def uF(K:ak)(C S:Addr):Prop:=∃ cd:ClassData,PySem.W.clsIn K C=some cd/\cd.mro.contains (.ref S)=true
theorem Mz{M:Model}{A:Around}{E:Value->Shared->Prop}{s:Shared}{K:ak}{C S e:Addr}{oe:Obj}{Q:Bool->Shared->Prop}(X:K.In s.heap)(c:jJ K C)(cS:jJ K S)(hsub:uF K C S)
 (he:s.heap.get? e=some oe) (hcls:oe.cls= .ref C) (hq:Q true s):wpAny M A (excMatches (.ref e) (.ref S)) Q E s:=by
 obtain⟨nm,q,N,bs,as,sn,sub,ab,col,dd,k0,k1,k2,k3,k5,lk⟩:=c.obj;obtain⟨nm',q',N',bs',as',sn',sub',ab',col',dd',k0',k1',k2',k3',k5',lk'⟩:=cS.obj;have hC:=X _ _ lk;have hS:=X _ _ lk';have hcB:=(rR as').cb S
 have hcS:(Value.ref C::(as.map Value.ref++bmV)).contains (.ref S)=true:=by
  obtain⟨cd,e1,e2⟩:=hsub;unfold PySem.W.clsIn at e1;rw[lk]at e1;cases e1;exact e2
 have f:=tc_notTuple;obtain⟨h,g,d,t,os⟩:=s;unfold excMatches
 repeat (first | (with_reducible refine wpAny_loadPart_at he ?_;rw[hcls]) | with_reducible refine wpAny_loadPart_at hS ?_ | with_reducible refine wpAny_loadPart_at hC ?_ | (with_reducible refine wpAny_isSubtype_exc hS ?_;rw[hcB]) | (with_reducible refine wpAny_isSubtype_exc hC ?_;rw[hcS]) | wp_step)
 exact hq
noncomputable abbrev markX(X:Cx)(e:Addr)(oe:Obj):Cx:={ X with A:=X.A.mark (some (.ref e)),calm:=false,pn:=(e,oe)::X.pn,xe:=fun _ _=>False }
noncomputable abbrev uh(X:Cx)(E:Value->Shared->Prop)(pn:List (Addr × Obj)):Cx:={ X with xe:=E,pn:=pn }
section
variable{X:Cx}{pins:List (Addr × Obj)}{σ:St}{H H':Hp}{s s':Shared}{e:Addr}{oe:Obj}
theorem Cx.Ok.with{E:Value->Shared->Prop}{pn:List (Addr × Obj)}(o:X.Ok):(uh X E pn).Ok:=⟨o.mod,o.kind,o.glob,o.blt,o.above,o.inj,o.has,o.cab,o.hd,o.frames,o.stk,o.exf,o.bs,o.bsz,o.uE,o.x_,o.mC,o.frf⟩
theorem Cx.Ok.without{E:Value->Shared->Prop}{pn:List (Addr × Obj)}(o:(uh X E pn).Ok):X.Ok:=⟨o.mod,o.kind,o.glob,o.blt,o.above,o.inj,o.has,o.cab,o.hd,o.frames,o.stk,o.exf,o.bs,o.bsz,o.uE,o.x_,o.mC,o.frf⟩
theorem Cx.Ok.marked(o:X.Ok)(hf:(X.A.mark (some (.ref e))).frames=X.A.frames):(markX X e oe).Ok:=⟨o.mod,o.kind,o.glob,o.blt,o.above,o.inj,o.has,o.cab,fun z=>absurd (show false=true from z) (by decide),hf.trans o.frames,o.stk,o.exf,o.bs,o.bsz,o.uE,o.x_,o.mC,o.frf⟩
theorem Inv.with{E:Value->Shared->Prop}(I:Inv X pins σ H s):Inv (uh X E (X.pn++pins)) [] σ H s:=⟨I.ok.with,I.os,I.bare,I.base,I.loc,I.cell,I.free,I.jl,fun p hp=>I.pin p (by simpa using hp),I.hok,I.len⟩
theorem Inv.without{E:Value->Shared->Prop}{B_:List (Addr × Obj)}(I:Inv (uh X E (X.pn++pins)) B_ σ H s):Inv X pins σ H s:=⟨I.ok.without,I.os,I.bare,I.base,I.loc,I.cell,I.free,I.jl,fun p hp=>I.pin p (List.mem_append_left _ hp),I.hok,I.len⟩
theorem Inv.marked(I:Inv X pins σ H s)(he:s.heap.get? e=some oe)(hn:H e=none)(hL:e ≠ X.env.locals)(hf:e ∉ X.fs)(hd:∀ v,oe.data ≠ .cell v):Inv (markX X e oe) pins σ H s:=⟨I.ok.marked rfl,I.os,I.bare,I.base,I.loc,I.cell,I.free,I.jl,fun p hp=>by
 have hp':p ∈ (e,oe)::(X.pn++pins):=hp
 rcases List.mem_cons.mp hp' with z | z
 · subst z;exact⟨he,hn,hL,hf,hd⟩
 · exact I.pin p z,I.hok,I.len⟩
theorem SP.without{E:Value->Shared->Prop}{D:Ends}{f:Flow}(h:SP (uh X E (X.pn++pins)) [] D f s'):SP X pins D f s':=by
 cases f with
 | next=>obtain⟨a,b,I,q⟩:=h;exact⟨a,b,I.without,q⟩
 | brk=>obtain⟨a,b,I,q⟩:=h;exact⟨a,b,I.without,q⟩
 | cont=>obtain⟨a,b,I,q⟩:=h;exact⟨a,b,I.without,q⟩
 | ret u=>obtain⟨v,a,b,I,r,q⟩:=h;exact⟨v,a,b,I.without,r,q⟩
noncomputable def abY(K:ak)(oe:Obj)(f:Str):TE:=fun σ H Q=>∃ C dx fs v,oe.cls= .ref C/\oe.dict=some dx/\(∃ vs,oe.data= .fields vs)/\jJ K C/\cL K C f/\H dx=some (.xd fs)/\fs.lookup f=some v/\Q v H
theorem XN{i:Nat}{n f:Str}{p pos:Pos}(hN:X.N[i]? =some n)(hv:Vis X.env.scope n)(hb:attributeBase (.Name n p) f X.env (eval (.Name n p) X.env)=eval (.Name n p) X.env:=by rfl)(hd:(n==("__debug__":Str))=false:=by decide)(hcd:(n==("__classdict__":Str))=false:=by decide):
 PE (markX X e oe) (.Attribute (.Name n p) f pos) (fun σ H Q=>σ[i]? =some (some (.ref e))/\abY X.K oe f σ H Q):=by
 intro pins s σ H Q I h;obtain⟨hσ,C,dx,fs,v,hc,hdx,⟨vs,hfd⟩,c,na,hH,hl,q⟩:=h;refine Nj hb (thn (Cd (X:=markX X e oe) (i:=i) hN hv hd hcd pins s σ H (fun y H1=>y= .ref e/\H1=H) I ⟨.ref e,hσ,rfl,rfl⟩) fun u s1 ⟨x,H1,I1,rx,ex,eH⟩=>?_);subst ex eH;obtain rfl:u=Value.ref e:=rx;have pe:=(I1.pin (e,oe) (by simp)).1;obtain⟨mA,hns,hrel⟩:=(show ∃ mA,s1.heap.Ns1 dx mA/\∀ f,mj (fs.lookup f) (mA f) from I1.hok dx _ hH);have hr:=hrel f;rw[hl]at hr;obtain⟨uv,hu,ru⟩:=hr.some_of;obtain⟨nm,q',N,bs,as,sn,sub,ab,col,dd,k0,k1,k2,k3,k5,lk⟩:=c.obj;have kin:X.K.In s1.heap:=I1.kIn;have hC:=kin _ _ lk;obtain⟨cd,as',h1,h2,h3⟩:=c.cls;obtain⟨hp,g,dr,tk,os⟩:=s1;exact XD kin (rR as) hC c.adg c.adh na h1 h3 pe hc hfd hdx hns hu (GD ru) ⟨v,H1,I1.tok _,ru,q⟩
theorem abZ{fs:List Addr}{h h1 h2 g:Heap}{P:Program}{w:World}(u:Un fs [] H H' h h1)(ok:HOk P w H' h1)(sup:Sup H' h g h1)(k:Kp fs g h2)(nof:∀ b u',H' b=some u'->b ∉ fs):Un fs [] H H' h h2/\HOk P w H' h2:=by
 refine⟨⟨fun b o q n hf _=>?_,fun b o q n hf _=>?_,u.free,fun b o q _=>?_,u.tups,u.mq,u.mz⟩,fun a o ea=>?_⟩
 · exact(k b o (sup.old b o (u.keep b o q n hf (by simp)) (.inl ⟨o,q⟩))).1 hf
 · obtain⟨sl,q1⟩:=u.slot b o q n hf (by simp);obtain⟨sl2,q2⟩:=(k b _ (sup.old b _ q1 (.inl ⟨o,q⟩))).2 hf;exact⟨sl2,q2⟩
 · obtain⟨o',q1⟩:=u.there b o q (by simp);have q2:=sup.old b _ q1 (.inl ⟨o,q⟩)
   by_cases hm:b ∈ fs
   · obtain⟨sl,q3⟩:=(k b _ q2).2 hm;exact⟨_,q3⟩
   · exact⟨_,(k b _ q2).1 hm⟩
 · refine(ok a o ea).stay (fun b v hbv q=>?_) (fun _ q=>q) fun _ _ q=>q
   have tr:∃ u',H' b=some u':=by
    rcases hbv with z | z
    · exact⟨o,by rw[z];exact ea⟩
    · exact⟨_,z⟩
   obtain⟨u',z⟩:=tr;exact(k b v (sup.old b v q (.inr ⟨u',z⟩))).1 (nof b u' z)
theorem XQ{M:Model}{A:Around}{E:Value->Shared->Prop}{n:Str}{pos:Pos}{Q:Unit->Shared->Prop}(I:Inv X pins σ H s)(hl:X.env.scope.names.lookup n=some .local)
 (h:∀ s',Inv X pins (List.replicate X.N.length none) H s'->Q () s'):wpAny M A (do bindName X.env n .none;unbindBehindTheSuite X.env n pos) Q E s:=by
 obtain⟨m,hn,_⟩:=id I.loc;have hcls:(X.env.scope.kind == .class||(X.env.scope.kind == .module&&X.env.locals != X.env.globals))=false:=by rw[I.ok.kind];rfl
 refine wpAny_nameGoes hl hn hcls fun h' m' hn' hs=>h _ ?_;have hL:X.s₀.heap.get? X.env.locals=none:=Heap.get?_none_of_le I.ok.above;have kk:∀ b o,b ≠ X.env.locals->s.heap.get? b=some o->h'.get? b=some o:=fun b o hb q=>hs.extBut b o hb q;have nL:∀ b o,X.s₀.heap.get? b=some o->b ≠ X.env.locals:=fun b o q z=>by rw[z,hL]at q;cases q
 refine⟨I.ok,I.os,I.bare,⟨fun b o q n' hf hx=>kk b o (nL b o q) (I.base.keep b o q n' hf hx),fun b o q n' hf hx=>?_,I.base.free,fun b o q hx=>?_,I.base.tups,I.base.mq,I.base.mz⟩,⟨m',hn',fun i x v h1 h2 h3=>?_⟩,fun x c hc=>?_,I.free,I.jl,fun p hp=>?_,fun a o ea=>?_,by simp⟩
 · obtain⟨sl,q1⟩:=I.base.slot b o q n' hf hx;exact⟨sl,kk b _ (nL b o q) q1⟩
 · obtain⟨o',q1⟩:=I.base.there b o q hx;exact⟨o',kk b _ (nL b o q) q1⟩
 · rw[List.getElem?_replicate]at h2
   split at h2 <;> cases h2
 · obtain⟨v,o,ho,hd⟩:=I.cell x c hc;exact⟨v,o,kk c o (I.cne x c hc) ho,hd⟩
 · obtain⟨a,b,c,d⟩:=I.pin p hp;exact⟨kk _ _ c a,b,c,d⟩
 · refine(I.hok a o ea).stay (fun b v hb q=>kk b v (fun z=>?_) q) (fun _ q=>q) fun _ _ q=>q;have hF:=I.free
   rcases hb with z2 | z2
   · rw[<- z,z2,ea]at hF;cases hF
   · rw[<- z,z2]at hF;cases hF
noncomputable def SJ(K:ak)(n i:Nat)(S:Addr)(th:Addr->Obj->TS)(rt:VK):XK:=fun C d H'=>∃ Ca,C= .ref Ca/\jJ K Ca/\uF K Ca S/\
 ∀ e oe,oe.cls= .ref Ca->oe.dict=d->(∃ vs,oe.data= .fields vs)->H' e=none->th e oe { nx:=fun _ _=>False,rt:=rt } ((List.replicate n none).set i (some (.ref e))) H'
theorem Z_{body:List Stmt}{cx:Str}{cp hpos pos:Pos}{n:Str}{i:Nat}{b₀:Stmt}{suite:List Stmt}{S:Addr}{tb:XK->TS}{th:Addr->Obj->TS}(O:Own X)(hN:X.N.Nodup)(hi:X.N[i]? =some n)(hloc:X.env.scope.names.lookup n=some .local)
 (hg:Gl X cx) (hm:X.mg cx=some (.ref S)) (cS:jJ X.K S) (hs:∀ e oe,PSs (markX X e oe) (b₀::suite) (th e oe))
 (hb:∀ E' pn E,Passes (CXE X.prog X.w) (uh X E' pn) E->PSs (uh X E' pn) body (tb E)) (hdb:(cx==("__debug__":Str))=false:=by decide):
 PS X (.Try body [.ExceptHandler (some (.Name cx cp)) (some n) (b₀::suite) hpos] [] [] pos) (fun D σ H=>tb (SJ X.K X.N.length i S th D.rt) D σ H):=by
 intro pins s σ H D I h;refine wpAny_Try_except ?_
 have key:=hb (fun e s₁=>wpAny (model X.prog X.w) X.A (noteFrame e X.env) (fun _ s₂=>wpAny (model X.prog X.w) X.A (setFlight e none) (fun _ s₃=>wpAny (model X.prog X.w) X.A (handleBy e X.env [.ExceptHandler (some (.Name cx cp)) (some n) (b₀::suite) hpos]) (SP X pins D) X.xe s₃) X.xe s₂) X.xe s₁)
  (X.pn++pins) (SJ X.K X.N.length i S th D.rt) ?_ [] s σ H D I.with h
 · refine wpAny_mono key (fun f s₁ q=>?_) fun _ _ z=>z;have q':=SP.without q
   cases f with
   | next=>exact wpAny_execs_nil q'
   | brk=>exact q'
   | cont=>exact q'
   | ret u=>exact q'
 · intro B_ σ1 H1 s1 ev s2 I1' hx;have I1:Inv X pins σ1 H1 s1:=Inv.without I1';obtain⟨e,C,d,a0,H',g,rfl,hos,hbr,u,ok,F,sup,Ca,rfl,c,hsub,hth⟩:=hx;have u':Un (L2.frs X.stack) [] H1 H' s1.heap s2.heap:=u;have fr:=O.frs;have hfr:X.A.frames=some (X.env::X.outer):=by rw[I1.ok.frames,O.st]
   have hl:s2.heap.FunFrames X.base (X.env::X.outer):=by
    have:=Su u' (fun _ h=>h) I1.qj I1.stack;rw[O.st]at this;exact this
   have nof:∀ b u'',H' b=some u''->b ∉ L2.frs X.stack:=fun b u'' q hm'=>by
    obtain⟨_,o,ho,_⟩:=I1.stack.mem hm';rw[u'.free b o ho (I1.qj b hm') (by simp)]at q;cases q
   have mk:∀ h2,Kp (L2.frs (X.env::X.outer)) g h2->Inv X pins σ1 H' { s2 with heap:=h2 }:=fun h2 k=>by
    rw[<- O.st]at k;obtain⟨u2,ok2⟩:=abZ u' ok sup k nof;exact I1.call' (s':={ s2 with heap:=h2 }) (ch:=[]) hos u2 ok2 hbr fun b z=>absurd z (by simp)
   have hge:∀ h2,Fly g .none e (.ref Ca) d a0 h2->H' e=none/\e ≠ X.env.locals/\e ∉ X.fs:=fun h2 F2=>by
    obtain⟨hg0,oe,vs,T,oT,ts,he,_⟩:=id F
    have nin:s1.heap.get? e=none:=by
     cases q:s1.heap.get? e with
     | none=>rfl
     | some o=>rw[sup.old e _ he (.inl ⟨o,q⟩)]at hg0;cases hg0
    refine⟨?_,fun z=>?_,fun z=>?_⟩
    · cases q:H' e with
      | none=>rfl
      | some o=>rw[sup.old e _ he (.inr ⟨o,q⟩)]at hg0;cases hg0
    · have:=I1.lt;obtain⟨m,⟨o,es,ep,ho,_⟩,_⟩:=I1.loc;rw[<- z,nin]at ho;cases ho
    · have hm':e ∈ L2.frs X.stack:=by rw[fr];exact List.mem_cons_of_mem _ z
      obtain⟨_,o,ho,_⟩:=I1.stack.mem hm';rw[nin]at ho;cases ho
   show wpAny _ X.A (noteFrame (.ref e) X.env) _ _ s2;refine G4 hfr hl O.fr F (Kp.of_keeps sup.sub) fun h1 k1 F1=>?_;refine vZ (s:={ s2 with heap:=h1 }) F1 k1 fun h2 k2 F2=>?_;have I2:=mk h2 k2;obtain⟨z1,z2,z3⟩:=hge h2 F2;obtain⟨_,oe2,vs2,T2,oT2,ts2,he2,hc2,hd2,hf2,_⟩:=id F2;have ok2:(markX X e oe2).Ok:=I2.ok.marked rfl;have J2:Inv (markX X e oe2) pins σ1 H' { s2 with heap:=h2 }:=I2.marked he2 z1 z2 z3 (fun v=>by rw[hf2];nofun);refine wpAny_handleBy_cons (codeAny_handlers_test ?_) (by intro q;cases q);refine o8 (X:=markX X e oe2) J2 hg hm ?_ hdb;refine Mz I2.kIn c cS hsub he2 hc2 ?_;refine codeAny_handlers_suite_as ?_;refine vZ (s:={ s2 with heap:=h2 }) F2 k2 fun h3 k3 F3=>?_;have I3:=mk h3 k3;obtain⟨_,oe,vs,T,oT,ts,he3,hc3,hd3,hf3,_⟩:=id F3
   have J3:Inv (markX X e oe) pins (List.replicate X.N.length none) H' { s2 with heap:=h3 }:=(I3.marked he3 z1 z2 z3 (fun v=>by rw[hf3];nofun)).weak (by rw[List.length_replicate];exact I3.len.symm) fun j v q=>by
    rw[List.getElem?_replicate]at q
    split at q <;> cases q
   refine vQ (X:=markX X e oe) J3 hN hi (.inl hloc) (v:=.ref e) rfl (fun s4 J4=>?_) (.inr hloc);refine wpAny_mono (hs e oe pins s4 _ H' _ J4 (hth e oe hc3 hd3 ⟨vs,hf3⟩ z1)) (fun f s5 q=>?_) fun _ _ z=>z.elim
   cases f with
   | next=>obtain⟨_,_,_,z⟩:=q;exact z.elim
   | brk=>obtain⟨_,_,_,z⟩:=q;exact z.elim
   | cont=>obtain⟨_,_,_,z⟩:=q;exact z.elim
   | ret uv=>
     obtain⟨v,σ5,H5,J5,rv,q5⟩:=q;have I5:Inv X pins σ5 H5 s5:=⟨⟨J5.ok.mod,J5.ok.kind,J5.ok.glob,J5.ok.blt,J5.ok.above,J5.ok.inj,J5.ok.has,J5.ok.cab,I.ok.hd,I.ok.frames,J5.ok.stk,J5.ok.exf,J5.ok.bs,J5.ok.bsz,J5.ok.uE,J5.ok.x_,J5.ok.mC,J5.ok.frf⟩,J5.os,J5.bare,J5.base,J5.loc,J5.cell,J5.free,J5.jl,fun p hp=>J5.pin p (List.mem_cons_of_mem _ hp),J5.hok,J5.len⟩;exact XQ I5 hloc fun s6 I6=>⟨v,_,H5,I6,rv,q5⟩
end
section
variable{X:Cx}{pins:List (Addr × Obj)}{σ:St}{H:Hp}{s:Shared}{h':Heap}
theorem Inv.NB{t':Nat}{ch:List Addr}(I:Inv X pins σ H s)(k:∀ b o,b ∉ ch->s.heap.get? b=some o->h'.get? b=some o)(hf:∀ b ∈ ch,nW X pins H b):Inv X pins σ H { s with heap:=h',toks:=t' }:=by
 have nit:∀ b u,H b=some u->b ∉ ch:=fun b u e z=>by rw[(hf b z).1]at e;cases e
 refine I.step (g':=s.gens) (d':=s.drawn) (ch:=ch) (fun b hb=>?_) (fun b o _ _ hc e _=>k b o hc e) (fun b o _ _ hc e _=>⟨o.slots,k b o hc e⟩) (fun _ _ _ _ n=>n)
  (fun b o hc e=>⟨o,k b o hc e⟩) (fun _ _ e=>e) (fun _ _ _ e=>e) (fun b ps e=>⟨#[],by rw[e];simp⟩) (fun m hm=>?_) (fun b u e=>?_) I.bare
 · obtain⟨f0,f1,f2,f3,f4,f5⟩:=hf b hb;exact⟨f3,f1,f4,f5⟩
 · obtain⟨o,es,ep,ho,r⟩:=hm;exact⟨o,es,ep,k _ o (fun z=>(hf _ z).2.1 rfl) ho,r⟩
 · refine(I.hok b u e).stay (fun c v hc q=>k c v ?_ q) (fun _ q=>q) fun _ _ q=>q
   rcases hc with z | z
   · rw[z];exact nit b u e
   · exact nit c _ z
end
noncomputable def Itz(K:ak)(a b:Addr):It:=
 ⟨fun i H=>∃ xs ys x y,SqL K H a xs/\SqL K H b ys/\xs[i]? =some x/\ys[i]? =some y,
  fun i H v H'=>∃ T x y,H T=none/\v= .ref T/\H'=upd H T (.tup [x,y])/\(∀ xs,SqL K H a xs->xs[i]? =some x)/\∀ ys,SqL K H b ys->ys[i]? =some y,
  fun i H=>∃ xs ys,SqL K H a xs/\SqL K H b ys/\(xs.length<=i\/ys.length<=i)⟩
theorem aaa{h:Heap}{a b:Addr}{o u:Obj}(e:h.get? a=some o)(f:h.get? b=some u)(d:o.cls ≠ u.cls):a ≠ b:=fun z=>by
 rw[z,f]at e;cases e;exact d rfl
structure WK (z TI TO i1 i2 a b:Addr)(i:Nat)(h:Heap):Prop where
 hz:IsZip h z TI TO .none
 hTI:IsPair h TI (.ref i1) (.ref i2)
 hTO:∃ p q,IsPair h TO p q
 h1:h.IsListIter i1 a i
 h2:h.IsListIter i2 b i
theorem G6{z TI TO i1 i2 a b:Addr}{i:Nat}{h:Heap}{xs ys:Array Value}(nT:TI ≠ TO)(ni:i1 ≠ i2)(st:WK z TI TO i1 i2 a b i h)(ha:h.IsList a xs)(hb:h.IsList b ys):ZipApart z TI TO i1 i2 a b:=by
 obtain⟨hz,hTI,⟨p,q,hTO⟩,⟨o1,e1,c1,d1⟩,⟨o2,e2,c2,d2⟩⟩:=st;obtain⟨oa,ea,ca,da⟩:=ha;obtain⟨ob,eb,cb,db⟩:=hb;have t:∀ {x y:Addr} {o u:Obj} {m n:String},h.get? x=some o->h.get? y=some u->o.cls= .type m->u.cls= .type n->m ≠ n->x ≠ y:=fun ex ey cx cy d=>aaa ex ey (by rw[cx,cy];intro z;injection z with z;exact d z)
 exact⟨t hTI hz rfl rfl (by decide),t hTO hz rfl rfl (by decide),t e1 hz c1 rfl (by decide),t e2 hz c2 rfl (by decide),nT,t hTI e1 rfl c1 (by decide),t hTI e2 rfl c2 (by decide),t hTO e1 rfl c1 (by decide),t hTO e2 rfl c2 (by decide),ni,
  t ea hz ca rfl (by decide),t ea hTO ca rfl (by decide),t ea e1 ca c1 (by decide),t ea e2 ca c2 (by decide),t eb hz cb rfl (by decide),t eb hTO cb rfl (by decide),t eb e1 cb c1 (by decide),t eb e2 cb c2 (by decide)⟩
theorem Vm{P:Program}{w:World}{K:ak}{elts:List Expr}{kt:Nat}{tp:Pos}(a b z TI TO i1 i2:Addr)(nT:TI ≠ TO)(ni:i1 ≠ i2):Turn P w K (.Tuple elts kt tp) (Itz K a b) [z,TI,TO,i1,i2] z (fun i h=>WK z TI TO i1 i2 a b i h) where
 mem:=by simp
 obj:=fun i h st c hc=>by
  obtain⟨hz,hTI,⟨p,q,hTO⟩,⟨o1,e1,c1,d1⟩,⟨o2,e2,c2,d2⟩⟩:=st;simp only[List.mem_cons,List.mem_nil_iff,or_false]at hc
  rcases hc with rfl | rfl | rfl | rfl | rfl
  · exact⟨_,hz,fun v z=>by cases z⟩
  · exact⟨_,hTI,fun v z=>by cases z⟩
  · exact⟨_,hTO,fun v z=>by cases z⟩
  · exact⟨_,e1,fun v z=>by rw[d1]at z;cases z⟩
  · exact⟨_,e2,fun v z=>by rw[d2]at z;cases z⟩
 keep:=fun i h h' st k=>by
  obtain⟨hz,hTI,⟨p,q,hTO⟩,h1,h2⟩:=st;exact⟨k z (by simp) _ hz,k TI (by simp) _ hTI,⟨p,q,k TO (by simp) _ hTO⟩,h1.at fun o e=>k i1 (by simp) o e,h2.at fun o e=>k i2 (by simp) o e⟩
 item:=by
  intro X hP hw hK hc i pins s σ H E I hf st hg;subst hP hw hK;obtain⟨xs,ys,x,y,hqa,hqb,hx,hy⟩:=hg;obtain⟨ia,ra,pa,za⟩:=I.list hqa;obtain⟨ib,rb,pb,zb⟩:=I.list hqb;obtain⟨u,hu,ru⟩:=ra.get hx;obtain⟨v,hv,rv⟩:=rb.get hy;have D:=G6 nT ni st pa.isList pb.isList;obtain⟨hz,hTI,⟨p,q,hTO⟩,h1,h2⟩:=st;refine wpAny_pyNext_zip_item D hz hTI hTO h1 h2 pa.isList pb.isList (x:=u) (y:=v) (by simpa using hu) (by simpa using hv) fun h' a1 a2 a3 a4 a5 a6 hk=>?_;refine⟨_,rfl,wpAny_letOwnedTupleGo_zip (s:={ s with heap:=h' }) a1 fun h2' hz' sb=>?_⟩;have nTz:∀ {c:Addr} {o:Obj},s.heap.get? c=some o->c ≠ s.heap.objs.size:=fun e=>Nat.ne_of_lt (Heap.lt_size e);have hT2:IsPair h2' s.heap.objs.size u v:=sb.extBut _ _ (Ne.symm (nTz hz)) a5
  have I1:Inv X pins σ (upd H s.heap.objs.size (.tup [x,y])) { s with heap:=s.heap.push { cls:=.type "tuple",data:=.seq #[u,v] },toks:=s.toks }:=
   I.laid (t':=s.toks) (fun b u e=>Heap.get?_push_of_some _ e) (aA _) ⟨by show 2<=sizeLine;decide,[u,v],.cons ru (.cons rv .nil),⟨_,Heap.get?_push_size _ rfl,rfl,_,rfl⟩⟩
  have fp:∀ {c:Addr} {o:Obj},s.heap.get? c=some o->nW X pins H c->nW X pins (upd H s.heap.objs.size (.tup [x,y])) c:=fun e ⟨f0,f⟩=>⟨by rw[aB (nTz e)];exact f0,f⟩;obtain⟨o1,e1,c1,d1⟩:=id h1;obtain⟨o2,e2,c2,d2⟩:=id h2
  have I2:Inv X pins σ (upd H s.heap.objs.size (.tup [x,y])) { s with heap:=h2',toks:=s.toks }:=Inv.NB (s:={ s with heap:=s.heap.push { cls:=.type "tuple",data:=.seq #[u,v] },toks:=s.toks }) (t':=s.toks) (ch:=[z,TO,i1,i2]) I1 (fun c o nc e=>by
   simp only[List.mem_cons,List.mem_nil_iff,or_false,not_or]at nc
   by_cases hcT:c=s.heap.objs.size
   · subst hcT;have e':(s.heap.push { cls:=.type "tuple",data:=.seq #[u,v] }).get? s.heap.objs.size=some { cls:=.type "tuple",data:=.seq #[u,v] }:=Heap.get?_push_size _ rfl;rw[e']at e;cases e;exact hT2
   · have e':s.heap.get? c=some o:=by
      have e1:(s.heap.push { cls:=.type "tuple",data:=.seq #[u,v] }).get? c=some o:=e;rw[Heap.get?_push_ne _ _ _ hcT]at e1;exact e1
     exact sb.extBut _ _ nc.1 (hk c o nc.1 nc.2.1 nc.2.2.1 nc.2.2.2 e')) (fun c hc=>by
   simp only[List.mem_cons,List.mem_nil_iff,or_false]at hc
   rcases hc with rfl | rfl | rfl | rfl
   · exact fp hz (hf _ (by simp))
   · exact fp hTO (hf _ (by simp))
   · exact fp e1 (hf _ (by simp))
   · exact fp e2 (hf _ (by simp)))
  refine⟨.ref s.heap.objs.size,_,I2,rfl,⟨_,x,y,I.hok.fresh (aA _),rfl,rfl,fun zs hzs=>by rw[I.Ay hzs hqa];exact hx,fun zs hzs=>by rw[I.Ay hzs hqb];exact hy⟩,
   ⟨hz',sb.extBut _ _ D.TIz (hk _ _ D.TIz D.TITO D.TIi1 D.TIi2 hTI),⟨_,_,sb.extBut _ _ D.TOz a2⟩,a3.extBut sb.extBut D.i1z,a4.extBut sb.extBut D.i2z⟩,fun c hc=>?_⟩
  have g:∃ o,s.heap.get? c=some o:=by
   simp only[List.mem_cons,List.mem_nil_iff,or_false]at hc
   rcases hc with rfl | rfl | rfl | rfl | rfl
   · exact⟨_,hz⟩
   · exact⟨_,hTI⟩
   · exact⟨_,hTO⟩
   · exact⟨_,e1⟩
   · exact⟨_,e2⟩
  obtain⟨o,e⟩:=g;rw[aB (nTz e)];exact(hf c hc).1
 done:=by
  intro X hP hw hK hc i pins s σ H E I hf st hg;subst hP hw hK;obtain⟨xs,ys,hqa,hqb,hl⟩:=hg;obtain⟨ia,ra,pa,za⟩:=I.list hqa;obtain⟨ib,rb,pb,zb⟩:=I.list hqb;have la:=ra.length;have lb:=rb.length;have D:=G6 nT ni st pa.isList pb.isList;obtain⟨hz,hTI,⟨p,q,hTO⟩,h1,h2⟩:=st;refine wpAny_pyNext_zip_end (I.ok.hd hc) D hz hTI hTO h1 h2 pa.isList pb.isList (hl.imp (fun l=>by simp;omega) fun l=>by simp;omega) fun h' hk=>⟨rfl,I.NB (t':=s.toks) (ch:=[z,TO,i1,i2]) (fun c o nc e=>?_) fun c hc=>?_⟩
  · simp only[List.mem_cons,List.mem_nil_iff,or_false,not_or]at nc;exact hk c o nc.1 nc.2.1 nc.2.2.1 nc.2.2.2 e
  · simp only[List.mem_cons,List.mem_nil_iff,or_false]at hc
    rcases hc with rfl | rfl | rfl | rfl <;> exact hf _ (by simp)
 self:=fun _ _ _ _ _ st h=>wpAny_pyIter_zip st.hz h
noncomputable def aab(K:ak)(ta:TA):TI:=fun σ H R=>ta σ H fun vs H1=>∃ a b,vs= [.ref a,.ref b]/\(∃ xs,SqL K H1 a xs)/\(∃ ys,SqL K H1 b ys)/\R (Itz K a b) H1
section
variable{X:Cx}
theorem SM{elts:List Expr}{kt:Nat}{tp:Pos}{a b:Expr}{ta:TA}{p pos:Pos}(hg:Gl X "zip")(hm:X.mg "zip" =none)(ha:PA X [a,b] ta)(hs:starEach [a,b] X.env= [(false,eval a X.env),(false,eval b X.env)]:=by rfl)(hs2:starEach [b] X.env= [(false,eval b X.env)]:=by rfl):
 PI X (.Tuple elts kt tp) (.Call (.Name "zip" p) [a,b] [] pos) (aab X.K ta):=by
 intro pins s σ H R I h;refine Call_ (qN I hg hm boot_zip (PyProof.Rows.callWith_type1 (thn (ha pos pins s σ H _ I h) fun us s1 ⟨vs,H1,I1,r1,q1⟩=>?_) (by rw[hs,hs2]) (by rw[hs2];rfl)));obtain⟨l1,l2,e,⟨xs,hqa⟩,⟨ys,hqb⟩,q⟩:=q1;subst e
 cases r1 with
 | cons r rr=>
   cases rr with
   | cons r' rr=>
     cases rr;cases r;cases r';obtain⟨ia,ra,pa,za⟩:=I1.list hqa;obtain⟨ib,rb,pb,zb⟩:=I1.list hqb;refine call_zip_2 pa.isList pb.isList fun h' hz hTI hTO h1 h2 hsz hk=>?_;refine wpAny_pyIter_zip hz ?_;have I2:Inv X pins σ H1 { s1 with heap:=h',toks:=s1.toks }:=I1.kept (t':=s1.toks) hk;refine⟨s1.heap.objs.size+4,[s1.heap.objs.size+4,s1.heap.objs.size+2,s1.heap.objs.size+3,s1.heap.objs.size,s1.heap.objs.size+1],_,_,H1,rfl,I2,Vm l1 l2 (s1.heap.objs.size+4) (s1.heap.objs.size+2) (s1.heap.objs.size+3) s1.heap.objs.size (s1.heap.objs.size+1) (Nat.ne_of_lt (Nat.lt_succ_self (s1.heap.objs.size+2))) (Nat.ne_of_lt (Nat.lt_succ_self s1.heap.objs.size)),⟨hz,hTI,⟨_,_,hTO⟩,h1,h2⟩,fun c hc=>?_,q⟩
     have hle:s1.heap.objs.size<=c:=by
      simp only[List.mem_cons,List.mem_nil_iff,or_false]at hc
      rcases hc with rfl | rfl | rfl | rfl | rfl <;> omega
     exact I1.JB hle (I1.hok.fresh hle)
noncomputable def Itd(lo:Int)(n:Nat):It:=⟨fun i _=>i<n,fun i H x H'=>H'=H/\x= .int (lo - i),fun i _=>n<=i⟩
theorem SN{P:Program}{w:World}{K:ak}{tg:Expr}(it:Addr)(lo:Int)(n:Nat):Turn P w K tg (Itd lo n) [it] it (fun i h=>IsRangeIter h it (lo+(i:Nat)*(-1)) ((n:Int) - (i:Nat)) (-1)) where
 mem:=by simp
 obj:=fun i h st b hb=>by
  have e:b=it:=by simpa using hb
  subst e
  exact⟨_,st,fun v z=>by
   have z':Data.fields _=Data.cell v:=z
   cases z'⟩
 keep:=fun i h h' st k=>k it (by simp) _ st
 item:=by
  intro X hP hw hK hc i pins s σ H E I hf st hg;subst hP hw hK;obtain⟨f0,f1,f2,f3,f4,f5⟩:=hf it (by simp);have W:=Walks.range (prog:=X.prog) (w:=X.w) (I.ok.hd hc) it lo (-1) n;refine W.item i s _ _ hg st fun v h' tk hv st' kk=>?_;obtain⟨t,rfl⟩:=hv;have I1:Inv X pins σ H { s with heap:=h',toks:=tk }:=I.turned (fun b o hb e=>kk b o (by simpa using hb) e) f0 f1 f3 f4 f5;refine⟨_,rfl,Jd (s:={ s with heap:=h',toks:=tk }) (n:="range_iterator") st' rfl rfl (by decide) ⟨.int (lo - i),H,I1,⟨t,?_⟩,⟨rfl,rfl⟩,st',fun b hb=>(hf b hb).1⟩⟩;congr 1
  omega
 done:=by
  intro X hP hw hK hc i pins s σ H E I hf st hg;subst hP hw hK;obtain⟨f0,f1,f2,f3,f4,f5⟩:=hf it (by simp);exact wpAny_pyNext_range_end (I.ok.hd hc) st (by have:n<=i:=hg;omega) fun h' eb=>⟨rfl,I.turned (t':=s.toks) (fun b o hb e=>eb b o hb e) f0 f1 f3 f4 f5⟩
 self:=fun _ _ _ _ _ st h=>wpAny_pyIter_rangeiter st h
theorem G7{a b:Int}:Builtin.Range.rangeSize a b (-1)=if b<a then a - b else 0:=by
 unfold Builtin.Range.rangeSize;simp only[show ¬ ((-1:Int) > 0) by decide,if_false,Int.neg_neg,Int.ediv_one]
 split <;> omega
theorem small_down{a b:Int}(ha: -(2 ^ 30)<=a)(ha':a<2 ^ 30)(hb: -(2 ^ 30)<=b)(hb':b<2 ^ 30):Builtin.Range.small a b (-1)=true:=by
 unfold Builtin.Range.small;rw[G7];simp only[Builtin.Range.rangeFitsLong,Bool.and_eq_true,Bool.or_eq_true,decide_eq_true_eq,beq_iff_eq]
 have e:(if(-1:Int) > 0 then decide (-2 ^ 63<=b+(-1 - 1))&&decide (b+(-1 - 1)<2 ^ 63) else decide (-2 ^ 63<=b+(-1+1))&&decide (b+(-1+1)<2 ^ 63))=true:=by
  rw[if_neg (by decide),Bool.and_eq_true];exact⟨decide_eq_true (by omega),decide_eq_true (by omega)⟩
 refine⟨?_,.inr e⟩
 split <;> omega
noncomputable def WL(ta:TA):TI:=fun σ H R=>ta σ H fun vs H1=>∃ i j:Int,vs= [.int i,.int j,.int (-1)]/\(-(2 ^ 30)<=i/\i<2 ^ 30/\-(2 ^ 30)<=j/\j<2 ^ 30)/\R (Itd i (i - j).toNat) H1
theorem SQ{tg a b c:Expr}{ta:TA}{p pos:Pos}(hg:Gl X "range")(hm:X.mg "range" =none)(ha:PA X [a,b,c] ta)(he:starEach [a,b,c] X.env=(false,eval a X.env)::starEach [b,c] X.env:=by rfl)(hpl:(backTo pos (starEach [b,c] X.env)).any (·.1)=false:=by rfl):
 PI X tg (.Call (.Name "range" p) [a,b,c] [] pos) (WL ta):=by
 intro pins s σ H R I h;refine Call_ (qN I hg hm boot_range (PyProof.Rows.callWith_type1 (thn (ha pos pins s σ H _ I h) fun us s1 ⟨vs,H1,I1,r1,q1⟩=>?_) he hpl));obtain⟨i,j,e,⟨q1,q2,q3,q4⟩,q⟩:=q1;subst e
 cases r1 with
 | cons r rr=>
   cases rr with
   | cons r' rr=>
     cases rr with
     | cons r2 rr=>
       cases rr;obtain⟨t,rfl⟩:=r;obtain⟨t',rfl⟩:=r';obtain⟨t2,rfl⟩:=r2;refine call_range_3 (by decide) ?_ (Or.inl (PyProof.noPylong_small (by decide)));refine wpAny_pyIter_range (IsRange.new ..) (small_down q1 q2 q3 q4) ?_;have I2:Inv X pins σ H1 { s1 with heap:=s1.heap.push { cls:=.type "range",data:=.fields #[.int i t,.int j t',.int (-1) t2] },toks:=s1.toks }:=I1.kept fun b o e=>Heap.get?_push_of_some _ e
       refine⟨(s1.heap.push { cls:=.type "range",data:=.fields #[.int i t,.int j t',.int (-1) t2] }).objs.size,[(s1.heap.push { cls:=.type "range",data:=.fields #[.int i t,.int j t',.int (-1) t2] }).objs.size],_,_,H1,rfl,
        I2.kept (t':=s1.toks) fun b o e=>Heap.get?_push_of_some _ e,SN _ i (i - j).toNat,?_,fun b hb=>?_,q⟩
       · have e1:i+((0:Nat):Int)*(-1)=i:=by simp
         have e2:(((i - j).toNat:Nat):Int) - ((0:Nat):Int)=Builtin.Range.rangeSize i j (-1):=by rw[G7];split <;> omega
         show IsRangeIter _ _ (i+((0:Nat):Int)*(-1)) ((((i - j).toNat:Nat):Int) - ((0:Nat):Int)) (-1);rw[e1,e2];exact Heap.get?_push_size _ rfl
       · have e:b=(s1.heap.push { cls:=.type "range",data:=.fields #[.int i t,.int j t',.int (-1) t2] }).objs.size:=by simpa using hb
         subst e;exact I2.JB (aA _) (I2.hok.fresh (aA _))
end
noncomputable def Ite(K:ak)(a:Addr):It:=
 ⟨fun i H=>∃ xs x,SqL K H a xs/\xs[i]? =some x,
  fun i H v H'=>∃ T x,H T=none/\v= .ref T/\H'=upd H T (.tup [.int i,x])/\∀ xs,SqL K H a xs->xs[i]? =some x,
  fun i H=>∃ xs,SqL K H a xs/\xs.length<=i⟩
structure adX (e i1 a:Addr)(i:Nat)(h:Heap):Prop where
 he:∃ old,IsEnum h e i1 i old
 h1:h.IsListIter i1 a i
end L2
namespace Ev
noncomputable section
inductive W where | non | bl (b:Bool) | int (i:Int) | str (c:List Nat) | ref (n:Nat)
 deriving DecidableEq
noncomputable abbrev Fs:=List (List Nat × W)
inductive O where
 | tup (xs:List W) | lst (xs:List W) | ins (C:Nat) (fs:Fs) | dk (kvs:List (W × W)) | dt (kvs:List (List W × W)) | scr (ns:List Int)
 deriving DecidableEq
inductive Tr where | lf | nd (o:Option O) (l r:Tr)
noncomputable def Tr.get(t:Tr):Nat->Option O:=Tr.rec (fun _=>none) (fun o _ _ gl gr k=>Nat.rec o (fun k _=>Bool.rec (gr (Nat.div k 2)) (gl (Nat.div k 2)) (Nat.beq (Nat.mod k 2) 0)) k) t
noncomputable def Tr.set(d:Nat):Tr->Nat->O->Tr:=Nat.rec (fun t _ _=>t) (fun _ ih t k o=>Tr.rec
 (Nat.rec (.nd (some o) .lf .lf) (fun k _=>Bool.rec (.nd none .lf (ih .lf (Nat.div k 2) o)) (.nd none (ih .lf (Nat.div k 2) o) .lf) (Nat.beq (Nat.mod k 2) 0)) k)
 (fun x l r _ _=>Nat.rec (.nd (some o) l r) (fun k _=>Bool.rec (.nd x l (ih r (Nat.div k 2) o)) (.nd x (ih l (Nat.div k 2) o) r) (Nat.beq (Nat.mod k 2) 0)) k) t) d
inductive Hs where | mk (n:Nat) (t:Tr)
noncomputable def Hs.n(h:Hs):Nat:=Hs.rec (fun n _=>n) h
noncomputable def Hs.get(h:Hs)(k:Nat):Option O:=Hs.rec (fun _ t=>t.get k) h
noncomputable def Hs.set(h:Hs)(k:Nat)(o:O):Hs:=Hs.rec (fun n t=>.mk n (t.set (Nat.succ k) k o)) h
noncomputable def Hs.push(h:Hs)(o:O):Hs:=Hs.rec (fun n t=>.mk (Nat.add n 1) (t.set (Nat.succ n) n o)) h
inductive R (α:Type) where | ok (a:α) (h:Hs) | ex (C:Nat) (fs:Fs) (h:Hs) | no
noncomputable def R.bind{α β:Type}(r:R α)(f:α->Hs->R β):R β:=R.rec (fun a h=>f a h) (fun C fs h=>.ex C fs h) .no r
noncomputable def R.nox{α:Type}(r:R α):R α:=R.rec (fun a h=>.ok a h) (fun _ _ _=>.no) .no r
noncomputable def W.elim{β:Type}(w:W)(z:β)(b:Bool->β)(i:Int->β)(s:List Nat->β)(r:Nat->β):β:=W.rec z b i s r w
noncomputable def W.onI{β:Type}(w:W)(f:Int->R β):R β:=W.rec .no (fun _=>.no) f (fun _=>.no) (fun _=>.no) w
noncomputable def W.onR{β:Type}(w:W)(f:Nat->R β):R β:=W.rec .no (fun _=>.no) (fun _=>.no) (fun _=>.no) f w
noncomputable def W.onB{β:Type}(w:W)(f t:R β):R β:=W.rec .no (fun b=>Bool.rec f t b) (fun _=>.no) (fun _=>.no) (fun _=>.no) w
noncomputable def ifB{β:Type}(b:Bool)(t f:β):β:=Bool.rec f t b
noncomputable def iD(ws:List W)(f:W->R W):R W:=List.rec .no (fun a r _=>List.rec (f a) (fun _ _ _=>.no) r) ws
noncomputable def h_(ws:List W)(f:W->W->R W):R W:=List.rec .no (fun a r _=>List.rec .no (fun b r _=>List.rec (f a b) (fun _ _ _=>.no) r) r) ws
noncomputable def v8(ws:List W)(f:Int->Int->R W):R W:=h_ ws fun a b=>a.onI fun i=>b.onI fun j=>f i j
noncomputable abbrev Sg:=List (Option W)
inductive Fl where | nx (τ:Sg) | rt (w:W) | bk (τ:Sg) | ct (τ:Sg)
noncomputable def app{α:Type}(xs ys:List α):List α:=List.rec ys (fun x _ r=>x::r) xs
noncomputable def len{α:Type}(xs:List α):Nat:=List.rec 0 (fun _ _ r=>Nat.add r 1) xs
noncomputable def nth{α:Type}(xs:List α):Nat->Option α:=List.rec (fun _=>none) (fun x _ ih k=>Nat.rec (some x) (fun k _=>ih k) k) xs
noncomputable def drp{α:Type}(xs:List α):Nat->List α:=List.rec (fun _=>[]) (fun x r ih k=>Nat.rec (x::r) (fun k _=>ih k) k) xs
noncomputable def tak{α:Type}(xs:List α):Nat->List α:=List.rec (fun _=>[]) (fun x _ ih k=>Nat.rec [] (fun k _=>x::ih k) k) xs
noncomputable def setAt{α:Type}(τ:List α)(w:α):Nat->List α:=List.rec (fun _=>[]) (fun x r ih k=>Nat.rec (w::r) (fun k _=>x::ih k) k) τ
noncomputable def cN(τ:Sg):Nat->Option W:=List.rec (fun _=>none) (fun x _ ih k=>Nat.rec x (fun k _=>ih k) k) τ
noncomputable def codes(x:List Nat):List Nat->Bool:=List.rec (fun y=>List.rec true (fun _ _ _=>false) y) (fun a _ ih y=>List.rec false (fun b r _=>ifB (Nat.beq a b) (ih r) false) y) x
noncomputable def fget(fs:Fs)(f:List Nat):Option W:=List.rec none (fun p _ r=>ifB (codes p.1 f) (some p.2) r) fs
noncomputable def Ql(f:List Nat)(w:W)(fs:Fs):Fs:=List.rec [(f,w)] (fun p r ih=>ifB (codes p.1 f) ((f,w)::r) (p::ih)) fs
noncomputable def ieq(i j:Int):Bool:=Int.rec (fun a=>Int.rec (fun b=>Nat.beq a b) (fun _=>false) j) (fun a=>Int.rec (fun _=>false) (fun b=>Nat.beq a b) j) i
noncomputable def ilt(i j:Int):Bool:=Int.rec (fun a=>Int.rec (fun b=>Nat.ble (Nat.add a 1) b) (fun _=>false) j) (fun a=>Int.rec (fun _=>true) (fun b=>Nat.ble (Nat.add b 1) a) j) i
noncomputable def Opt{α β:Type}(o:Option α)(f:α->R β):R β:=Option.rec .no f o
noncomputable def O.items{β:Type}(o:O)(f:List W->R β):R β:=O.rec f f (fun _ _=>.no) (fun _=>.no) (fun _=>.no) (fun _=>.no) o
noncomputable def O.onL{β:Type}(o:O)(f:List W->R β):R β:=O.rec (fun _=>.no) f (fun _ _=>.no) (fun _=>.no) (fun _=>.no) (fun _=>.no) o
noncomputable def O.onT{β:Type}(o:O)(f:List W->R β):R β:=O.rec f (fun _=>.no) (fun _ _=>.no) (fun _=>.no) (fun _=>.no) (fun _=>.no) o
noncomputable def O.onS{β:Type}(o:O)(f:List W->R β):R β:=O.rec (fun _=>.no) f (fun _ _=>.no) (fun _=>.no) (fun _=>.no) (fun _=>.no) o
noncomputable def O.onI{β:Type}(o:O)(f:Nat->Fs->R β):R β:=O.rec (fun _=>.no) (fun _=>.no) f (fun _=>.no) (fun _=>.no) (fun _=>.no) o
noncomputable def Hs.at{β:Type}(h:Hs)(w:W)(f:Nat->O->R β):R β:=w.onR fun n=>Opt (h.get n) (f n)
noncomputable def R.alloc(h:Hs)(o:O):R W:=.ok (.ref h.n) (h.push o)
noncomputable def R.yes(b:Bool)(h:Hs):R W:=.ok (.bl b) h
inductive D where | non | bl (b:Bool) | int (i:Int) | str (c:List Nat) | lst (xs:List D) | tup (xs:List D)
noncomputable def okC(c:List Nat):Bool:=List.rec true (fun x _ r=>ifB (Nat.ble (x+1) 1114112) r false) c
noncomputable def lM(f:W->Option D)(xs:List W):Option (List D):=List.rec (some []) (fun x _ r=>Option.rec none (fun d=>Option.rec none (fun ds=>some (d::ds)) r) (f x)) xs
noncomputable def toD(h:Hs)(n:Nat):W->Option D:=Nat.rec (fun _=>none) (fun _ ih w=>W.elim w (some .non) (fun b=>some (.bl b)) (fun i=>some (.int i)) (fun c=>ifB (okC c) (some (.str c)) none) fun k=>
 Option.rec none (fun o=>O.rec (fun xs=>Option.rec none (fun ds=>some (.tup ds)) (lM ih xs)) (fun xs=>Option.rec none (fun ds=>some (.lst ds)) (lM ih xs)) (fun _ _=>none) (fun _=>none) (fun _=>none) (fun _=>none) o) (h.get k)) n
noncomputable def D.bools(b:Bool)(d:D):Bool:=D.casesOn d false (fun c=>Bool.rec (!c) c b) (fun _=>false) (fun _=>false) (fun _=>false) (fun _=>false)
mutual
noncomputable def cR:D->D->Bool
 | .non,.non=>true
 | .bl a,.bl b=>a==b
 | .int i,.int j=>ieq i j
 | .str x,.str y=>codes x y
 | .lst xs,.lst ys=>sH xs ys
 | .tup xs,.tup ys=>sH xs ys
 | .bl a,.int j=>ieq (if a then 1 else 0) j
 | .int i,.bl b=>ieq i (if b then 1 else 0)
 | _,_=>false
noncomputable def sH:List D->List D->Bool
 | [],[]=>true
 | x::xs,y::ys=>cR x y&&sH xs ys
 | _,_=>false
end
mutual
noncomputable def jC:D->D->Bool
 | .non,.non=>true
 | .bl a,.bl b=>a==b
 | .int i,.int j=>ieq i j
 | .str x,.str y=>codes x y
 | .lst xs,.lst ys=>ou xs ys
 | .tup xs,.tup ys=>ou xs ys
 | _,_=>false
noncomputable def ou:List D->List D->Bool
 | [],[]=>true
 | x::xs,y::ys=>jC x y&&ou xs ys
 | _,_=>false
end
noncomputable def JV(i j:Int):Int:=Int.rec (fun a=>Int.rec (fun b=>.ofNat (Nat.add a b)) (fun b=>Int.subNatNat a (Nat.add b 1)) j) (fun a=>Int.rec (fun b=>Int.subNatNat b (Nat.add a 1)) (fun b=>.negSucc (Nat.add (Nat.add a b) 1)) j) i
noncomputable def Qm(i j:Int):Int:=Int.rec (fun a=>Int.rec (fun b=>Bool.rec (.negSucc (Nat.sub (Nat.sub b a) 1)) (.ofNat (Nat.sub a b)) (Nat.ble b a)) (fun b=>.ofNat (Nat.add (Nat.add a b) 1)) j) (fun a=>Int.rec (fun b=>.negSucc (Nat.add a b)) (fun b=>i - .negSucc b) j) i
noncomputable def fmod(i j:Int):Int:=Int.rec (fun a=>Int.rec (fun b=>.ofNat (Nat.mod a b)) (fun b=>i % .negSucc b) j) (fun a=>Int.rec (fun b=>.negSucc a % .ofNat b) (fun b=>.negSucc a % .negSucc b) j) i
structure Pr where
 f:List W->Hs->R W
noncomputable def Sml(i:Int):Bool:=Int.rec (fun a=>Nat.ble (a+1) (2 ^ 4000)) (fun a=>Nat.ble (a+2) (2 ^ 4000)) i
noncomputable def size(xs:List W)(k:R W):R W:=ifB (Nat.ble (len xs) 16777215) k .no
noncomputable def aac(h:Hs)(a b:W):R W:=h.at a fun _ x=>h.at b fun _ y=>O.casesOn x (fun _=>.no) (fun xs=>y.onL fun ys=>size (app xs ys) (.alloc h (.lst (app xs ys)))) (fun _ _=>.no) (fun _=>.no) (fun _=>.no) (fun _=>.no)
noncomputable def aad(h:Hs)(a b:W):R W:=W.elim a .no (fun _=>.no) (fun i=>b.onI fun j=>.ok (.int (JV i j)) h) (fun _=>.no) (fun _=>aac h a b)
noncomputable def aae(h:Hs)(i j:Int):R W:=.ok (.int (Qm i j)) h
noncomputable def Vn(xs:List W)(k:Nat):List W:=Nat.rec [] (fun _ r=>app xs r) k
noncomputable def aaf(h:Hs)(a:W)(k:Int):R W:=h.at a fun _ x=>x.onL fun xs=>ifB (ilt k 100000) (ifB (ilt (-100000) k) (ifB (Nat.ble (len xs) 100) (.alloc h (.lst (Vn xs k.toNat))) .no) .no) .no
noncomputable def aag(h:Hs)(a b:W):R W:=b.onI fun j=>W.elim a .no (fun _=>.no) (fun i=>ifB (Sml i) (ifB (Sml j) (.ok (.int (i*j)) h) .no) .no) (fun _=>.no) (fun _=>aaf h a j)
noncomputable def aah(h:Hs)(i j:Int):R W:=ifB (ilt 0 j) (.ok (.int (fmod i j)) h) .no
noncomputable def WM(h:Hs)(i j:Int):R W:=ifB (ilt 0 j) (ifB (Sml j) (.ok (.int (i.fdiv j)) h) .no) .no
noncomputable def aai(h:Hs)(i j:Int):R W:=ifB (ilt i 1000) (ifB (ilt 0 i) (ifB (ilt 0 j) (ifB (ilt j 1000) (.ok (.int (i ^ j.toNat)) h) .no) .no) .no) .no
noncomputable def adi(h:Hs)(a:W):R W:=a.onI fun i=>.ok (.int (-i)) h
noncomputable def adk(h:Hs)(a:W):R W:=a.onI fun i=>.ok (.int (Int.ofNat i.natAbs)) h
noncomputable def Vo(h:Hs)(i j:Int):R W:=.ok (.int (ifB (ilt j i) j i)) h
noncomputable def adl(h:Hs)(i j:Int):R W:=.ok (.int (ifB (ilt i j) j i)) h
noncomputable def Vp(n:Nat)(i:Int):Nat:=Int.rec (fun k=>k) (fun k=>ifB (Nat.ble (k+1) n) (n - (k+1)) n) i
noncomputable def pIx(h:Hs)(a b:W):R W:=h.at a fun _ o=>o.items fun xs=>b.onI fun i=>Opt (nth xs (Vp (len xs) i)) fun w=>.ok w h
noncomputable def aaj(h:Hs)(a:W):R W:=h.at a fun _ o=>o.items fun xs=>.ok (.int (.ofNat (len xs))) h
noncomputable def um(w:W):Bool:=W.elim w true (fun _=>false) (fun _=>false) (fun _=>false) (fun _=>false)
noncomputable def wD(h:Hs)(w:W)(f:D->R W):R W:=Opt (toD h 12 w) f
noncomputable def pEq(f:Bool->Bool)(h:Hs)(a b:W):R W:=wD h a fun x=>wD h b fun y=>.yes (f (cR x y)) h
noncomputable def ab0(h:Hs)(a b:W):R W:=wD h a fun x=>wD h b fun y=>.yes (jC x y) h
noncomputable def Vq(xs:List W):Bool:=List.rec false (fun _ _ _=>true) xs
noncomputable def SX(h:Hs)(a:W):R W:=W.elim a (.yes false h) (fun b=>.yes b h) (fun i=>.yes (!ieq i 0) h) (fun _=>.no) (fun _=>h.at a fun _ o=>o.items fun xs=>.yes (Vq xs) h)
noncomputable def vm(h:Hs)(a b:W):R W:=h.at a fun n o=>o.onL fun xs=>size xs (.ok .non (h.set n (.lst (app xs [b]))))
noncomputable def init(xs:List W):List W:=List.rec [] (fun x r ih=>List.rec [] (fun _ _ _=>x::ih) r) xs
noncomputable def last(xs:List W):Option W:=List.rec none (fun x _ ih=>some (Option.rec x (fun y=>y) ih)) xs
noncomputable def aak(h:Hs)(a:W):R W:=h.at a fun n o=>o.onL fun xs=>Opt (last xs) fun w=>.ok w (h.set n (.lst (init xs)))
noncomputable def aal(h:Hs)(a:W):R W:=h.at a fun n o=>o.onL fun _=>.ok .non (h.set n (.lst []))
noncomputable def NK(h:Hs)(a b:W):R W:=h.at a fun n o=>o.onL fun xs=>h.at b fun _ o=>o.onL fun ys=>size (app xs ys) (.ok .non (h.set n (.lst (app xs ys))))
noncomputable def WN(h:Hs)(a:W):R W:=h.at a fun _ o=>o.items fun xs=>.alloc h (.lst xs)
noncomputable def eqF(a b:W):Option Bool:=W.elim a
 (W.elim b (some true) (fun _=>some false) (fun _=>some false) (fun _=>some false) (fun _=>none)) (fun _=>none)
 (fun i=>W.elim b (some false) (fun _=>none) (fun j=>some (ieq i j)) (fun _=>some false) (fun _=>none))
 (fun x=>W.elim b (some false) (fun _=>none) (fun _=>some false) (fun y=>some (codes x y)) (fun _=>none)) (fun _=>none)
noncomputable def Qo(a:W)(xs:List W):Option Bool:=List.rec (some false) (fun x _ ih=>Option.rec none (fun b=>Option.rec none (fun r=>some (ifB b true r)) ih) (eqF x a)) xs
noncomputable def pIn(f:Bool->Bool)(h:Hs)(a b:W):R W:=h.at b fun _ o=>o.items fun xs=>Opt (eqF a a) fun _=>Opt (Qo a xs) fun c=>.yes (f c) h
noncomputable def bools(xs:List W):Option (List Bool):=List.rec (some []) (fun x _ ih=>W.elim x none (fun b=>Option.rec none (fun r=>some (b::r)) ih) (fun _=>none) (fun _=>none) (fun _=>none)) xs
noncomputable def allB(xs:List Bool):Bool:=List.rec true (fun b _ r=>ifB b r false) xs
noncomputable def anyB(xs:List Bool):Bool:=List.rec false (fun b _ r=>ifB b true r) xs
noncomputable def Vr(f:List Bool->Bool)(h:Hs)(a:W):R W:=h.at a fun _ o=>o.onL fun xs=>Opt (bools xs) fun bs=>.yes (f bs) h
noncomputable def WQ(o:O):Option Nat:=O.casesOn o (fun _=>some 3) (fun _=>some 4) (fun _ _=>none) (fun _=>none) (fun _=>none) (fun _=>none)
noncomputable def aam(k:Nat)(h:Hs)(a:W):R W:=W.elim a (.yes false h) (fun _=>.yes (ifB (Nat.beq k 0) true (Nat.beq k 1)) h) (fun _=>.yes (Nat.beq k 0) h) (fun _=>.yes (Nat.beq k 2) h) (fun n=>Opt (h.get n) fun o=>Opt (WQ o) fun c=>.yes (Nat.beq k c) h)
noncomputable def Qp(xs:List W):List W->Option Bool:=List.rec (fun ys=>some (List.rec false (fun _ _ _=>true) ys)) (fun x _ ih ys=>List.rec (some false) (fun y r _=>W.elim x none (fun _=>none) (fun i=>W.elim y none (fun _=>none) (fun j=>ifB (ieq i j) (ih r) (some (ilt i j))) (fun _=>none) (fun _=>none)) (fun _=>none) (fun _=>none)) ys) xs
noncomputable def zG(xs:List W):Bool:=List.rec true (fun x _ r=>W.elim x false (fun _=>false) (fun _=>r) (fun _=>false) (fun _=>false)) xs
noncomputable def pLt(h:Hs)(a b:W):R W:=W.elim a .no (fun _=>.no) (fun i=>b.onI fun j=>.yes (ilt i j) h) (fun _=>.no) (fun _=>h.at a fun _ x=>h.at b fun _ y=>x.onT fun xs=>y.onT fun ys=>ifB (zG xs) (ifB (zG ys) (Opt (Qp xs ys) fun c=>.yes c h) .no) .no)
noncomputable def tabOf(tb:List (List Nat × List Int))(c:List Nat):List Int:=List.rec [] (fun p _ r=>ifB (codes p.1 c) p.2 r) tb
noncomputable def yr(i:Int)(xs:List Int):Bool:=List.rec false (fun x _ r=>ifB (ieq x i) true r) xs
noncomputable def aan(tb:List (List Nat × List Int))(h:Hs)(a b:W):R W:=a.onI fun i=>W.elim b .no (fun _=>.no) (fun _=>.no) (fun c=>.yes (!yr i (tabOf tb c)) h) (fun _=>.no)
noncomputable def lX(xs:List W):Option (List Int):=List.rec (some []) (fun x _ ih=>W.elim x none (fun _=>none) (fun i=>Option.rec none (fun r=>some (i::r)) ih) (fun _=>none) (fun _=>none)) xs
noncomputable def dd(l:List Int):List Int->List Int:=List.rec (fun acc=>acc) (fun x _ ih acc=>ih (ifB (yr x acc) acc (app acc [x]))) l
noncomputable def pLs(h:Hs)(a:W):R W:=h.at a fun _ o=>o.onL fun xs=>ifB (Nat.ble (len xs) 1000) (Opt (lX xs) fun ns=>.ok (.int (.ofNat (len (dd ns [])))) h) .no
noncomputable def O.onD{β:Type}(o:O)(f:List (W × W)->R β):R β:=O.rec (fun _=>.no) (fun _=>.no) (fun _ _=>.no) f (fun _=>.no) (fun _=>.no) o
noncomputable def mJ(w:W):Bool:=W.elim w false (fun _=>false) (fun _=>true) (fun _=>true) (fun _=>false)
noncomputable def keq(a b:W):Bool:=W.elim a false (fun _=>false) (fun i=>W.elim b false (fun _=>false) (fun j=>ieq i j) (fun _=>false) (fun _=>false)) (fun x=>W.elim b false (fun _=>false) (fun _=>false) (fun y=>codes x y) (fun _=>false)) (fun _=>false)
noncomputable def bM(kvs:List (W × W))(k:W):Option W:=List.rec none (fun p _ r=>ifB (keq p.1 k) (some p.2) r) kvs
noncomputable def WR(h:Hs)(a b:W):R W:=h.at a fun _ o=>o.onD fun kvs=>ifB (mJ b) (Opt (bM kvs b) fun w=>.ok w h) .no
noncomputable def isS(o:Option W):Bool:=Option.rec false (fun _=>true) o
noncomputable def jD(kvs:List (W × W))(k v:W):List (W × W):=List.rec [] (fun p _ r=>ifB (keq p.1 k) (p.1,v) p::r) kvs
noncomputable def dY(kvs:List (W × W))(k v:W):List (W × W):=ifB (isS (bM kvs k)) (jD kvs k v) (app kvs [(k,v)])
noncomputable def ab1(h:Hs)(ws:List W):R W:=List.rec (.alloc h (.dk [])) (fun _ _ _=>.no) ws
noncomputable def Pr.add:Pr:=⟨fun ws h=>h_ ws (aad h)⟩
noncomputable def Pr.sub:Pr:=⟨fun ws h=>v8 ws (aae h)⟩
noncomputable def Pr.mul:Pr:=⟨fun ws h=>h_ ws (aag h)⟩
noncomputable def Pr.fdiv:Pr:=⟨fun ws h=>v8 ws (WM h)⟩
noncomputable def Pr.mod:Pr:=⟨fun ws h=>v8 ws (aah h)⟩
noncomputable def Pr.pow:Pr:=⟨fun ws h=>v8 ws (aai h)⟩
noncomputable def Pr.neg:Pr:=⟨fun ws h=>iD ws (adi h)⟩
noncomputable def Pr.abs:Pr:=⟨fun ws h=>iD ws (adk h)⟩
noncomputable def Pr.min:Pr:=⟨fun ws h=>v8 ws (Vo h)⟩
noncomputable def Pr.max:Pr:=⟨fun ws h=>v8 ws (adl h)⟩
noncomputable def Pr.lt:Pr:=⟨fun ws h=>h_ ws (pLt h)⟩
noncomputable def Pr.le:Pr:=⟨fun ws h=>v8 ws fun i j=>.yes (!ilt j i) h⟩
noncomputable def Pr.gt:Pr:=⟨fun ws h=>v8 ws fun i j=>.yes (ilt j i) h⟩
noncomputable def Pr.ge:Pr:=⟨fun ws h=>v8 ws fun i j=>.yes (!ilt i j) h⟩
noncomputable def Pr.eq:Pr:=⟨fun ws h=>h_ ws (pEq id h)⟩
noncomputable def Pr.ne:Pr:=⟨fun ws h=>h_ ws (pEq not h)⟩
noncomputable def Pr.ix:Pr:=⟨fun ws h=>h_ ws (pIx h)⟩
noncomputable def Pr.len:Pr:=⟨fun ws h=>iD ws (aaj h)⟩
noncomputable def Pr.tup:Pr:=⟨fun ws h=>size ws (.alloc h (.tup ws))⟩
noncomputable def Pr.lst:Pr:=⟨fun ws h=>size ws (.alloc h (.lst ws))⟩
noncomputable def Pr.isN:Pr:=⟨fun ws h=>iD ws fun a=>.yes (um a) h⟩
noncomputable def Pr.Qq:Pr:=⟨fun ws h=>iD ws fun a=>.yes (!um a) h⟩
noncomputable def Pr.v9:Pr:=⟨fun ws h=>iD ws fun a=>a.onB (.yes true h) (.yes false h)⟩
noncomputable def Pr.truth:Pr:=⟨fun ws h=>iD ws (SX h)⟩
noncomputable def Pr.append:Pr:=⟨fun ws h=>h_ ws (vm h)⟩
noncomputable def Pr.pop:Pr:=⟨fun ws h=>iD ws (aak h)⟩
noncomputable def Pr.clear:Pr:=⟨fun ws h=>iD ws (aal h)⟩
noncomputable def Pr.extend:Pr:=⟨fun ws h=>h_ ws (NK h)⟩
noncomputable def Pr.list:Pr:=⟨fun ws h=>iD ws (WN h)⟩
noncomputable def Pr.in_:Pr:=⟨fun ws h=>h_ ws (pIn id h)⟩
noncomputable def Pr.zH:Pr:=⟨fun ws h=>h_ ws (pIn not h)⟩
noncomputable def Pr.all:Pr:=⟨fun ws h=>iD ws (Vr allB h)⟩
noncomputable def Pr.any:Pr:=⟨fun ws h=>iD ws (Vr anyB h)⟩
noncomputable def Pr.isi(k:Nat):Pr:=⟨fun ws h=>iD ws (aam k h)⟩
noncomputable def Pr.same:Pr:=⟨fun ws h=>h_ ws (ab0 h)⟩
noncomputable def Pr.tab(tb:List (List Nat × List Int)):Pr:=⟨fun ws h=>h_ ws (aan tb h)⟩
noncomputable def Pr.Cz:Pr:=⟨fun ws h=>iD ws (pLs h)⟩
noncomputable def Pr.Vs:Pr:=⟨fun ws h=>ab1 h ws⟩
noncomputable def Pr.Qs:Pr:=⟨fun ws h=>h_ ws (WR h)⟩
noncomputable def pI(p:Pr)(ws:List W)(h:Hs):R W:=p.f ws h
inductive Tg where | nm (i:Nat) | tup (ts:List Tg)
inductive Iv where | lst (n:Nat) | tup (n:Nat) | rng (lo:Int) (n:Nat) | zip (n m:Nat) | dwn (lo:Int) (n:Nat) | enu (n:Nat)
inductive A where | w (w:W) | ws (l:List W) | iv (v:Iv) | fl (f:Fl) | u
noncomputable def A.toW{β:Type}(a:A)(f:W->R β):R β:=A.rec f (fun _=>.no) (fun _=>.no) (fun _=>.no) .no a
noncomputable def A.toL{β:Type}(a:A)(f:List W->R β):R β:=A.rec (fun _=>.no) f (fun _=>.no) (fun _=>.no) .no a
noncomputable def A.toV{β:Type}(a:A)(f:Iv->R β):R β:=A.rec (fun _=>.no) (fun _=>.no) f (fun _=>.no) .no a
noncomputable def A.toF{β:Type}(a:A)(f:Fl->R β):R β:=A.rec (fun _=>.no) (fun _=>.no) (fun _=>.no) f .no a
noncomputable abbrev Ks:=List (Nat->Nat->List W->Hs->R A)
noncomputable abbrev Dn:=Ks->Nat->Sg->Hs->R A
structure X where
 f:Dn
structure I where
 f:Dn
structure S where
 f:Dn
inductive G where | mk (i:I) (t:Tg) (c:Option X)
inductive Fn where | mk (np n:Nat) (body:List S) | non
noncomputable def ofW(r:R W):R A:=R.rec (fun w h=>.ok (.w w) h) (fun C f h=>.ex C f h) .no r
noncomputable def goA(es:List X):Dn:=List.rec (fun _ _ _ h=>.ok (.ws []) h) (fun e _ ih K n τ h=>R.rec (motive:=fun _=>R A) (fun r h=>A.rec (motive:=fun _=>R A) (fun w=>R.rec (motive:=fun _=>R A) (fun r h=>A.rec (motive:=fun _=>R A) (fun _=>.no) (fun ws=>.ok (.ws (w::ws)) h) (fun _=>.no) (fun _=>.no) .no r) (fun C fs h=>.ex C fs h) .no (ih K n τ h)) (fun _=>.no) (fun _=>.no) (fun _=>.no) .no r) (fun C fs h=>.ex C fs h) .no (e.f K n τ h)) es
noncomputable def fH(ss:List S):Dn:=List.rec (fun _ _ τ h=>.ok (.fl (.nx τ)) h) (fun s _ ih K n τ h=>R.rec (motive:=fun _=>R A) (fun r h=>A.rec (motive:=fun _=>R A) (fun _=>.no) (fun _=>.no) (fun _=>.no) (fun f=>Fl.rec (motive:=fun _=>R A) (fun τ=>ih K n τ h) (fun w=>.ok (.fl (.rt w)) h) (fun τ=>.ok (.fl (.bk τ)) h) (fun τ=>.ok (.fl (.ct τ)) h) f) .no r) (fun C fs h=>.ex C fs h) .no (s.f K n τ h)) ss
noncomputable def bindL(f:Tg->W->Sg->Option Sg)(ts:List Tg):List W->Sg->Option Sg:=List.rec (fun ws τ=>List.rec (some τ) (fun _ _ _=>none) ws) (fun t _ ih ws τ=>List.rec none (fun w r _=>Option.rec none (fun τ=>ih r τ) (f t w τ)) ws) ts
noncomputable def bx(h:Hs)(n:Nat):Tg->W->Sg->Option Sg:=Nat.rec (fun _ _ _=>none) (fun _ ih t w τ=>Tg.casesOn t (fun i=>some (setAt τ (some w) i)) fun ts=>
 W.elim w none (fun _=>none) (fun _=>none) (fun _=>none) fun k=>Option.rec none (fun o=>O.rec (fun xs=>bindL ih ts xs τ) (fun _=>none) (fun _ _=>none) (fun _=>none) (fun _=>none) (fun _=>none) o) (h.get k)) n
noncomputable def Iv.next{β:Type}(v:Iv)(i:Nat)(h:Hs)(fin:R β)(go:W->Hs->R β):R β:=
 Iv.rec (fun n=>Opt (h.get n) fun o=>o.onS fun xs=>Option.rec fin (fun w=>go w h) (nth xs i)) (fun n=>Opt (h.get n) fun o=>o.onT fun xs=>Option.rec fin (fun w=>go w h) (nth xs i)) (fun lo n=>Bool.rec fin (go (.int (lo + .ofNat i)) h) (Nat.ble (Nat.add i 1) n))
  (fun n m=>Opt (h.get n) fun o=>o.onS fun xs=>Opt (h.get m) fun o=>o.onS fun ys=>Option.rec fin (fun x=>Option.rec fin (fun y=>go (.ref h.n) (h.push (.tup [x,y]))) (nth ys i)) (nth xs i))
  (fun lo n=>Bool.rec fin (go (.int (lo - .ofNat i)) h) (Nat.ble (Nat.add i 1) n))
  (fun n=>Opt (h.get n) fun o=>o.onS fun xs=>Option.rec fin (fun x=>go (.ref h.n) (h.push (.tup [.int (.ofNat i),x]))) (nth xs i)) v
noncomputable def lN(nt:Nat)(idx:List Nat)(τ:Sg):Sg:=Nat.rec (List.rec [] (fun i _ r=>cN τ i::r) idx) (fun _ r=>none::r) nt
noncomputable def adm(n:Nat)(i:Int):Nat:=Int.rec (fun k=>ifB (Nat.ble k n) k n) (fun k=>n - (k+1)) i
noncomputable def Bf(K:Ks)(n:Nat)(e:Option X)(τ:Sg)(h:Hs)(k:Option Int->Hs->R A):R A:=
 Option.rec (k none h) (fun e=>(e.f K n τ h).bind fun a h=>a.toW fun w=>w.onI fun i=>k (some i) h) e
noncomputable def sIx(n d:Nat)(o:Option Int):Nat:=Option.rec d (adm n) o
noncomputable def frame(n:Nat)(ws:List W):Sg:=app (List.rec [] (fun w _ r=>some w::r) ws) (Nat.rec [] (fun _ r=>none::r) (n - len ws))
noncomputable def zJ(h:Hs)(f:Fl):R A:=Fl.rec (fun _=>.ok (.w .non) h) (fun w=>.ok (.w w) h) (fun _=>.no) (fun _=>.no) f
noncomputable def Qt(K:Ks)(n:Nat)(h:Hs)(ws:List W)(F:Fn):R A:=Fn.rec (fun np k b=>ifB (Nat.beq (len ws) np) ((fH b K n (frame k ws) h).bind fun r h=>r.toF fun f=>zJ h f) .no) .no F
noncomputable def a_(Pg:List Fn)(d:Nat):Ks:=Nat.rec [] (fun _ K=>(fun n f ws h=>Opt (nth Pg f) (Qt K n h ws))::K) d
noncomputable def bJ(f:Nat)(ws:List W)(K:Ks)(n:Nat)(h:Hs):R A:=Nat.rec .no (fun n _=>List.rec .no (fun c _ _=>c n f ws h) K) n
noncomputable def v_(h:Hs)(f:Fl)(go:Sg->R A):R A:=Fl.rec go (fun w=>.ok (.fl (.rt w)) h) (fun τ=>.ok (.fl (.nx τ)) h) go f
noncomputable def yt(v:Iv)(t:Tg)(b:List S)(K:Ks)(n:Nat):Nat->Sg->Hs->R A:=Nat.rec (fun _ _ _=>.no) (fun n ih i τ h=>v.next i h (.ok (.fl (.nx τ)) h) fun w h=>Opt (bx h 9 t w τ) fun τ=>(fH b K n τ h).bind fun r h=>r.toF fun f=>v_ h f fun τ=>ih (Nat.add i 1) τ h) n
noncomputable def aao(c:X)(b:List S)(K:Ks)(n:Nat):Sg->Hs->R A:=Nat.rec (fun _ _=>.no) (fun n ih τ h=>(c.f K n τ h).bind fun r h=>r.toW fun w=>w.onB (.ok (.fl (.nx τ)) h) ((fH b K n τ h).bind fun r h=>r.toF fun f=>v_ h f fun τ=>ih τ h)) n
noncomputable def test(K:Ks)(m:Nat)(τ:Sg)(h:Hs)(c:Option X)(n k:Hs->R A):R A:=Option.rec (k h) (fun c=>(c.f K m τ h).bind fun r h=>r.toW fun w=>w.onB (n h) (k h)) c
noncomputable def emit(h:Hs)(D:Nat)(w:W)(k:Hs->R A):R A:=(vm h (.ref D) w).bind fun _ h=>k h
noncomputable def adn(v:Iv)(t:Tg)(c:Option X)(e:X)(D:Nat)(K:Ks)(n:Nat):Nat->Sg->Hs->R A:=Nat.rec (fun _ _ _=>.no) (fun n ih i τ h=>v.next i h (.ok .u h) fun w h=>Opt (bx h 9 t w τ) fun τ1=>
 test K n τ1 h c (fun h=>ih (Nat.add i 1) τ h) (fun h=>(e.f K n τ1 h).bind fun r h=>r.toW fun w=>emit h D w fun h=>ih (Nat.add i 1) τ h)) n
noncomputable def inner(K:Ks)(n:Nat)(τ:Sg)(h:Hs)(e:X)(D:Nat)(m:Option G)(k:Hs->R A):R A:=
 Option.rec ((e.f K n τ h).bind fun r h=>r.toW fun w=>emit h D w k) (fun g=>G.rec (fun i t c=>(i.f K n τ h).bind fun r h=>r.toV fun v=>(adn v t c e D K n 0 τ h).bind fun _ h=>k h) g) m
noncomputable def nY(v:Iv)(t:Tg)(c:Option X)(m:Option G)(e:X)(D:Nat)(K:Ks)(n:Nat):Nat->Sg->Hs->R A:=Nat.rec (fun _ _ _=>.no) (fun n ih i τ h=>v.next i h (.ok .u h) fun w h=>Opt (bx h 9 t w τ) fun τ1=>
 test K n τ1 h c (fun h=>ih (Nat.add i 1) τ h) (fun h=>inner K n τ1 h e D m fun h=>ih (Nat.add i 1) τ h)) n
noncomputable def X.var(i:Nat):X:=⟨fun _ _ τ h=>Option.rec (motive:=fun _=>R A) .no (fun w=>.ok (.w w) h) (cN τ i)⟩
noncomputable def X.cst(w:W):X:=⟨fun _ _ _ h=>.ok (.w w) h⟩
noncomputable def X.pr(p:Pr)(as:List X):X:=⟨fun K n τ h=>R.rec (motive:=fun _=>R A) (fun r h=>A.rec (motive:=fun _=>R A) (fun _=>.no) (fun ws=>R.rec (motive:=fun _=>R A) (fun w h=>.ok (.w w) h) (fun C f h=>.ex C f h) .no (p.f ws h)) (fun _=>.no) (fun _=>.no) .no r) (fun C fs h=>.ex C fs h) .no (goA as K n τ h)⟩
noncomputable def X.and(a b:X):X:=⟨fun K n τ h=>R.rec (motive:=fun _=>R A) (fun r h=>A.rec (motive:=fun _=>R A) (fun w=>W.rec (motive:=fun _=>R A) .no (fun bb=>Bool.rec (motive:=fun _=>R A) (.ok (.w (.bl false)) h) (b.f K n τ h) bb) (fun _=>.no) (fun _=>.no) (fun _=>.no) w) (fun _=>.no) (fun _=>.no) (fun _=>.no) .no r) (fun C fs h=>.ex C fs h) .no (a.f K n τ h)⟩
noncomputable def X.or(a b:X):X:=⟨fun K n τ h=>R.rec (motive:=fun _=>R A) (fun r h=>A.rec (motive:=fun _=>R A) (fun w=>W.rec (motive:=fun _=>R A) .no (fun bb=>Bool.rec (motive:=fun _=>R A) (b.f K n τ h) (.ok (.w (.bl true)) h) bb) (fun _=>.no) (fun _=>.no) (fun _=>.no) w) (fun _=>.no) (fun _=>.no) (fun _=>.no) .no r) (fun C fs h=>.ex C fs h) .no (a.f K n τ h)⟩
noncomputable def X.ite(c a b:X):X:=⟨fun K n τ h=>R.rec (motive:=fun _=>R A) (fun r h=>A.rec (motive:=fun _=>R A) (fun w=>W.rec (motive:=fun _=>R A) .no (fun bb=>Bool.rec (motive:=fun _=>R A) (b.f K n τ h) (a.f K n τ h) bb) (fun _=>.no) (fun _=>.no) (fun _=>.no) w) (fun _=>.no) (fun _=>.no) (fun _=>.no) .no r) (fun C fs h=>.ex C fs h) .no (c.f K n τ h)⟩
noncomputable def X.slice(a:X)(lo hi:Option X):X:=⟨fun K n τ h=>(a.f K n τ h).bind fun r h=>r.toW fun w=>Bf K n lo τ h fun l h=>Bf K n hi τ h fun u h=>h.at w fun _ o=>
 O.rec (fun xs=>ifB (ifB (Nat.beq (sIx (len xs) 0 l) 0) (Nat.beq (sIx (len xs) (len xs) u) (len xs)) false) .no (ofW (.alloc h (.tup (tak (drp xs (sIx (len xs) 0 l)) (sIx (len xs) (len xs) u - sIx (len xs) 0 l)))))) (fun xs=>ofW (.alloc h (.lst (tak (drp xs (sIx (len xs) 0 l)) (sIx (len xs) (len xs) u - sIx (len xs) 0 l))))) (fun _ _=>.no) (fun _=>.no) (fun _=>.no) (fun _=>.no) o⟩
noncomputable def X.call(f:Nat)(as:List X):X:=⟨fun K n τ h=>(goA as K n τ h).bind fun a h=>a.toL fun ws=>bJ f ws K n h⟩
noncomputable def X.comp(nt:Nat)(idx:List Nat)(it:I)(t:Tg)(c:Option X)(m:Option G)(e:X):X:=⟨fun K n τ h=>(it.f K n τ h).bind fun r h=>r.toV fun v=>
 (nY v t c m e h.n K n 0 (lN nt idx τ) (h.push (.lst []))).nox.bind fun _ h'=>.ok (.w (.ref h.n)) h'⟩
noncomputable def X.fld(C:Nat)(o:X)(f:List Nat):X:=⟨fun K n τ h=>(o.f K n τ h).bind fun r h=>r.toW fun w=>h.at w fun _ o=>o.onI fun C' fs=>ifB (Nat.beq C C') (Opt (fget fs f) fun w=>.ok (.w w) h) .no⟩
noncomputable def X.meth(C:Nat)(m:List Nat)(f:Nat)(o:X)(as:List X):X:=⟨fun K n τ h=>(o.f K n τ h).bind fun r h=>r.toW fun w=>h.at w fun _ o=>o.onI fun C' fs=>
 ifB (Nat.beq C C') (Option.rec ((goA as K n τ h).bind fun a h=>a.toL fun ws=>bJ f (w::ws) K n h) (fun _=>.no) (fget fs m)) .no⟩
noncomputable def X.make(C f:Nat)(as:List X):X:=⟨fun K n τ h=>(goA as K n τ h).bind fun a h=>a.toL fun ws=>(bJ f (.ref h.n::ws) K n (h.push (.ins C []))).bind fun r h'=>r.toW fun w=>ifB (um w) (.ok (.w (.ref h.n)) h') .no⟩
noncomputable def zK:List Nat:=[116,111,108,100]
noncomputable def noT:List Nat:=[110,111]
noncomputable def jE:List Nat:=[119,111,114,100]
noncomputable def X.told(nx:Nat)(idx:List Nat)(e:X):X:=⟨fun K n τ h=>List.rec .no (fun _ K1 _=>List.rec .no (fun _ K2 _=>
 R.rec (fun r h=>r.toW fun w=>ofW (.alloc h (.tup [.str zK,w]))) (fun C fs h=>ifB (Nat.ble (C+1) nx) (Opt (fget fs jE) fun w=>ofW (.alloc h (.tup [.str noT,w]))) .no) .no (e.f K2 n (lN 0 idx τ) h)) K1) K⟩
noncomputable def X.lm(p:Pr)(a:X)(as:List X):X:=⟨fun K n τ h=>(a.f K n τ h).bind fun r h=>r.toW fun w=>h.at w fun _ o=>o.onL fun _=>(goA as K n τ h).bind fun r h=>r.toL fun ws=>ofW (pI p (w::ws) h)⟩
noncomputable def I.seq(e:X):I:=⟨fun K n τ h=>(e.f K n τ h).bind fun r h=>r.toW fun w=>h.at w fun n o=>O.casesOn o (fun _=>.ok (.iv (.tup n)) h) (fun _=>.ok (.iv (.lst n)) h) (fun _ _=>.no) (fun _=>.no) (fun _=>.no) (fun _=>.no)⟩
noncomputable def within(i:Int)(k:R A):R A:=ifB (ilt i 1000000000) (ifB (ilt (-1000000000) i) k .no) .no
noncomputable def JW(ws:List W)(f:W->R A):R A:=List.rec .no (fun a r _=>List.rec (f a) (fun _ _ _=>.no) r) ws
noncomputable def Ex(ws:List W)(f:W->W->R A):R A:=List.rec .no (fun a r _=>List.rec .no (fun b r _=>List.rec (f a b) (fun _ _ _=>.no) r) r) ws
noncomputable def I.o5(as:List X):I:=⟨fun K n τ h=>(goA as K n τ h).bind fun r h=>r.toL fun ws=>JW ws fun w=>w.onI fun j=>within j (.ok (.iv (.rng 0 j.toNat)) h)⟩
noncomputable def I.Vt(as:List X):I:=⟨fun K n τ h=>(goA as K n τ h).bind fun r h=>r.toL fun ws=>Ex ws fun v w=>v.onI fun i=>w.onI fun j=>within i (within j (.ok (.iv (.rng i (j - i).toNat)) h))⟩
noncomputable def I.zip(as:List X):I:=⟨fun K n τ h=>(goA as K n τ h).bind fun r h=>r.toL fun ws=>Ex ws fun v w=>h.at v fun n o=>o.onL fun _=>h.at w fun m o=>o.onL fun _=>.ok (.iv (.zip n m)) h⟩
noncomputable def I.enu(as:List X):I:=⟨fun K n τ h=>(goA as K n τ h).bind fun r h=>r.toL fun ws=>JW ws fun v=>h.at v fun n o=>o.onL fun _=>.ok (.iv (.enu n)) h⟩
noncomputable def JX(ws:List W)(f:W->W->W->R A):R A:=List.rec .no (fun a r _=>List.rec .no (fun b r _=>List.rec .no (fun c r _=>List.rec (f a b c) (fun _ _ _=>.no) r) r) r) ws
noncomputable def I.aap(as:List X):I:=⟨fun K n τ h=>(goA as K n τ h).bind fun r h=>r.toL fun ws=>JX ws fun u v w=>u.onI fun i=>v.onI fun j=>w.onI fun k=>ifB (ieq k (-1)) (within i (within j (.ok (.iv (.dwn i (i - j).toNat)) h))) .no⟩
noncomputable def S.asg(t:Tg)(e:X):S:=⟨fun K n τ h=>(e.f K n τ h).bind fun r h=>r.toW fun w=>Opt (bx h 9 t w τ) fun τ=>.ok (.fl (.nx τ)) h⟩
noncomputable def S.expr(e:X):S:=⟨fun K n τ h=>(e.f K n τ h).bind fun r h=>r.toW fun _=>.ok (.fl (.nx τ)) h⟩
noncomputable def S.ret(e:X):S:=⟨fun K n τ h=>(e.f K n τ h).bind fun r h=>r.toW fun w=>.ok (.fl (.rt w)) h⟩
noncomputable def S.ife(c:X)(a b:List S):S:=⟨fun K n τ h=>(c.f K n τ h).bind fun r h=>r.toW fun w=>w.onB (fH b K n τ h) (fH a K n τ h)⟩
noncomputable def S.for_(i:I)(t:Tg)(b:List S):S:=⟨fun K n τ h=>(i.f K n τ h).bind fun r h=>r.toV fun v=>yt v t b K n 0 τ h⟩
noncomputable def S.JZ(c:X)(b:List S):S:=⟨fun K n τ h=>aao c b K n τ h⟩
noncomputable def S.bk:S:=⟨fun _ _ τ h=>.ok (.fl (.bk τ)) h⟩
noncomputable def S.ct:S:=⟨fun _ _ τ h=>.ok (.fl (.ct τ)) h⟩
noncomputable def S.raise(C:Nat)(c:List Nat):S:=⟨fun _ _ _ h=>.ex C [(jE,.str c)] h⟩
noncomputable def S.Qu(C:Nat)(o:X)(f:List Nat)(e:X):S:=⟨fun K n τ h=>(e.f K n τ h).bind fun r h=>r.toW fun w=>(o.f K n τ h).bind fun r h=>r.toW fun o=>h.at o fun n o=>o.onI fun C' fs=>ifB (Nat.beq C C') (ifB (Nat.ble (len fs) 900) (.ok (.fl (.nx τ)) (h.set n (.ins C (Ql f w fs)))) .no) .no⟩
noncomputable def S.par(i j:Nat)(a b:X):S:=⟨fun K n τ h=>(goA [a,b] K n τ h).bind fun r h=>r.toL fun ws=>Ex ws fun u w=>.ok (.fl (.nx (setAt (setAt τ (some u) i) (some w) j))) h⟩
noncomputable def S.dput(o k v:X):S:=⟨fun K n τ h=>(v.f K n τ h).bind fun r h=>r.toW fun w=>(o.f K n τ h).bind fun r h=>r.toW fun a=>(k.f K n τ h).bind fun r h=>r.toW fun b=>h.at a fun n o=>o.onD fun kvs=>ifB (mJ b) (ifB (Nat.ble (len kvs) 1000000) (.ok (.fl (.nx τ)) (h.set n (.dk (dY kvs b w)))) .no) .no⟩
inductive Q where
 | x (e:X) | a (es:List X) | i (e:I) | s (s:S) | ss (l:List S)
 | lp (v:Iv) (i:Nat) (t:Tg) (b:List S) | wh (c:X) (b:List S)
 | cl (v:Iv) (i:Nat) (t:Tg) (c:Option X) (m:Option G) (e:X) (D:Nat)
 | call (f:Nat) (ws:List W)
noncomputable abbrev E:=Nat->Q->Sg->Hs->R A
noncomputable def evs(Pg:List Fn)(n:Nat):E:=fun d q τ h=>Q.rec (fun e=>e.f (a_ Pg d) n τ h) (fun es=>goA es (a_ Pg d) n τ h) (fun e=>e.f (a_ Pg d) n τ h) (fun s=>s.f (a_ Pg d) n τ h) (fun l=>fH l (a_ Pg d) n τ h)
 (fun v i t b=>yt v t b (a_ Pg d) n i τ h) (fun c b=>aao c b (a_ Pg d) n τ h) (fun v i t c m e D=>nY v t c m e D (a_ Pg d) n i τ h) (fun f ws=>bJ f ws (a_ Pg d) n h) q
noncomputable def body(V:E)(d:Nat)(h:Hs)(ws:List W)(F:Fn):R A:=Fn.rec (fun np n b=>ifB (Nat.beq (len ws) np) ((V d (.ss b) (frame n ws) h).bind fun r h=>r.toF fun f=>zJ h f) .no) .no F
end
theorem kE{α:Type}(xs ys:List α):app xs ys=xs++ys:=by
 induction xs with
 | nil=>rfl
 | cons x xs ih=>exact congrArg (x::·) ih
theorem len_eq{α:Type}(xs:List α):len xs=xs.length:=by
 induction xs with
 | nil=>rfl
 | cons x xs ih=>exact congrArg (· + 1) ih
theorem oA{α:Type}(xs:List α)(i:Nat):nth xs i=xs[i]?:=by
 induction xs generalizing i with
 | nil=>rfl
 | cons x xs ih=>cases i with
   | zero=>rfl
   | succ i=>exact ih i
theorem J0{α:Type}(xs:List α)(i:Nat):drp xs i=xs.drop i:=by
 induction xs generalizing i with
 | nil=>cases i <;> rfl
 | cons x xs ih=>cases i with
   | zero=>rfl
   | succ i=>exact ih i
theorem J6{α:Type}(xs:List α)(i:Nat):tak xs i=xs.take i:=by
 induction xs generalizing i with
 | nil=>cases i <;> rfl
 | cons x xs ih=>cases i with
   | zero=>rfl
   | succ i=>exact congrArg (x::·) (ih i)
theorem Bg{α:Type}(xs:List α)(w:α)(i:Nat):setAt xs w i=xs.set i w:=by
 induction xs generalizing i with
 | nil=>cases i <;> rfl
 | cons x xs ih=>cases i with
   | zero=>rfl
   | succ i=>exact congrArg (x::·) (ih i)
theorem J7(xs:Sg)(i:Nat):cN xs i=(xs[i]?).getD none:=by
 induction xs generalizing i with
 | nil=>cases i <;> rfl
 | cons x xs ih=>cases i with
   | zero=>rfl
   | succ i=>exact ih i
theorem XR(xs:List W):init xs=xs.dropLast:=by
 induction xs with
 | nil=>rfl
 | cons x xs ih=>cases xs with
   | nil=>rfl
   | cons y ys=>exact congrArg (x::·) ih
theorem last_eq(xs:List W):last xs=xs.getLast?:=by
 induction xs with
 | nil=>rfl
 | cons x xs ih=>cases xs with
   | nil=>rfl
   | cons y ys=>
     rw[List.getLast?_cons_cons,<- ih];show some (Option.rec (motive:=fun _=>W) x (fun y=>y) (last (y::ys)))=_;rw[ih,List.getLast?_cons]
theorem ie{a b:Nat}:Nat.beq a b=true ↔ a=b:=⟨Nat.eq_of_beq_eq_true,fun h=>by subst h;exact Nat.beq_refl a⟩
theorem rE{a b:Nat}:Nat.beq a b=false ↔ a ≠ b:=by
 rw[<- Bool.not_eq_true,ie]
theorem ble_eq(a b:Nat):Nat.ble a b=decide (a<=b):=by
 cases h:Nat.ble a b with
 | true=>exact(decide_eq_true (Nat.le_of_ble_eq_true h)).symm
 | false=>exact(decide_eq_false fun z=>by rw[Nat.ble_eq_true_of_le z]at h;cases h).symm
theorem cG{x y:List Nat}:codes x y=true ↔ x=y:=by
 induction x generalizing y with
 | nil=>cases y with
   | nil=>exact⟨fun _=>rfl,fun _=>rfl⟩
   | cons b r=>exact⟨fun h=>Bool.noConfusion h,fun h=>nomatch h⟩
 | cons a x ih=>cases y with
   | nil=>exact⟨fun h=>Bool.noConfusion h,fun h=>nomatch h⟩
   | cons b r=>
     show ifB (Nat.beq a b) (codes x r) false=true ↔ _
     cases e:Nat.beq a b with
     | true=>rw[ie.mp e];exact ih.trans ⟨fun h=>by rw[h],fun h=>(List.cons.inj h).2⟩
     | false=>exact⟨fun h=>Bool.noConfusion h,fun h=>absurd (List.cons.inj h).1 (rE.mp e)⟩
theorem jn(i j:Int):ieq i j=decide (i=j):=by
 cases i with
 | ofNat a=>cases j with
   | ofNat b=>
     show Nat.beq a b=_
     cases e:Nat.beq a b with
     | true=>rw[ie.mp e];exact(decide_eq_true rfl).symm
     | false=>exact(decide_eq_false fun z=>rE.mp e (Int.ofNat.inj z)).symm
   | negSucc b=>exact(decide_eq_false fun z=>nomatch z).symm
 | negSucc a=>cases j with
   | ofNat b=>exact(decide_eq_false fun z=>nomatch z).symm
   | negSucc b=>
     show Nat.beq a b=_
     cases e:Nat.beq a b with
     | true=>rw[ie.mp e];exact(decide_eq_true rfl).symm
     | false=>exact(decide_eq_false fun z=>rE.mp e (Int.negSucc.inj z)).symm
theorem cD(i j:Int):ilt i j=decide (i<j):=by
 cases i with
 | ofNat a=>cases j with
   | ofNat b=>
     show Nat.ble (a+1) b=_;rw[ble_eq]
     exact decide_eq_decide.mpr ⟨fun h=>by have:(a:Int)<b:=by omega
                                           exact this,fun h=>by have:(a:Int)<b:=h
                                                                omega⟩
   | negSucc b=>exact(decide_eq_false (by intro h;have:(a:Int)<Int.negSucc b:=h;omega)).symm
 | negSucc a=>cases j with
   | ofNat b=>exact(decide_eq_true (by show Int.negSucc a<(b:Int);omega)).symm
   | negSucc b=>
     show Nat.ble (b+1) a=_;rw[ble_eq];exact decide_eq_decide.mpr ⟨fun h=>by omega,fun h=>by omega⟩
theorem get_set(d:Nat):∀(t:Tr) (k k':Nat) (o:O),k<d->(t.set d k o).get k'=if k'=k then some o else t.get k':=by
 induction d with
 | zero=>intro t k k' o h;exact absurd h (Nat.not_lt_zero _)
 | succ d ih=>
   intro t k k' o h;have half:∀ a b:Nat,a % 2=b % 2->(a / 2=b / 2 ↔ a+1=b+1):=fun a b e=>by omega
   cases t with
   | lf=>
     cases k with
     | zero=>cases k' with
       | zero=>rfl
       | succ k'=>
         show ifB (Nat.beq (k' % 2) 0) (Tr.get .lf (k' / 2)) (Tr.get .lf (k' / 2))=_;rw[if_neg (by omega)]
         cases Nat.beq (k' % 2) 0 <;> rfl
     | succ k=>
       have hk:k / 2<d:=by omega
       show(ifB (Nat.beq (k % 2) 0) (Tr.nd none (Tr.set d .lf (k / 2) o) .lf) (Tr.nd none .lf (Tr.set d .lf (k / 2) o)):Tr).get k'=_
       cases e:Nat.beq (k % 2) 0 with
       | true=>cases k' with
         | zero=>rfl
         | succ k'=>
           show ifB (Nat.beq (k' % 2) 0) (Tr.get (Tr.set d .lf (k / 2) o) (k' / 2)) (Tr.get .lf (k' / 2))=_;have e1:=ie.mp e
           cases e':Nat.beq (k' % 2) 0 with
           | true=>
             have e2:=ie.mp e';show Tr.get (Tr.set d .lf (k / 2) o) (k' / 2)=_;rw[ih .lf _ _ _ hk]
             by_cases z:k' / 2=k / 2
             · rw[if_pos z,if_pos (by omega)]
             · rw[if_neg z,if_neg (by omega)];rfl
           | false=>
             have e2:=rE.mp e';show none=_
             rw[if_neg (by intro z;apply e2;have:k'=k:=by omega
                           rw[this];exact e1)];rfl
       | false=>cases k' with
         | zero=>rfl
         | succ k'=>
           show ifB (Nat.beq (k' % 2) 0) (Tr.get .lf (k' / 2)) (Tr.get (Tr.set d .lf (k / 2) o) (k' / 2))=_;have e1:=rE.mp e
           cases e':Nat.beq (k' % 2) 0 with
           | false=>
             have e2:=rE.mp e';show Tr.get (Tr.set d .lf (k / 2) o) (k' / 2)=_;rw[ih .lf _ _ _ hk]
             by_cases z:k' / 2=k / 2
             · rw[if_pos z,if_pos (by omega)]
             · rw[if_neg z,if_neg (by omega)];rfl
           | true=>
             have e2:=ie.mp e';show none=_
             rw[if_neg (by intro z;apply e1;have:k'=k:=by omega
                           rw[<- this];exact e2)];rfl
   | nd x l r=>
     cases k with
     | zero=>cases k' with
       | zero=>rfl
       | succ k'=>rw[if_neg (by omega)];rfl
     | succ k=>
       have hk:k / 2<d:=by omega
       show(ifB (Nat.beq (k % 2) 0) (Tr.nd x (Tr.set d l (k / 2) o) r) (Tr.nd x l (Tr.set d r (k / 2) o)):Tr).get k'=_
       cases e:Nat.beq (k % 2) 0 with
       | true=>cases k' with
         | zero=>rfl
         | succ k'=>
           show ifB (Nat.beq (k' % 2) 0) (Tr.get (Tr.set d l (k / 2) o) (k' / 2)) (Tr.get r (k' / 2))=(if k'+1=k+1 then some o else ifB (Nat.beq (k' % 2) 0) (Tr.get l (k' / 2)) (Tr.get r (k' / 2)));have e1:=ie.mp e
           cases e':Nat.beq (k' % 2) 0 with
           | true=>
             have e2:=ie.mp e';show Tr.get (Tr.set d l (k / 2) o) (k' / 2)=(if k'+1=k+1 then some o else Tr.get l (k' / 2));rw[ih l _ _ _ hk]
             by_cases z:k' / 2=k / 2
             · rw[if_pos z,if_pos (by omega)]
             · rw[if_neg z,if_neg (by omega)]
           | false=>
             have e2:=rE.mp e';show Tr.get r (k' / 2)=(if k'+1=k+1 then some o else Tr.get r (k' / 2))
             rw[if_neg (by intro z;apply e2;have:k'=k:=by omega
                           rw[this];exact e1)]
       | false=>cases k' with
         | zero=>rfl
         | succ k'=>
           show ifB (Nat.beq (k' % 2) 0) (Tr.get l (k' / 2)) (Tr.get (Tr.set d r (k / 2) o) (k' / 2))=(if k'+1=k+1 then some o else ifB (Nat.beq (k' % 2) 0) (Tr.get l (k' / 2)) (Tr.get r (k' / 2)));have e1:=rE.mp e
           cases e':Nat.beq (k' % 2) 0 with
           | false=>
             have e2:=rE.mp e';show Tr.get (Tr.set d r (k / 2) o) (k' / 2)=(if k'+1=k+1 then some o else Tr.get r (k' / 2));rw[ih r _ _ _ hk]
             by_cases z:k' / 2=k / 2
             · rw[if_pos z,if_pos (by omega)]
             · rw[if_neg z,if_neg (by omega)]
           | true=>
             have e2:=ie.mp e';show Tr.get l (k' / 2)=(if k'+1=k+1 then some o else Tr.get l (k' / 2))
             rw[if_neg (by intro z;apply e1;have:k'=k:=by omega
                           rw[<- this];exact e2)]
theorem Hs.pJ(h:Hs)(o:O):(h.push o).n=h.n+1:=by cases h;rfl
theorem Hs.pK(h:Hs)(k:Nat)(o:O):(h.set k o).n=h.n:=by cases h;rfl
theorem Hs.mK(h:Hs)(o:O)(k:Nat):(h.push o).get k=if k=h.n then some o else h.get k:=by
 cases h with | mk n t=>exact get_set (n+1) t n k o (Nat.lt_succ_self n)
theorem Hs.get_set(h:Hs)(o:O)(j k:Nat):(h.set j o).get k=if k=j then some o else h.get k:=by
 cases h with | mk n t=>exact Ev.get_set (j+1) t j k o (Nat.lt_succ_self j)
end Ev
namespace Ev
open PySem L2
inductive RW (ρ:List Addr):W->V->Prop
 | non:RW ρ .non .non
 | bl (b):RW ρ (.bl b) (.bl b)
 | int (i):RW ρ (.int i) (.int i)
 | str (c):RW ρ (.str c) (.str ⟨c.toArray⟩)
 | ref {n a}:ρ[n]? =some a->RW ρ (.ref n) (.ref a)
theorem gJ{ρ ρ':List Addr}(e:ρ <+:ρ'){n:Nat}{a:Addr}(h:ρ[n]? =some a):ρ'[n]? =some a:=by
 obtain⟨t,rfl⟩:=e;have hn:n<ρ.length:=(bu h).1;rw[List.getElem?_append_left hn];exact h
theorem RW.mono{ρ ρ':List Addr}(e:ρ <+:ρ'){w:W}{v:V}(h:RW ρ w v):RW ρ' w v:=by
 cases h with
 | non=>exact .non
 | bl b=>exact .bl b
 | int i=>exact .int i
 | str c=>exact .str c
 | ref h=>exact .ref (gJ e h)
noncomputable abbrev RWs(ρ:List Addr):List W->List V->Prop:=Paired (RW ρ)
theorem RWs.mono{ρ ρ':List Addr}(e:ρ <+:ρ'){ws:List W}{vs:List V}(h:RWs ρ ws vs):RWs ρ' ws vs:=Paired.nU h fun _ _ r=>r.mono e
theorem RWs.get{ρ:List Addr}:∀ {ws:List W} {vs:List V} {i:Nat} {w:W},RWs ρ ws vs->ws[i]? =some w->∃ v,vs[i]? =some v/\RW ρ w v
 | _,_,_,_,.nil,e=>by simp at e
 | _,_,0,_,.cons r _,e=>by simp at e;subst e;exact⟨_,rfl,r⟩
 | _,_,i+1,w,.cons _ t,e=>by
   obtain⟨u,h1,h2⟩:=RWs.get (i:=i) (w:=w) t (by simpa using e);exact⟨u,by simpa using h1,h2⟩
theorem RWs.append{ρ:List Addr}:∀ {xs ys:List W} {us ws:List V},RWs ρ xs us->RWs ρ ys ws->RWs ρ (xs++ys) (us++ws)
 | _,_,_,_,.nil,s=>s
 | _,_,_,_,.cons r t,s=>.cons r (RWs.append t s)
theorem RWs.take{ρ:List Addr}:∀ {xs:List W} {us:List V} (n:Nat),RWs ρ xs us->RWs ρ (xs.take n) (us.take n)
 | _,_,0,_=>.nil
 | _,_,_+1,.nil=>.nil
 | _,_,n+1,.cons r t=>.cons r (RWs.take n t)
theorem RWs.drop{ρ:List Addr}:∀ {xs:List W} {us:List V} (n:Nat),RWs ρ xs us->RWs ρ (xs.drop n) (us.drop n)
 | _,_,0,r=>r
 | _,_,_+1,.nil=>.nil
 | _,_,n+1,.cons _ t=>RWs.drop n t
theorem RWs.init{ρ:List Addr}:∀ {xs:List W} {us:List V},RWs ρ xs us->RWs ρ xs.dropLast us.dropLast
 | _,_,.nil=>.nil
 | _,_,.cons r .nil=>.nil
 | _,_,.cons r (.cons r' t)=>.cons r (RWs.init (.cons r' t))
theorem RWs.length{ρ:List Addr}{ws:List W}{vs:List V}(h:RWs ρ ws vs):ws.length=vs.length:=Paired.length h
noncomputable def RO(ρ:List Addr):Option W->Option V->Prop
 | none,_=>True
 | some w,some v=>RW ρ w v
 | some _,none=>False
theorem RO.mono{ρ ρ':List Addr}(e:ρ <+:ρ'):∀ {w:Option W} {v:Option V},RO ρ w v->RO ρ' w v
 | none,_,_=>trivial
 | some _,some _,h=>RW.mono e h
noncomputable abbrev RS(ρ:List Addr):Sg->St->Prop:=Paired (RO ρ)
theorem RS.mono{ρ ρ':List Addr}(e:ρ <+:ρ'){τ:Sg}{σ:St}(h:RS ρ τ σ):RS ρ' τ σ:=Paired.nU h fun _ _ r=>r.mono e
theorem RS.get{ρ:List Addr}:∀ {τ:Sg} {σ:St} {i:Nat} {w:W},RS ρ τ σ->cN τ i=some w->∃ v,σ[i]? =some (some v)/\RW ρ w v
 | _,_,_,_,.nil,e=>nomatch e
 | some _::_,some v::_,0,_,.cons r _,e=>by cases e;exact⟨v,rfl,r⟩
 | some _::_,none::_,0,_,.cons r _,e=>r.elim
 | none::_,_,0,_,_,e=>nomatch e
 | _::_,_::_,i+1,w,.cons _ t,e=>by
   obtain⟨u,h1,h2⟩:=RS.get (i:=i) (w:=w) t e;exact⟨u,by simpa using h1,h2⟩
theorem RS.set{ρ:List Addr}{w:W}{v:V}(r:RW ρ w v):∀ {τ:Sg} {σ:St} (i:Nat),RS ρ τ σ->RS ρ (setAt τ (some w) i) (σ.set i (some v))
 | _,_,_,.nil=>by rw[Bg];exact .nil
 | _::_,_::_,0,.cons _ t=>.cons (show RO ρ (some w) (some v) from r) t
 | _::_,_::_,i+1,.cons q t=>.cons q (RS.set r i t)
noncomputable def nm(c:List Nat):Str:=⟨c.toArray⟩
theorem sI{a b:List Nat}(h:nm a=nm b):a=b:=by
 have:=congrArg (fun s:Str=>s.cps.toList) h;simpa [nm] using this
noncomputable def FR(ρ:List Addr):Fs->List (Str × V)->Prop:=Paired fun p q=>q.1=nm p.1/\RW ρ p.2 q.2
theorem FR.mono{ρ ρ':List Addr}(e:ρ <+:ρ'){fs:Fs}{gs:List (Str × V)}(h:FR ρ fs gs):FR ρ' fs gs:=Paired.nU h fun _ _ r=>⟨r.1,r.2.mono e⟩
theorem FR.get{ρ:List Addr}{f:List Nat}:∀ {fs:Fs} {gs:List (Str × V)} {w:W},FR ρ fs gs->fget fs f=some w->∃ v,gs.lookup (nm f)=some v/\RW ρ w v
 | _,_,_,.nil,e=>nomatch e
 | p::fs,(x,v)::gs,w,.cons r t,e=>by
   obtain⟨e1,r1⟩:=r;have e1:x=nm p.1:=e1;have e':ifB (codes p.1 f) (some p.2) (fget fs f)=some w:=e;rw[List.lookup_cons]
   cases c:codes p.1 f with
   | true=>
     rw[c]at e';cases e';rw[e1,cG.mp c]
     exact⟨v,by simp,r1⟩
   | false=>
     rw[c]at e'
     have:(nm f==x)=false:=by
      rw[e1];refine beq_eq_false_iff_ne.mpr fun z=>?_;rw[cG.mpr (sI z).symm]at c;cases c
     rw[this];exact FR.get t e'
theorem FR.aaq{ρ:List Addr}{f:List Nat}:∀ {fs:Fs} {gs:List (Str × V)},FR ρ fs gs->fget fs f=none->gs.lookup (nm f)=none
 | _,_,.nil,e=>rfl
 | p::fs,(x,v)::gs,.cons r t,e=>by
   obtain⟨e1,r1⟩:=r;have e1:x=nm p.1:=e1;have e':ifB (codes p.1 f) (some p.2) (fget fs f)=none:=e;rw[List.lookup_cons]
   cases c:codes p.1 f with
   | true=>rw[c]at e';cases e'
   | false=>
     rw[c]at e'
     have:(nm f==x)=false:=by
      rw[e1];refine beq_eq_false_iff_ne.mpr fun z=>?_;rw[cG.mpr (sI z).symm]at c;cases c
     rw[this];exact FR.aaq t e'
inductive KW:W->Key->Prop
 | int (i):KW (.int i) (.inl i)
 | str (c):KW (.str c) (.inr ⟨c.toArray⟩)
structure Cn where
 c:Nat->Addr
 P:Addr
 q:Str
 on:Bool
noncomputable instance:CoeFun Cn (fun _=>Nat->Addr):=⟨Cn.c⟩
section
variable(cl:Cn)
noncomputable def Tb(H:Hp):Prop:=cl.on=true->∃ ps,H cl.P=some (.tbl ps)/\TriplesOk ps.toList/\∀ pos cv,codeAmong pos ps.toList=some cv->∃ c',cv= .ref c'/\H c'=some (.ext fun h=>h.CodeRec (.ref c') cl.q)
noncomputable def OA(ρ:List Addr)(H:Hp)(a:Addr):O->Prop
 | .tup xs=>∃ vs,RWs ρ xs vs/\H a=some (.tup vs)
 | .lst xs=>∃ vs,RWs ρ xs vs/\H a=some (.lst vs)
 | .ins C fs=>∃ dx gs,FR ρ fs gs/\H a=some (.ins (cl C) dx gs)
 | .dk kvs=>∃ gs,Paired (fun p q=>KW p.1 q.1/\RW ρ p.2 q.2) kvs gs/\H a=some (.dK gs)
 | .dt kvs=>∃ gs,Paired (fun p q=>Paired KW p.1 q.1/\RW ρ p.2 q.2) kvs gs/\H a=some (.dT gs)
 | .scr ns=>∃ o,H a=some (.frz o (.lst (ns.map V.int)))
structure Sim (ρ:List Addr)(h:Hs)(H:Hp):Prop where
 len:ρ.length=h.n
 nd:ρ.Nodup
 obj:∀ n a,ρ[n]? =some a->∃ o,h.get n=some o/\OA cl ρ H a o
 tb:Tb cl H
end
section
variable{cl:Cn}{ρ ρ':List Addr}{h:Hs}{H H':Hp}
theorem OA.som{a:Addr}{o:O}(x:OA cl ρ H a o):∃ u,H a=some u:=by
 cases o with
 | tup xs=>exact⟨_,x.choose_spec.2⟩
 | lst xs=>exact⟨_,x.choose_spec.2⟩
 | ins C fs=>obtain⟨_,_,_,e⟩:=x;exact⟨_,e⟩
 | dk kvs=>exact⟨_,x.choose_spec.2⟩
 | dt kvs=>exact⟨_,x.choose_spec.2⟩
 | scr ns=>exact⟨_,x.choose_spec⟩
theorem OA.keep{a:Addr}{o:O}(x:OA cl ρ H a o)(e:ρ <+:ρ')(k:H' a=H a):OA cl ρ' H' a o:=by
 cases o with
 | tup xs=>obtain⟨vs,r,q⟩:=x;exact⟨vs,r.mono e,k.trans q⟩
 | lst xs=>obtain⟨vs,r,q⟩:=x;exact⟨vs,r.mono e,k.trans q⟩
 | ins C fs=>obtain⟨dx,gs,r,q⟩:=x;exact⟨dx,gs,r.mono e,k.trans q⟩
 | dk kvs=>obtain⟨gs,r,q⟩:=x;exact⟨gs,Paired.nU r fun _ _ z=>⟨z.1,z.2.mono e⟩,k.trans q⟩
 | dt kvs=>obtain⟨gs,r,q⟩:=x;exact⟨gs,Paired.nU r fun _ _ z=>⟨z.1,z.2.mono e⟩,k.trans q⟩
 | scr ns=>obtain⟨o,q⟩:=x;exact⟨o,k.trans q⟩
noncomputable def Pl:Option HO->Prop
 | some (.tbl _)=>False
 | some (.ext _)=>False
 | _=>True
theorem Tb.upd{p:Addr}{u:HO}(t:Tb cl H)(n:Pl (H p)):Tb cl (upd H p u):=fun on=>by
 obtain⟨ps,h1,h2,h3⟩:=t on;have ne:∀ {b:Addr} {w:HO},H b=some w->¬ Pl (some w)->b ≠ p:=fun {b w} e z q=>by rw[q]at e;rw[e]at n;exact z n
 refine⟨ps,by rw[aB (ne h1 (fun z=>z))];exact h1,h2,fun pos cv e=>?_⟩;obtain⟨c',e1,e2⟩:=h3 pos cv e;exact⟨c',e1,by rw[aB (ne e2 (fun z=>z))];exact e2⟩
theorem OA.pl{a:Addr}{o:O}(x:OA cl ρ H a o):Pl (H a):=by
 cases o with
 | tup xs=>rw[x.choose_spec.2];trivial
 | lst xs=>rw[x.choose_spec.2];trivial
 | ins C fs=>obtain⟨_,_,_,e⟩:=x;rw[e];trivial
 | dk kvs=>rw[x.choose_spec.2];trivial
 | dt kvs=>rw[x.choose_spec.2];trivial
 | scr ns=>rw[x.choose_spec];trivial
theorem Sim.som(s:Sim cl ρ h H){a:Addr}(e:a ∈ ρ):∃ u,H a=some u:=by
 obtain⟨n,hn⟩:=List.getElem?_of_mem e;obtain⟨o,_,x⟩:=s.obj n a hn;exact x.som
theorem Sim.new(s:Sim cl ρ h H){p:Addr}(e:H p=none):p ∉ ρ:=fun z=>by
 obtain⟨u,q⟩:=s.som z;rw[e]at q;cases q
theorem Sim.at(s:Sim cl ρ h H){n:Nat}{a:Addr}{o:O}(e:ρ[n]? =some a)(q:h.get n=some o):OA cl ρ H a o:=by
 obtain⟨o',q',x⟩:=s.obj n a e;rw[q]at q';cases q';exact x
theorem Sim.push(s:Sim cl ρ h H){p:Addr}{u:HO}{o:O}(e:H p=none)(x:OA cl (ρ ++ [p]) (upd H p u) p o):Sim cl (ρ ++ [p]) (h.push o) (upd H p u) where
 len:=by rw[List.length_append,Hs.pJ,s.len];rfl
 nd:=List.nodup_append.mpr ⟨s.nd,by simp,fun a ha b hb z=>by
  simp only[List.mem_singleton]at hb
  exact s.new e (by rw[<- hb,<- z];exact ha)⟩
 obj:=fun n a hn=>by
  rw[Hs.mK]
  by_cases hlt:n<ρ.length
  · rw[List.getElem?_append_left hlt]at hn;obtain⟨o',q,y⟩:=s.obj n a hn;refine⟨o',by rw[if_neg (by rw[<- s.len];omega)];exact q,y.keep (List.prefix_append _ _) ?_⟩;obtain⟨w,hw⟩:=y.som;exact aB (bL hw e)
  · have hn':n=ρ.length:=by
     have:=(bu hn).1;rw[List.length_append]at this;simp at this;omega
    subst hn';rw[List.getElem?_append_right (aA _),Nat.sub_self]at hn;simp at hn;subst hn;exact⟨o,by rw[if_pos s.len],x⟩
 tb:=s.tb.upd (by rw[e];trivial)
theorem Sim.put(s:Sim cl ρ h H){n:Nat}{a:Addr}{u:HO}{o:O}(e:ρ[n]? =some a)(x:OA cl ρ (upd H a u) a o):Sim cl ρ (h.set n o) (upd H a u) where
 len:=by rw[Hs.pK,s.len]
 nd:=s.nd
 obj:=fun m b hm=>by
  rw[Hs.get_set]
  by_cases z:m=n
  · subst z;rw[e]at hm;cases hm;exact⟨o,if_pos rfl,x⟩
  · obtain⟨o',q,y⟩:=s.obj m b hm;refine⟨o',by rw[if_neg z];exact q,y.keep (List.prefix_refl _) (aB fun zz=>z ?_)⟩;subst zz;exact(List.getElem?_inj (bu hm).1 s.nd).mp (hm.trans e.symm)
 tb:=by
  obtain⟨o',_,y⟩:=s.obj n a e;exact s.tb.upd y.pl
noncomputable def Bt(cl:Cn)(ρ:List Addr)(H:Hp)(ρ':List Addr)(H':Hp):Prop:=ρ <+:ρ'/\∀ b u,H b=some u->b ∉ ρ->b ∉ ρ'/\((cl.on=true->b ≠ cl.P)->H' b=some u)/\∃ u',H' b=some u'
theorem Bt.refl:Bt cl ρ H ρ H:=⟨List.prefix_refl _,fun _ u q n=>⟨n,fun _=>q,u,q⟩⟩
theorem Bt.trans{aar:List Addr}{H'':Hp}(x:Bt cl ρ H ρ' H')(y:Bt cl ρ' H' aar H''):Bt cl ρ H aar H'':=⟨x.1.trans y.1,fun b u q n=>by
 obtain⟨n1,q1,u1,q2⟩:=x.2 b u q n;obtain⟨n2,q3,u2,q4⟩:=y.2 b u1 q2 n1;refine⟨n2,fun c=>?_,u2,q4⟩;have e:=q1 c;rw[q2]at e;cases e
 exact q3 c⟩
theorem Bt.new{p:Addr}{u:HO}(e:H p=none):Bt cl ρ H (ρ ++ [p]) (upd H p u):=⟨List.prefix_append _ _,fun b v q n=>by
 have ne:b ≠ p:=bL q e;have q':upd H p u b=some v:=by rw[aB ne];exact q
 refine⟨fun z=>?_,fun _=>q',v,q'⟩
 rcases List.mem_append.mp z with z | z
 · exact n z
 · simp at z;exact ne z⟩
theorem Bt.put{a:Addr}{u:HO}{n:Nat}(e:ρ[n]? =some a):Bt cl ρ H ρ (upd H a u):=⟨List.prefix_refl _,fun b v q nb=>by
 have q':upd H a u b=some v:=by rw[aB fun z=>nb (by rw[z];exact List.mem_of_getElem? e)];exact q
 exact⟨nb,fun _=>q',v,q'⟩⟩
end
section
variable(cl:Cn)
noncomputable def Post(ρ:List Addr)(H:Hp)(E:XK){α:Type}(r:R α)(P:α->Hs->List Addr->Hp->Prop):Prop:=match r with
 | .ok a h=>∀ ρ' H',Bt cl ρ H ρ' H'->Sim cl ρ' h H'->P a h ρ' H'
 | .ex C fs h=>∀ ρ' H' dx gs,Bt cl ρ H ρ' H'->Sim cl ρ' h H'->FR ρ' fs gs->dx ∉ ρ'->H' dx=some (.xd gs)->E (.ref (cl C)) (some dx) H'
 | .no=>False
end
section
variable{cl:Cn}{ρ ρ':List Addr}{h:Hs}{H H':Hp}{E:XK}{α β:Type}
theorem Post.mono{r:R α}{P P':α->Hs->List Addr->Hp->Prop}(x:Post cl ρ H E r P)(f:∀ a h ρ' H',Bt cl ρ H ρ' H'->Sim cl ρ' h H'->P a h ρ' H'->P' a h ρ' H'):Post cl ρ H E r P':=by
 cases r with
 | ok a h=>exact fun ρ' H' b s=>f a h ρ' H' b s (x ρ' H' b s)
 | ex C fs h=>exact x
 | no=>exact x
theorem Post.later{r:R α}{P:α->Hs->List Addr->Hp->Prop}(x:Post cl ρ H E r P)(b:Bt cl ρ H ρ' H'):Post cl ρ' H' E r P:=by
 cases r with
 | ok a h=>exact fun ρ2 H2 b2 s=>x ρ2 H2 (b.trans b2) s
 | ex C fs h=>exact fun ρ2 H2 dx gs b2 s f n q=>x ρ2 H2 dx gs (b.trans b2) s f n q
 | no=>exact x
theorem Post.bind{r:R α}{f:α->Hs->R β}{P:β->Hs->List Addr->Hp->Prop}(x:Post cl ρ H E (r.bind f) P):Post cl ρ H E r fun a h1 ρ1 H1=>Post cl ρ1 H1 E (f a h1) P:=by
 cases r with
 | ok a h1=>exact fun ρ1 H1 b s1=>Post.later (ρ:=ρ) (H:=H) x b
 | ex C fs h1=>exact x
 | no=>exact x
end
section
variable(Pg:List Fn)(cl:Cn)(E:XK)(d:Nat)
noncomputable def VP(Q:VK):A->Hs->List Addr->Hp->Prop:=fun r _ ρ H=>∃ w,r= .w w/\∀ v,RW ρ w v->Q v H
noncomputable def LP(Q:List V->Hp->Prop):A->Hs->List Addr->Hp->Prop:=fun r _ ρ H=>∃ ws,r= .ws ws/\∀ vs,RWs ρ ws vs->Q vs H
noncomputable def Ag(σ0:St)(τ:Sg)(σ:St):Prop:=∀ i,cN τ i=none->σ[i]? =σ0[i]?
noncomputable def FP(σ0:St)(D:Ends)(ρ:List Addr)(H:Hp):Fl->Prop
 | .nx τ=>∀ σ,RS ρ τ σ->Ag σ0 τ σ->D.nx σ H
 | .bk τ=>∀ σ,RS ρ τ σ->Ag σ0 τ σ->D.bk σ H
 | .ct τ=>∀ σ,RS ρ τ σ->Ag σ0 τ σ->D.ct σ H
 | .rt w=>∀ v,RW ρ w v->D.rt v H
noncomputable def SPo(σ0:St)(D:Ends):A->Hs->List Addr->Hp->Prop:=fun r _ ρ H=>∃ f,r= .fl f/\FP σ0 D ρ H f
noncomputable def ev(q:Q)(σ:St)(H:Hp)(P:A->Hs->List Addr->Hp->Prop):Prop:=∃ ρ τ h n,Sim cl ρ h H/\RS ρ τ σ/\Post cl ρ H E (evs Pg n d q τ h) P
noncomputable def tE(a:X):TE:=fun σ H Q=>ev Pg cl E d (.x a) σ H (VP Q)
noncomputable def tT(a:X):TT:=fun σ H Q=>ev Pg cl E d (.x a) σ H (VP fun v H'=>∃ b,v= .bl b/\Q b H')
noncomputable def tA(as:List X):TA:=fun σ H Q=>ev Pg cl E d (.a as) σ H (LP Q)
noncomputable def evS(σ0:St)(q:Q)(σ:St)(H:Hp)(P:A->Hs->List Addr->Hp->Prop):Prop:=∃ ρ τ h n,Sim cl ρ h H/\RS ρ τ σ/\Ag σ0 τ σ/\Post cl ρ H E (evs Pg n d q τ h) P
noncomputable def tS(σ0:St)(s:S):TS:=fun D σ H=>evS Pg cl E d σ0 (.s s) σ H (SPo σ0 D)
noncomputable def tSs(σ0:St)(s:List S):TS:=fun D σ H=>evS Pg cl E d σ0 (.ss s) σ H (SPo σ0 D)
end
section
variable{Pg:List Fn}{cl:Cn}{E:XK}{d:Nat}{X:Cx}{σ:St}{H:Hp}{P:A->Hs->List Addr->Hp->Prop}
theorem PE.of{e:Expr}{t t':TE}(h:PE X e t)(f:∀ σ H Q,t' σ H Q->t σ H Q):PE X e t':=fun pins s σ H Q I q=>h pins s σ H Q I (f σ H Q q)
theorem PT.of{e:Expr}{t t':TT}(h:PT X e t)(f:∀ σ H Q,t' σ H Q->t σ H Q):PT X e t':=fun pins s σ H Q I q=>h pins s σ H Q I (f σ H Q q)
theorem PW.of{e:Expr}{t t':TT}(h:PW X e t)(f:∀ σ H Q,t' σ H Q->t σ H Q):PW X e t':=fun wh pins s σ H Q I q=>h wh pins s σ H Q I (f σ H Q q)
theorem PA.of{es:List Expr}{t t':TA}(h:PA X es t)(f:∀ σ H Q,t' σ H Q->t σ H Q):PA X es t':=fun pos pins s σ H Q I q=>h pos pins s σ H Q I (f σ H Q q)
theorem PS.of{e:Stmt}{t t':TS}(h:PS X e t)(f:∀ D σ H,t' D σ H->t D σ H):PS X e t':=fun pins s σ H D I q=>h pins s σ H D I (f D σ H q)
theorem PSs.of{e:List Stmt}{t t':TS}(h:PSs X e t)(f:∀ D σ H,t' D σ H->t D σ H):PSs X e t':=fun pins s σ H D I q=>h pins s σ H D I (f D σ H q)
theorem ev.step{q:Q}(x:ev Pg cl E d q σ H P):∃ ρ τ h n,Sim cl ρ h H/\RS ρ τ σ/\Post cl ρ H E (evs Pg n d q τ h) P:=x
theorem evS.step{q:Q}{σ0:St}(x:evS Pg cl E d σ0 q σ H P):∃ ρ τ h n,Sim cl ρ h H/\RS ρ τ σ/\Ag σ0 τ σ/\Post cl ρ H E (evs Pg n d q τ h) P:=x
theorem ev.then{q:Q}{ρ:List Addr}{τ:Sg}{h:Hs}{n:Nat}{f:A->Hs->R A}{P P':A->Hs->List Addr->Hp->Prop}(s:Sim cl ρ h H)(r:RS ρ τ σ)(p:Post cl ρ H E ((evs Pg n d q τ h).bind f) P)
 (g:∀ a h1 ρ1 H1,Bt cl ρ H ρ1 H1->Sim cl ρ1 h1 H1->Post cl ρ1 H1 E (f a h1) P->P' a h1 ρ1 H1):ev Pg cl E d q σ H P':=⟨ρ,τ,h,n,s,r,p.bind.mono g⟩
theorem evS.then{q:Q}{σ0:St}{ρ:List Addr}{τ:Sg}{h:Hs}{n:Nat}{f:A->Hs->R A}{P P':A->Hs->List Addr->Hp->Prop}(s:Sim cl ρ h H)(r:RS ρ τ σ)(ag:Ag σ0 τ σ)(p:Post cl ρ H E ((evs Pg n d q τ h).bind f) P)
 (g:∀ a h1 ρ1 H1,Bt cl ρ H ρ1 H1->Sim cl ρ1 h1 H1->Post cl ρ1 H1 E (f a h1) P->P' a h1 ρ1 H1):evS Pg cl E d σ0 q σ H P':=⟨ρ,τ,h,n,s,r,ag,p.bind.mono g⟩
theorem bR{ρ:List Addr}{H:Hp}{a:A}{f:W->R A}(p:Post cl ρ H E (a.toW f) P):∃ w,a= .w w/\Post cl ρ H E (f w) P:=by
 cases a with
 | w w=>exact⟨w,rfl,p⟩
 | _=>exact p.elim
theorem mL{ρ:List Addr}{H:Hp}{a:A}{f:List W->R A}(p:Post cl ρ H E (a.toL f) P):∃ w,a= .ws w/\Post cl ρ H E (f w) P:=by
 cases a with
 | ws w=>exact⟨w,rfl,p⟩
 | _=>exact p.elim
theorem J8{ρ:List Addr}{H:Hp}{a:A}{f:Iv->R A}(p:Post cl ρ H E (a.toV f) P):∃ w,a= .iv w/\Post cl ρ H E (f w) P:=by
 cases a with
 | iv w=>exact⟨w,rfl,p⟩
 | _=>exact p.elim
theorem yu{ρ:List Addr}{H:Hp}{a:A}{f:Fl->R A}(p:Post cl ρ H E (a.toF f) P):∃ w,a= .fl w/\Post cl ρ H E (f w) P:=by
 cases a with
 | fl w=>exact⟨w,rfl,p⟩
 | _=>exact p.elim
theorem jo{ρ:List Addr}{H:Hp}{α β:Type}{o:Option α}{f:α->R β}{P:β->Hs->List Addr->Hp->Prop}(p:Post cl ρ H E (Opt o f) P):∃ w,o=some w/\Post cl ρ H E (f w) P:=by
 cases o with
 | some w=>exact⟨w,rfl,p⟩
 | none=>exact p.elim
theorem sJ{ρ:List Addr}{H:Hp}{β:Type}{w:W}{f:Int->R β}{P:β->Hs->List Addr->Hp->Prop}(p:Post cl ρ H E (w.onI f) P):∃ i,w= .int i/\Post cl ρ H E (f i) P:=by
 cases w with
 | int w=>exact⟨w,rfl,p⟩
 | _=>exact p.elim
theorem S5{ρ:List Addr}{H:Hp}{β:Type}{w:W}{f:Nat->R β}{P:β->Hs->List Addr->Hp->Prop}(p:Post cl ρ H E (w.onR f) P):∃ i,w= .ref i/\Post cl ρ H E (f i) P:=by
 cases w with
 | ref w=>exact⟨w,rfl,p⟩
 | _=>exact p.elim
theorem vo{ρ:List Addr}{H:Hp}{β:Type}{w:W}{f t:R β}{P:β->Hs->List Addr->Hp->Prop}(p:Post cl ρ H E (w.onB f t) P):(w= .bl true/\Post cl ρ H E t P)\/(w= .bl false/\Post cl ρ H E f P):=by
 cases w with
 | bl b=>cases b with
   | true=>exact .inl ⟨rfl,p⟩
   | false=>exact .inr ⟨rfl,p⟩
 | _=>exact p.elim
theorem f9{ρ:List Addr}{H:Hp}{β:Type}{b:Bool}{t:R β}{P:β->Hs->List Addr->Hp->Prop}(p:Post cl ρ H E (ifB b t .no) P):b=true/\Post cl ρ H E t P:=by
 cases b with
 | true=>exact⟨rfl,p⟩
 | false=>exact p.elim
theorem at_of{ρ:List Addr}{H:Hp}{h:Hs}{β:Type}{w:W}{f:Nat->O->R β}{P:β->Hs->List Addr->Hp->Prop}(s:Sim cl ρ h H){v:V}(r:RW ρ w v)(p:Post cl ρ H E (h.at w f) P):
 ∃ n o a,w= .ref n/\v= .ref a/\ρ[n]? =some a/\h.get n=some o/\OA cl ρ H a o/\Post cl ρ H E (f n o) P:=by
 obtain⟨n,rfl,p⟩:=S5 p;obtain⟨o,e,p⟩:=jo p
 cases r with
 | ref q=>exact⟨n,o,_,rfl,rfl,q,e,s.at q e,p⟩
theorem J9{ρ:List Addr}{H:Hp}{β:Type}{o:O}{f:List W->R β}{P:β->Hs->List Addr->Hp->Prop}(p:Post cl ρ H E (o.onL f) P):∃ xs,o= .lst xs/\Post cl ρ H E (f xs) P:=by
 cases o with
 | lst xs=>exact⟨xs,rfl,p⟩
 | _=>exact p.elim
theorem Ey{ρ:List Addr}{H:Hp}{β:Type}{o:O}{f:Nat->Fs->R β}{P:β->Hs->List Addr->Hp->Prop}(p:Post cl ρ H E (o.onI f) P):∃ C fs,o= .ins C fs/\Post cl ρ H E (f C fs) P:=by
 cases o with
 | ins C fs=>exact⟨C,fs,rfl,p⟩
 | _=>exact p.elim
theorem Post.now{ρ:List Addr}{H:Hp}{h:Hs}{α:Type}{a:α}{P:α->Hs->List Addr->Hp->Prop}(s:Sim cl ρ h H)(p:Post cl ρ H E (.ok a h) P):P a h ρ H:=p ρ H Bt.refl s
theorem Post.gb{ρ:List Addr}{H:Hp}{h:Hs}{w:W}{v:V}{Q:VK}(s:Sim cl ρ h H)(p:Post cl ρ H E (.ok (.w w) h) (VP Q))(r:RW ρ w v):Q v H:=by
 obtain⟨w',e,q⟩:=p.now s;cases e;exact q v r
theorem Post.new{ρ:List Addr}{H:Hp}{h:Hs}{o:O}{u:HO}{p:Addr}{Q:VK}(s:Sim cl ρ h H)(x:Post cl ρ H E (ofW (.alloc h o)) (VP Q))(e:H p=none)(z:OA cl (ρ ++ [p]) (upd H p u) p o):Q (.ref p) (upd H p u):=by
 obtain⟨w',e',q⟩:=x (ρ ++ [p]) (upd H p u) (Bt.new e) (s.push e z);cases e';exact q _ (.ref (by rw[<- s.len,List.getElem?_append_right (aA _),Nat.sub_self];rfl))
theorem Post.newL{ρ:List Addr}{H:Hp}{h:Hs}{xs:List W}{vs:List V}{p:Addr}{Q:VK}(s:Sim cl ρ h H)(x:Post cl ρ H E (ofW (.alloc h (.lst xs))) (VP Q))(e:H p=none)(r:RWs ρ xs vs):Q (.ref p) (upd H p (.lst vs)):=
 x.new s e ⟨vs,r.mono (List.prefix_append _ _),az⟩
theorem Post.Qv{ρ:List Addr}{H:Hp}{h:Hs}{xs:List W}{vs:List V}{p:Addr}{Q:VK}(s:Sim cl ρ h H)(x:Post cl ρ H E (ofW (.alloc h (.tup xs))) (VP Q))(e:H p=none)(r:RWs ρ xs vs):Q (.ref p) (upd H p (.tup vs)):=
 x.new s e ⟨vs,r.mono (List.prefix_append _ _),az⟩
theorem Post.putL{ρ:List Addr}{H:Hp}{h:Hs}{xs:List W}{vs:List V}{n:Nat}{a:Addr}{w:W}{v:V}{Q:VK}(s:Sim cl ρ h H)(x:Post cl ρ H E (ofW (.ok w (h.set n (.lst xs)))) (VP Q))(e:ρ[n]? =some a)(r:RWs ρ xs vs)(rw:RW ρ w v):Q v (upd H a (.lst vs)):=by
 obtain⟨w',e',q⟩:=x ρ (upd H a (.lst vs)) (Bt.put e) (s.put e ⟨vs,r,az⟩);cases e';exact q _ rw
theorem aas{i:Nat}{x:Str}{pos:Pos}(hN:X.N[i]? =some x:=by rfl)(hv:Vis X.env.scope x:=by first | exact Or.inl rfl | exact Or.inr (Or.inl rfl) | exact Or.inr (Or.inr rfl))(hd:(x==("__debug__":Str))=false:=by decide)
 (hcd:(x==("__classdict__":Str))=false:=by decide):PE X (.Name x pos) (tE Pg cl E d (.var i)):=PE.of (Cd hN hv hd hcd) fun σ H Q x=>by
 obtain⟨ρ,τ,h,n,s,r,p⟩:=x.step;obtain⟨w,e,p⟩:=jo (show Post cl ρ H E (Opt (cN τ i) fun w=>.ok (.w w) h) (VP Q) from p);obtain⟨v,ev,rv⟩:=r.get e;exact⟨v,ev,p.gb s rv⟩
theorem vp{e:Expr}{w:W}{v:V}(h:PE X e (tC v))(r:RW [] w v):PE X e (tE Pg cl E d (.cst w)):=PE.of h fun σ H Q x=>by
 obtain⟨ρ,τ,h,n,s,_,p⟩:=x.step;exact Post.gb s (show Post cl ρ H E (.ok (.w w) h) (VP Q) from p) (r.mono (List.nil_prefix))
theorem aC{i:Int}{j pos}:PE X (.Constant (.int i) j pos) (tE Pg cl E d (.cst (.int i))):=vp cX (.int i)
theorem Jj{b j pos}:PE X (.Constant (.bool b) j pos) (tE Pg cl E d (.cst (.bl b))):=vp abG (.bl b)
theorem J_{j pos}:PE X (.Constant .none j pos) (tE Pg cl E d (.cst .non)):=vp Zd .non
theorem gh(c:List Nat){x:Str}{j pos}(e:x= ⟨c.toArray⟩:=by decide +kernel):PE X (.Constant (.str x) j pos) (tE Pg cl E d (.cst (.str c))):=by
 subst e;exact vp qM (.str c)
theorem aq:PA X [] (tA Pg cl E d []):=PA.of bw fun σ H Q x=>by
 obtain⟨ρ,τ,h,n,s,_,p⟩:=x.step;obtain⟨ws,e,q⟩:=Post.now s (show Post cl ρ H E (.ok (.ws []) h) (LP Q) from p);cases e;exact q [] .nil
theorem gK{e:Expr}{es:List Expr}{a:Ev.X}{as:List Ev.X}(ha:PE X e (tE Pg cl E d a))(hr:PA X es (tA Pg cl E d as))(hs:starEach (e::es) X.env=(false,eval e X.env)::starEach es X.env:=by rfl):PA X (e::es) (tA Pg cl E d (a::as)):=
 PA.of (aK ha hr hs) fun σ H Q x=>by
 obtain⟨ρ,τ,h,n,s,r,p⟩:=x.step;refine ev.then s r (show Post cl ρ H E ((evs Pg n d (.x a) τ h).bind fun r h=>r.toW fun w=>(evs Pg n d (.a as) τ h).bind fun r h=>r.toL fun ws=>.ok (.ws (w::ws)) h) (LP Q) from p) fun a1 h1 ρ1 H1 b1 s1 p1=>?_;obtain⟨w,rfl,p1⟩:=bR p1;refine⟨w,rfl,fun v rv=>?_⟩;refine ev.then s1 (r.mono b1.1) p1 fun a2 h2 ρ2 H2 b2 s2 p2=>?_;obtain⟨ws,rfl,p2⟩:=mL p2;refine⟨ws,rfl,fun vs rs=>?_⟩;obtain⟨ws',e,q⟩:=p2.now s2;cases e;exact q _ (.cons (rv.mono b2.1) rs)
noncomputable def Op2(cl:Cn)(p:Pr)(r:R2):Prop:=∀(E:XK) (ρ:List Addr) (h:Hs) (H:Hp) (w1 w2:W) (v1 v2:V) (Q:VK),Sim cl ρ h H->RW ρ w1 v1->RW ρ w2 v2->Post cl ρ H E (ofW (pI p [w1,w2] h)) (VP Q)->r v1 v2 H Q
noncomputable def Op1(cl:Cn)(p:Pr)(r:V->Hp->VK->Prop):Prop:=∀(E:XK) (ρ:List Addr) (h:Hs) (H:Hp) (w1:W) (v1:V) (Q:VK),Sim cl ρ h H->RW ρ w1 v1->Post cl ρ H E (ofW (pI p [w1] h)) (VP Q)->r v1 H Q
theorem vq{p:Pr}{r:R2}(o:Op2 cl p r){a b:Ev.X}{Q:VK}(x:tE Pg cl E d (.pr p [a,b]) σ H Q):tOp r (tE Pg cl E d a) (tE Pg cl E d b) σ H Q:=by
 obtain⟨ρ,τ,h,n,s,rs,q⟩:=x.step;have q:Post cl ρ H E ((evs Pg n d (.a [a,b]) τ h).bind fun a h=>a.toL fun ws=>ofW (pI p ws h)) (VP Q):=q;have q1:=q.bind;refine ev.then s rs (show Post cl ρ H E ((evs Pg n d (.x a) τ h).bind fun r h=>r.toW fun w=>(evs Pg n d (.a [b]) τ h).bind fun r h=>r.toL fun ws=>.ok (.ws (w::ws)) h) _ from q1) fun a1 h1 ρ1 H1 b1 s1 p1=>?_;obtain⟨w1,rfl,pz⟩:=bR p1;clear p1;refine⟨w1,rfl,fun v1 rv1=>?_⟩;have p1':=pz.bind;refine ev.then s1 (rs.mono b1.1) (show Post cl ρ1 H1 E ((evs Pg n d (.x b) τ h1).bind fun r h=>r.toW fun w=>(evs Pg n d (.a []) τ h).bind fun r h=>r.toL fun ws=>.ok (.ws (w::ws)) h) _ from p1') fun a2 h2 ρ2 H2 b2 s2 p2=>?_;obtain⟨w2,rfl,pz⟩:=bR p2;clear p2;refine⟨w2,rfl,fun v2 rv2=>?_⟩;have p3:=Post.now s2 (show Post cl ρ2 H2 E (.ok (A.ws [w2]) h2) _ from pz);have p4:=Post.now s2 (show Post cl ρ2 H2 E (.ok (A.ws [w1,w2]) h2) _ from p3);exact o E ρ2 h2 H2 w1 w2 v1 v2 Q s2 (rv1.mono b2.1) rv2 p4
theorem pL{p:Pr}{r:V->Hp->VK->Prop}(o:Op1 cl p r){a:Ev.X}{Q:VK}(x:tE Pg cl E d (.pr p [a]) σ H Q):tUn r (tE Pg cl E d a) σ H Q:=by
 obtain⟨ρ,τ,h,n,s,rs,q⟩:=x.step;have q:Post cl ρ H E ((evs Pg n d (.a [a]) τ h).bind fun a h=>a.toL fun ws=>ofW (pI p ws h)) (VP Q):=q;have q1:=q.bind;refine ev.then s rs (show Post cl ρ H E ((evs Pg n d (.x a) τ h).bind fun r h=>r.toW fun w=>(evs Pg n d (.a []) τ h).bind fun r h=>r.toL fun ws=>.ok (.ws (w::ws)) h) _ from q1) fun a1 h1 ρ1 H1 b1 s1 p1=>?_;obtain⟨w1,rfl,pz⟩:=bR p1;clear p1;refine⟨w1,rfl,fun v1 rv1=>?_⟩;have p3:=Post.now s1 (show Post cl ρ1 H1 E (.ok (A.ws [w1]) h1) _ from pz);exact o E ρ1 h1 H1 w1 v1 Q s1 rv1 p3
noncomputable def OpN(cl:Cn)(p:Pr)(r:List V->Hp->VK->Prop):Prop:=∀(E:XK) (ρ:List Addr) (h:Hs) (H:Hp) (ws:List W) (vs:List V) (Q:VK),Sim cl ρ h H->RWs ρ ws vs->Post cl ρ H E (ofW (pI p ws h)) (VP Q)->r vs H Q
theorem Ez{p:Pr}{r:List V->Hp->VK->Prop}(o:OpN cl p r){as:List Ev.X}{Q:VK}(x:tE Pg cl E d (.pr p as) σ H Q):tCB r (tA Pg cl E d as) σ H Q:=by
 obtain⟨ρ,τ,h,n,s,rs,q⟩:=x.step;refine ev.then s rs (show Post cl ρ H E ((evs Pg n d (.a as) τ h).bind fun a h=>a.toL fun ws=>ofW (pI p ws h)) (VP Q) from q) fun a1 h1 ρ1 H1 b1 s1 p1=>?_;obtain⟨ws,rfl,p1⟩:=mL p1;exact⟨ws,rfl,fun vs rv=>o E ρ1 h1 H1 ws vs Q s1 rv p1⟩
end
section
variable{cl:Cn}{E:XK}{ρ:List Addr}{H:Hp}{h:Hs}{P:A->Hs->List Addr->Hp->Prop}
theorem oI{w:W}{f:Int->R W}(p:Post cl ρ H E (ofW (w.onI f)) P):∃ i,w= .int i/\Post cl ρ H E (ofW (f i)) P:=by
 cases w with
 | int w=>exact⟨w,rfl,p⟩
 | _=>exact p.elim
theorem oB{w:W}{f t:R W}(p:Post cl ρ H E (ofW (w.onB f t)) P):∃ b,w= .bl b/\Post cl ρ H E (ofW (ifB b t f)) P:=by
 cases w with
 | bl b=>exact⟨b,rfl,p⟩
 | _=>exact p.elim
theorem oIf{b:Bool}{t:R W}(p:Post cl ρ H E (ofW (ifB b t .no)) P):b=true/\Post cl ρ H E (ofW t) P:=by
 cases b with
 | true=>exact⟨rfl,p⟩
 | false=>exact p.elim
theorem nZ{α:Type}{o:Option α}{f:α->R W}(p:Post cl ρ H E (ofW (Opt o f)) P):∃ w,o=some w/\Post cl ρ H E (ofW (f w)) P:=by
 cases o with
 | some w=>exact⟨w,rfl,p⟩
 | none=>exact p.elim
theorem oAt{w:W}{f:Nat->O->R W}(s:Sim cl ρ h H){v:V}(r:RW ρ w v)(p:Post cl ρ H E (ofW (h.at w f)) P):
 ∃ n o a,w= .ref n/\v= .ref a/\ρ[n]? =some a/\h.get n=some o/\OA cl ρ H a o/\Post cl ρ H E (ofW (f n o)) P:=by
 cases w with
 | ref n=>
   obtain⟨o,e,p⟩:=nZ (show Post cl ρ H E (ofW (Opt (h.get n) (f n))) P from p)
   cases r with
   | ref q=>exact⟨n,o,_,rfl,rfl,q,e,s.at q e,p⟩
 | _=>exact p.elim
theorem oL{o:O}{f:List W->R W}(p:Post cl ρ H E (ofW (o.onL f)) P):∃ xs,o= .lst xs/\Post cl ρ H E (ofW (f xs)) P:=by
 cases o with
 | lst xs=>exact⟨xs,rfl,p⟩
 | _=>exact p.elim
theorem oIt{o:O}{f:List W->R W}(p:Post cl ρ H E (ofW (o.items f)) P):∃ xs,(o= .lst xs\/o= .tup xs)/\Post cl ρ H E (ofW (f xs)) P:=by
 cases o with
 | lst xs=>exact⟨xs,.inl rfl,p⟩
 | tup xs=>exact⟨xs,.inr rfl,p⟩
 | _=>exact p.elim
theorem CG{xs:List W}{k:R W}(p:Post cl ρ H E (ofW (size xs k)) P):xs.length<=16777215/\Post cl ρ H E (ofW k) P:=by
 obtain⟨e,p⟩:=oIf p;rw[ble_eq,len_eq]at e;exact⟨of_decide_eq_true e,p⟩
theorem m6:sizeLine=16777216:=sizeLine_eq
theorem OA.sq{K:ak}{a:Addr}{o:O}{xs:List W}(e:o= .lst xs\/o= .tup xs)(x:OA cl ρ H a o):∃ vs,RWs ρ xs vs/\(SqL K H a vs\/SqT K H a vs):=by
 rcases e with rfl | rfl
 · obtain⟨vs,r,q⟩:=x;exact⟨vs,r,.inl (SqL.of q)⟩
 · obtain⟨vs,r,q⟩:=x;exact⟨vs,r,.inr (SqT.of q)⟩
theorem Post.yes{b c:Bool}{Q:VK}(s:Sim cl ρ h H)(p:Post cl ρ H E (ofW (.yes b h)) (VP Q))(e:b=c):Q (.bl c) H:=by subst e;exact Post.gb s p (.bl b)
end
section
variable{cl:Cn}
theorem NP(i j:Int):JV i j=i+j:=by cases i <;> cases j <;> rfl
theorem NQ(i j:Int):Qm i j=i - j:=by
 cases i with
 | ofNat a=>
   cases j with
   | ofNat b=>
     show(Bool.rec (Int.negSucc (b - a - 1)) (Int.ofNat (a - b)) (Nat.ble b a):Int)=(a:Int) - (b:Int)
     cases z:Nat.ble b a with
     | true=>
       have:=Nat.le_of_ble_eq_true z;show((a - b:Nat):Int)=_
       omega
     | false=>
       have:¬ b<=a:=fun q=>by rw[Nat.ble_eq_true_of_le q]at z;cases z
       show Int.negSucc (b - a - 1)=_;rw[Int.negSucc_eq]
       omega
   | negSucc b=>rfl
 | negSucc a=>
   cases j with
   | ofNat b=>
     show Int.negSucc (a+b)=Int.negSucc a - (b:Int)
     rw[Int.negSucc_eq,Int.negSucc_eq];omega
   | negSucc b=>rfl
theorem fmod_eq(i j:Int):fmod i j=i % j:=by cases i <;> cases j <;> rfl
theorem iU:Op2 cl .sub (rI0 fun i j=>.int (i - j)):=fun E ρ h H w1 w2 v1 v2 Q s r1 r2 p=>by
 obtain⟨i,rfl,p⟩:=oI (show Post cl ρ H E (ofW (w1.onI fun i=>w2.onI fun j=>aae h i j)) (VP Q) from p);obtain⟨j,rfl,p⟩:=oI p;have p:Post cl ρ H E (ofW (.ok (.int (Qm i j)) h)) (VP Q):=p;rw[NQ]at p;cases r1;cases r2;exact⟨i,j,rfl,rfl,Post.gb s p (.int _)⟩
theorem Ka{i:Int}(h:Sml i=true):L2.Sml i:=by
 unfold L2.Sml
 cases i with
 | ofNat a=>
   have:Nat.ble (a+1) (2 ^ 4000)=true:=h;rw[ble_eq]at this;have:=of_decide_eq_true this;show a<2 ^ 4000
   omega
 | negSucc a=>
   have:Nat.ble (a+2) (2 ^ 4000)=true:=h;rw[ble_eq]at this;have:=of_decide_eq_true this;show a+1<2 ^ 4000;omega
theorem fu:Op2 cl .mod (rI (fun _ j=>0<j) fun i j=>.int (i % j)):=fun E ρ h H w1 w2 v1 v2 Q s r1 r2 p=>by
 obtain⟨i,rfl,p⟩:=oI (show Post cl ρ H E (ofW (w1.onI fun i=>w2.onI fun j=>aah h i j)) (VP Q) from p);obtain⟨j,rfl,p⟩:=oI p;obtain⟨c,p⟩:=oIf p;rw[cD]at c;rw[fmod_eq]at p;cases r1;cases r2;exact⟨i,j,rfl,rfl,of_decide_eq_true c,Post.gb s p (.int _)⟩
theorem S6:Op2 cl .fdiv (rI (fun _ j=>Wy j) fun i j=>.int (i.fdiv j)):=fun E ρ h H w1 w2 v1 v2 Q s r1 r2 p=>by
 obtain⟨i,rfl,p⟩:=oI (show Post cl ρ H E (ofW (w1.onI fun i=>w2.onI fun j=>WM h i j)) (VP Q) from p);obtain⟨j,rfl,p⟩:=oI p;obtain⟨c,p⟩:=oIf p;obtain⟨c2,p⟩:=oIf p;rw[cD]at c;have c:=of_decide_eq_true c;cases r1;cases r2;exact⟨i,j,rfl,rfl,⟨by omega,Ka c2⟩,Post.gb s p (.int _)⟩
theorem WT:Op2 cl .pow (rI UL fun i j=>.int (i ^ j.toNat)):=fun E ρ h H w1 w2 v1 v2 Q s r1 r2 p=>by
 obtain⟨i,rfl,p⟩:=oI (show Post cl ρ H E (ofW (w1.onI fun i=>w2.onI fun j=>aai h i j)) (VP Q) from p);obtain⟨j,rfl,p⟩:=oI p;obtain⟨c,p⟩:=oIf p;obtain⟨c2,p⟩:=oIf p;obtain⟨c3,p⟩:=oIf p;obtain⟨c4,p⟩:=oIf p;rw[cD]at c c2 c3 c4;have c:=of_decide_eq_true c;have c2:=of_decide_eq_true c2;have c3:=of_decide_eq_true c3;have c4:=of_decide_eq_true c4;cases r1;cases r2;exact⟨i,j,rfl,rfl,⟨by omega,by omega,by omega⟩,Post.gb s p (.int _)⟩
theorem Qw:Op1 cl .neg (rU fun i=>.int (-i)):=fun E ρ h H w1 v1 Q s r1 p=>by
 obtain⟨i,rfl,p⟩:=oI (show Post cl ρ H E (ofW (w1.onI fun i=>.ok (.int (-i)) h)) (VP Q) from p);cases r1;exact⟨i,rfl,Post.gb s p (.int _)⟩
theorem WW{p:Pr}{f g:Int->Int->Bool}(hp:∀ h w1 w2,pI p [w1,w2] h=w1.onI fun i=>w2.onI fun j=>.yes (f i j) h)(e:∀ i j,f i j=g i j):Op2 cl p (rI0 fun i j=>.bl (g i j)):=fun E ρ h H w1 w2 v1 v2 Q s r1 r2 p=>by
 rw[hp]at p;obtain⟨i,rfl,p1⟩:=oI p;obtain⟨j,rfl,p2⟩:=oI p1;cases r1;cases r2;exact⟨i,j,rfl,rfl,Post.yes s p2 (e i j)⟩
theorem oT{E:XK}{ρ:List Addr}{H:Hp}{P:A->Hs->List Addr->Hp->Prop}{o:O}{f:List W->R W}(p:Post cl ρ H E (ofW (o.onT f)) P):∃ xs,o= .tup xs/\Post cl ρ H E (ofW (f xs)) P:=by
 cases o with
 | tup xs=>exact⟨xs,rfl,p⟩
 | _=>exact p.elim
theorem ints_of{ρ:List Addr}:∀ {xs:List W} {vs:List V},RWs ρ xs vs->zG xs=true->∃ ns:List Int,xs=ns.map W.int/\vs=ns.map V.int
 | _,_,.nil,_=>⟨[],rfl,rfl⟩
 | x::xs,v::vs,.cons r t,e=>by
   cases r with
   | int i=>
     obtain⟨ns,e1,e2⟩:=ints_of t (show zG xs=true from e)
     exact⟨i::ns,by rw[e1];rfl,by rw[e2];rfl⟩
   | _=>cases e
theorem NZ:∀(ns ms:List Int),Qp (ns.map W.int) (ms.map W.int)=some (HT.lexLt ns ms)
 | [],[]=>rfl
 | [],_::_=>rfl
 | _::_,[]=>rfl
 | i::ns,j::ms=>by
   show ifB (ieq i j) (Qp (ns.map W.int) (ms.map W.int)) (some (ilt i j))=_;rw[jn,NZ ns ms,cD]
   by_cases z:i=j
   · rw[decide_eq_true z];simp[ifB,HT.lexLt,z]
   · rw[decide_eq_false z];simp[ifB,HT.lexLt,z]
noncomputable def aat(K:ak):R2:=fun x y H Q=>rI0 (fun i j=>.bl (decide (i<j))) x y H Q\/ZC K x y H Q
theorem Kc{K:ak}:Op2 cl .lt (aat K):=fun E ρ h H w1 w2 v1 v2 Q s r1 r2 p=>by
 have p:Post cl ρ H E (ofW (pLt h w1 w2)) (VP Q):=p
 cases w1 with
 | int i=>
   obtain⟨j,rfl,p1⟩:=oI (show Post cl ρ H E (ofW (w2.onI fun j=>.yes (ilt i j) h)) (VP Q) from p);cases r1;cases r2
   exact .inl ⟨i,j,rfl,rfl,Post.yes s p1 (cD i j)⟩
 | ref n=>
   obtain⟨n,o,a,_,rfl,e1,g1,x1,p1⟩:=oAt s r1 (show Post cl ρ H E (ofW (h.at (.ref n) fun _ x=>h.at w2 fun _ y=>x.onT fun xs=>y.onT fun ys=>ifB (zG xs) (ifB (zG ys) (Opt (Qp xs ys) fun c=>.yes c h) .no) .no)) (VP Q) from p);obtain⟨m,o2,b,_,rfl,e2,g2,x2,p2⟩:=oAt s r2 p1;obtain⟨xs,rfl,p3⟩:=oT p2;obtain⟨ys,rfl,p4⟩:=oT p3;obtain⟨c1,p5⟩:=oIf p4;obtain⟨c2,p6⟩:=oIf p5;obtain⟨c,ec,p7⟩:=nZ p6;obtain⟨vs,rv,q1⟩:=x1;obtain⟨us,ru,q2⟩:=x2;obtain⟨ns,rfl,rfl⟩:=ints_of rv c1;obtain⟨ms,rfl,rfl⟩:=ints_of ru c2;rw[NZ]at ec
   exact .inr ⟨a,b,ns,ms,rfl,rfl,SqT.of q1,SqT.of q2,Post.yes s p7 (Option.some.inj ec).symm⟩
 | _=>exact p.elim
theorem aau:Op2 cl .gt (rI0 fun i j=>.bl (decide (j<i))):=WW (f:=fun i j=>ilt j i) (fun _ _ _=>rfl) fun i j=>cD j i
theorem not_lt(i j:Int):(!ilt j i)=decide (i<=j):=by
 rw[cD,<- decide_not];exact decide_eq_decide.mpr (by omega)
theorem Bh:Op2 cl .ge (rI0 fun i j=>.bl (decide (j<=i))):=WW (f:=fun i j=> !ilt i j) (fun _ _ _=>rfl) fun i j=>not_lt j i
theorem Bj{ρ:List Addr}{w:W}{v:V}(r:RW ρ w v):um w=decide (v= .non):=by
 cases r <;> first | rfl | exact(decide_eq_false (by intro z;cases z)).symm
theorem WX:Op1 cl .isN (fun x H Q=>Q (.bl (decide (x= .non))) H):=fun E ρ h H w1 v1 Q s r1 p=>Post.yes s (show Post cl ρ H E (ofW (.yes (um w1) h)) (VP Q) from p) (Bj r1)
theorem aav:Op1 cl .Qq (fun x H Q=>Q (.bl (!decide (x= .non))) H):=fun E ρ h H w1 v1 Q s r1 p=>Post.yes s (show Post cl ρ H E (ofW (.yes (!um w1) h)) (VP Q) from p) (by rw[Bj r1])
theorem S7:Op1 cl .v9 (fun x H Q=>∃ c,x= .bl c/\Q (.bl (!c)) H):=fun E ρ h H w1 v1 Q s r1 p=>by
 obtain⟨b,rfl,p⟩:=oB (show Post cl ρ H E (ofW (w1.onB (.yes true h) (.yes false h))) (VP Q) from p);cases r1;refine⟨b,rfl,?_⟩
 cases b with
 | true=>exact Post.yes s p rfl
 | false=>exact Post.yes s p rfl
noncomputable def XS:R2:=fun x y H Q=>rI0 (fun i j=>.int (i+j)) x y H Q\/ZW x y H Q
theorem eV:Op2 cl .add XS:=fun E ρ h H w1 w2 v1 v2 Q s r1 r2 p=>by
 have p:Post cl ρ H E (ofW (aad h w1 w2)) (VP Q):=p
 cases w1 with
 | int i=>
   obtain⟨j,rfl,p⟩:=oI (show Post cl ρ H E (ofW (w2.onI fun j=>.ok (.int (JV i j)) h)) (VP Q) from p);have p:Post cl ρ H E (ofW (.ok (.int (JV i j)) h)) (VP Q):=p;rw[NP]at p;cases r1;cases r2
   exact .inl ⟨i,j,rfl,rfl,Post.gb s p (.int _)⟩
 | ref n=>
   obtain⟨n,o,a,_,rfl,e1,g1,x1,p⟩:=oAt s r1 (show Post cl ρ H E (ofW (aac h (.ref n) w2)) (VP Q) from p);obtain⟨m,o2,b,_,rfl,e2,g2,x2,p⟩:=oAt s r2 p
   cases o with
   | lst xs=>
     obtain⟨ys,rfl,p⟩:=oL p;obtain⟨z,p⟩:=CG p;obtain⟨vs,rv,q1⟩:=x1;obtain⟨us,ru,q2⟩:=x2;rw[kE]at z p;have l1:=rv.length;have l2:=ru.length;rw[List.length_append]at z
     exact .inr ⟨a,b,vs,us,rfl,rfl,q1,q2,by rw[m6];omega,fun p' hp=>Post.newL s p hp (rv.append ru)⟩
   | _=>exact p.elim
 | _=>exact p.elim
noncomputable def XX:R2:=fun x y H Q=>rI Jg (fun i j=>.int (i*j)) x y H Q\/ZX x y H Q
theorem X3(xs:List W)(k:Nat):Vn xs k=(List.replicate k xs).flatten:=by
 induction k with
 | zero=>rfl
 | succ k ih=>
   show app xs (Vn xs k)=_;rw[kE,ih,List.replicate_succ,List.flatten_cons]
theorem RWs.rep{ρ:List Addr}{xs:List W}{vs:List V}(r:RWs ρ xs vs):∀ k:Nat,RWs ρ (List.replicate k xs).flatten (List.replicate k vs).flatten
 | 0=>.nil
 | k+1=>by rw[List.replicate_succ,List.replicate_succ,List.flatten_cons,List.flatten_cons];exact r.append (RWs.rep r k)
theorem pM:Op2 cl .mul XX:=fun E ρ h H w1 w2 v1 v2 Q s r1 r2 p=>by
 obtain⟨j,rfl,p⟩:=oI (show Post cl ρ H E (ofW (aag h w1 w2)) (VP Q) from p);cases r2
 cases w1 with
 | int i=>
   obtain⟨c,p⟩:=oIf (show Post cl ρ H E (ofW (ifB (Sml i) (ifB (Sml j) (.ok (.int (i*j)) h) .no) .no)) (VP Q) from p);obtain⟨c2,p⟩:=oIf p;cases r1
   exact .inl ⟨i,j,rfl,rfl,.inr ⟨Ka c,Ka c2⟩,Post.gb s p (.int _)⟩
 | ref n=>
   obtain⟨n,o,a,_,rfl,e1,g1,x1,p⟩:=oAt s r1 (show Post cl ρ H E (ofW (aaf h (.ref n) j)) (VP Q) from p);obtain⟨xs,rfl,p⟩:=oL p;obtain⟨c,p⟩:=oIf p;obtain⟨c2,p⟩:=oIf p;obtain⟨c3,p⟩:=oIf p;rw[cD]at c c2;rw[ble_eq,len_eq]at c3;have c:=of_decide_eq_true c;have c2:=of_decide_eq_true c2;have c3:=of_decide_eq_true c3;obtain⟨vs,rv,q1⟩:=x1;have l:=rv.length;rw[X3]at p;refine .inr ⟨a,j,vs,rfl,rfl,q1,by omega,by omega,?_,fun p' hp=>Post.newL s p hp (rv.rep _)⟩;have:vs.length*j.toNat<=100*100000:=Nat.mul_le_mul (by omega) (by omega)
   rw[m6];omega
 | _=>exact p.elim
theorem aaw{n:Nat}{i:Int}{j:Nat}(h:Vp n i=j)(hj:j<n):ixN n i=some j:=by
 unfold ixN
 cases i with
 | ofNat k=>
   have h:k=j:=h;rw[if_pos (by show(0:Int)<=(k:Int);omega),if_pos (by show(k:Int)<n;omega)]
   exact congrArg some h
 | negSucc k=>
   have h:ifB (Nat.ble (k+1) n) (n - (k+1)) n=j:=h;rw[ble_eq]at h
   by_cases c:k+1<=n
   · rw[decide_eq_true c]at h;have h:n - (k+1)=j:=h;rw[if_neg (by omega),if_pos (by omega)];exact congrArg some (by omega)
   · rw[decide_eq_false c]at h;have h:n=j:=h;omega
theorem S8{vs:List V}{xs:List W}{ρ:List Addr}{i:Int}{w:W}(r:RWs ρ xs vs)(e:nth xs (Vp (len xs) i)=some w):∃ v,atI vs i=some v/\RW ρ w v:=by
 rw[oA,len_eq]at e;obtain⟨v,ev,rv⟩:=r.get e;refine⟨v,?_,rv⟩;unfold atI;have hl:=r.length;have hlt:=(bu ev).1;rw[hl]at ev hlt;rw[aaw rfl hlt];exact ev
theorem ado{K:ak}:Op2 cl .ix (rIx K):=fun E ρ h H w1 w2 v1 v2 Q s r1 r2 p=>by
 obtain⟨n,o,a,rfl,rfl,e1,g1,x1,p⟩:=oAt s r1 (show Post cl ρ H E (ofW (pIx h w1 w2)) (VP Q) from p);obtain⟨xs,e,p1⟩:=oIt p;obtain⟨i,rfl,p2⟩:=oI p1;obtain⟨w,ew,p3⟩:=nZ p2;cases r2
 rcases e with rfl | rfl
 · obtain⟨vs,rv,q⟩:=x1;obtain⟨v,ev,rw⟩:=S8 rv ew;exact .inl ⟨a,vs,i,v,rfl,rfl,SqL.of q,ev,Post.gb s p3 rw⟩
 · obtain⟨vs,rv,q⟩:=x1;obtain⟨v,ev,rw⟩:=S8 rv ew;exact .inr (.inl ⟨a,vs,i,v,rfl,rfl,SqT.of q,ev,Post.gb s p3 rw⟩)
theorem Jk{ρ:List Addr}{ws:List W}{vs:List V}{f:W->R W}{P:A->Hs->List Addr->Hp->Prop}{H:Hp}{E:XK}(r:RWs ρ ws vs)(p:Post cl ρ H E (ofW (iD ws f)) P):∃ w v,ws= [w]/\vs= [v]/\RW ρ w v/\Post cl ρ H E (ofW (f w)) P:=by
 cases r with
 | nil=>exact p.elim
 | cons r1 t=>cases t with
   | nil=>exact⟨_,_,rfl,rfl,r1,p⟩
   | cons _ _=>exact p.elim
theorem CJ{ρ:List Addr}{ws:List W}{vs:List V}{f:W->W->R W}{P:A->Hs->List Addr->Hp->Prop}{H:Hp}{E:XK}(r:RWs ρ ws vs)(p:Post cl ρ H E (ofW (h_ ws f)) P):∃ w v w' v',ws= [w,w']/\vs= [v,v']/\RW ρ w v/\RW ρ w' v'/\Post cl ρ H E (ofW (f w w')) P:=by
 cases r with
 | nil=>exact p.elim
 | cons r1 t=>cases t with
   | nil=>exact p.elim
   | cons r2 t=>cases t with
     | nil=>exact⟨_,_,_,_,rfl,rfl,r1,r2,p⟩
     | cons _ _=>exact p.elim
theorem m7{K:ak}:OpN cl .len (ac_ K):=fun E ρ h H ws vs Q s r p=>by
 obtain⟨w,v,rfl,rfl,r1,p⟩:=Jk r (show Post cl ρ H E (ofW (iD ws (aaj h))) (VP Q) from p);obtain⟨n,o,a,rfl,rfl,e1,g1,x1,p⟩:=oAt s r1 p;obtain⟨xs,e,p⟩:=oIt p;obtain⟨us,ru,q⟩:=x1.sq (K:=K) e;refine⟨a,us,rfl,q,?_⟩;rw[len_eq,ru.length]at p;exact Post.gb s p (.int _)
theorem ab2:OpN cl .tup (fun xs H Q=>xs.length<=sizeLine/\∀ p,H p=none->Q (.ref p) (upd H p (.tup xs))):=fun E ρ h H ws vs Q s r p=>by
 obtain⟨z,p⟩:=CG (show Post cl ρ H E (ofW (size ws (.alloc h (.tup ws)))) (VP Q) from p);have:=r.length;exact⟨by rw[m6];omega,fun p' hp=>Post.Qv s p hp r⟩
theorem ab3:OpN cl .lst (fun xs H Q=>xs.length<=sizeLine/\∀ p,H p=none->Q (.ref p) (upd H p (.lst xs))):=fun E ρ h H ws vs Q s r p=>by
 obtain⟨z,p⟩:=CG (show Post cl ρ H E (ofW (size ws (.alloc h (.lst ws)))) (VP Q) from p);have:=r.length;exact⟨by rw[m6];omega,fun p' hp=>Post.newL s p hp r⟩
theorem aax{K:ak}:OpN cl .list (fun xs H Q=>∃ p ys,xs= [.ref p]/\(SqL K H p ys\/SqT K H p ys)/\∀ l,H l=none->Q (.ref l) (upd H l (.lst ys))):=fun E ρ h H ws vs Q s r p=>by
 obtain⟨w,v,rfl,rfl,r1,p⟩:=Jk r (show Post cl ρ H E (ofW (iD ws (WN h))) (VP Q) from p);obtain⟨n,o,a,rfl,rfl,e1,g1,x1,p⟩:=oAt s r1 p;obtain⟨xs,e,p⟩:=oIt p;obtain⟨us,ru,q⟩:=x1.sq (K:=K) e;exact⟨a,us,rfl,q,fun l hl=>Post.newL s p hl ru⟩
theorem S9{ρ:List Addr}{a b:W}{u v:V}{c:Bool}(ra:RW ρ a u)(rb:RW ρ b v)(e:eqF a b=some c):oO u=true/\oO v=true/\eqV u v=c:=by
 cases ra with
 | non=>cases rb <;> first | (cases e;exact⟨rfl,rfl,rfl⟩) | cases e
 | bl x=>cases e
 | int i=>cases rb with
   | non=>cases e;exact⟨rfl,rfl,rfl⟩
   | int j=>
     have e:some (ieq i j)=some c:=e;cases e;refine⟨rfl,rfl,?_⟩;rw[jn];show(i==j)=_
     by_cases z:i=j
     · subst z;simp
     · rw[decide_eq_false z];exact beq_eq_false_iff_ne.mpr z
   | str x=>cases e;exact⟨rfl,rfl,rfl⟩
   | _=>cases e
 | str x=>cases rb with
   | non=>cases e;exact⟨rfl,rfl,rfl⟩
   | int j=>cases e;exact⟨rfl,rfl,rfl⟩
   | str y=>
     have e:some (codes x y)=some c:=e;cases e;refine⟨rfl,rfl,?_⟩;show(({ cps:=x.toArray }:Str) == { cps:=y.toArray })=_
     cases z:codes x y with
     | true=>rw[cG.mp z];exact beq_self_eq_true _
     | false=>exact beq_eq_false_iff_ne.mpr fun q=>by rw[cG.mpr (sI q)]at z;cases z
   | _=>cases e
 | ref _=>cases e
end
end Ev
namespace Ev
open PySem PySem.Spec PySem.SeqAt PyProof.Rows L2
section
variable{cl:Cn}
theorem N5{ρ:List Addr}{a:W}{v:V}(ra:RW ρ a v):∀ {xs:List W} {vs:List V} {c:Bool},RWs ρ xs vs->Qo a xs=some c->vs.all oO=true/\inV v vs=c
 | _,_,c,.nil,e=>by cases e;exact⟨rfl,rfl⟩
 | x::xs,u::us,c,.cons r t,e=>by
   have e:Option.rec none (fun b=>Option.rec none (fun r=>some (ifB b true r)) (Qo a xs)) (eqF x a)=some c:=e
   cases h1:eqF x a with
   | none=>rw[h1]at e;cases e
   | some b=>
     rw[h1]at e
     cases h2:Qo a xs with
     | none=>rw[h2]at e;cases e
     | some r'=>
       rw[h2]at e;have e:some (ifB b true r')=some c:=e;cases e;obtain⟨f1,f2,f3⟩:=S9 r ra h1;obtain⟨g1,g2⟩:=N5 ra t h2;refine⟨by rw[List.all_cons,f1,g1];rfl,?_⟩;show(eqV u v||inV v us)=_;rw[f3,g2];cases b <;> rfl
theorem WY{K:ak}(neg:Bool){p:Pr}{f:Bool->Bool}(hp:∀ h w1 w2,pI p [w1,w2] h=pIn f h w1 w2)(hf:∀ c:Bool,f c=if neg then !c else c):Op2 cl p (rIn K neg):=fun E ρ h H w1 w2 v1 v2 Q s r1 r2 p=>by
 rw[hp]at p;obtain⟨n,o,a,rfl,rfl,e1,g1,x1,p1⟩:=oAt s r2 p;obtain⟨xs,e,p2⟩:=oIt p1;obtain⟨c0,h0,p3⟩:=nZ p2;obtain⟨c,hc,p4⟩:=nZ p3;obtain⟨us,ru,q⟩:=x1.sq (K:=K) e;obtain⟨f1,_,_⟩:=S9 r1 r1 h0;obtain⟨g1,g2⟩:=N5 r1 ru hc;exact⟨a,us,rfl,q,f1,g1,Post.yes s p4 (by rw[hf,g2])⟩
theorem adp{K:ak}:Op2 cl .in_ (rIn K false):=WY false (f:=id) (fun _ _ _=>rfl) fun _=>rfl
theorem zL{K:ak}:Op2 cl .zH (rIn K true):=WY true (f:=not) (fun _ _ _=>rfl) fun _=>rfl
theorem Kd{ρ:List Addr}:∀ {xs:List W} {vs:List V} {bs:List Bool},RWs ρ xs vs->bools xs=some bs->vs=bs.map V.bl
 | _,_,bs,.nil,e=>by cases e;rfl
 | x::xs,u::us,bs,.cons r t,e=>by
   cases r with
   | bl b=>
     have e:Option.rec none (fun r=>some (b::r)) (bools xs)=some bs:=e
     cases h:bools xs with
     | none=>rw[h]at e;cases e
     | some bs'=>
       rw[h]at e;have e:some (b::bs')=some bs:=e;cases e
       rw[List.map_cons,Kd t h]
   | _=>cases e
theorem X4(bs:List Bool):allB bs=bs.all id:=by
 induction bs with
 | nil=>rfl
 | cons b bs ih=>
   show ifB b (allB bs) false=_;rw[ih,List.all_cons];cases b <;> rfl
theorem aay{p:Pr}{f g:List Bool->Bool}(hp:∀ h ws,pI p ws h=iD ws (Vr f h))(e:∀ bs,f bs=g bs):OpN cl p (Vf g):=fun E ρ h H ws vs Q s r p=>by
 rw[hp]at p;obtain⟨w,v,rfl,rfl,r1,p1⟩:=Jk r p;obtain⟨n,o,a,rfl,rfl,e1,g1,x1,p2⟩:=oAt s r1 p1;obtain⟨xs,rfl,p3⟩:=oL p2;obtain⟨bs,hb,p4⟩:=nZ p3;obtain⟨us,ru,q⟩:=x1;rw[Kd ru hb]at q;exact⟨a,bs,rfl,q,Post.yes s p4 (e bs)⟩
theorem ab4:OpN cl .all (Vf fun bs=>bs.all id):=aay (fun _ _=>rfl) X4
noncomputable def Vu:Nat->String
 | 0=>"int" | 1=>"bool" | 2=>"str" | 3=>"tuple" | _=>"list"
theorem ab5{K:ak}{k:Nat}(hk:k<5):Op1 cl (.isi k) (fun x H Q=>∃ t b,pG K H x t/\PySem.W.kitOne K t (.type (Vu k))=some b/\Q (.bl b) H):=fun E ρ h H w1 v1 Q s r1 p=>by
 have p:Post cl ρ H E (ofW (aam k h w1)) (VP Q):=p;have five:k=0\/k=1\/k=2\/k=3\/k=4:=by omega
 cases r1 with
 | non=>exact⟨_,false,.non,by rcases five with rfl | rfl | rfl | rfl | rfl <;> rfl,Post.yes s p rfl⟩
 | bl b=>exact⟨_,ifB (Nat.beq k 0) true (Nat.beq k 1),.bl b,by rcases five with rfl | rfl | rfl | rfl | rfl <;> rfl,Post.yes s p rfl⟩
 | int i=>exact⟨_,Nat.beq k 0,.int i,by rcases five with rfl | rfl | rfl | rfl | rfl <;> rfl,Post.yes s p rfl⟩
 | str c=>exact⟨_,Nat.beq k 2,.str _,by rcases five with rfl | rfl | rfl | rfl | rfl <;> rfl,Post.yes s p rfl⟩
 | @ref n a q=>
   obtain⟨o,e,p1⟩:=nZ (show Post cl ρ H E (ofW (Opt (h.get n) fun o=>Opt (WQ o) fun c=>.yes (Nat.beq k c) h)) (VP Q) from p);obtain⟨c,ec,p2⟩:=nZ p1;have x:=s.at q e
   cases o with
   | tup xs=>
     cases ec
     exact⟨_,Nat.beq k 3,.tup x.choose_spec.2,by rcases five with rfl | rfl | rfl | rfl | rfl <;> rfl,Post.yes s p2 rfl⟩
   | lst xs=>
     cases ec
     exact⟨_,Nat.beq k 4,.lst x.choose_spec.2,by rcases five with rfl | rfl | rfl | rfl | rfl <;> rfl,Post.yes s p2 rfl⟩
   | _=>cases ec
noncomputable def OpM(cl:Cn)(p:Pr)(r:V->List V->Hp->VK->Prop):Prop:=∀(E:XK) (ρ:List Addr) (h:Hs) (H:Hp) (w:W) (v:V) (ws:List W) (vs:List V) (Q:VK),Sim cl ρ h H->RW ρ w v->RWs ρ ws vs->Post cl ρ H E (ofW (pI p (w::ws) h)) (VP Q)->r v vs H Q
theorem sO:OpM cl .append Nq:=fun E ρ h H w v ws vs Q s r rs p=>by
 obtain⟨w1,v1,w2,v2,e,e',r1,r2,p1⟩:=CJ (.cons r rs) (show Post cl ρ H E (ofW (h_ (w::ws) (vm h))) (VP Q) from p);cases e;cases e';obtain⟨n,o,a,rfl,rfl,e1,g1,x1,p2⟩:=oAt s r1 p1;obtain⟨xs,rfl,p3⟩:=oL p2;obtain⟨z,p4⟩:=CG p3;obtain⟨us,ru,q⟩:=x1;have hl:=ru.length;rw[kE]at p4;exact⟨a,us,v2,rfl,rfl,q,by rw[m6];omega,Post.putL s p4 e1 (ru.append (.cons r2 .nil)) .non⟩
theorem Vv:OpM cl .extend Nr:=fun E ρ h H w v ws vs Q s r rs p=>by
 obtain⟨w1,v1,w2,v2,e,e',r1,r2,p1⟩:=CJ (.cons r rs) (show Post cl ρ H E (ofW (h_ (w::ws) (NK h))) (VP Q) from p);cases e;cases e';obtain⟨n,o,a,rfl,rfl,e1,g1,x1,p2⟩:=oAt s r1 p1;obtain⟨xs,rfl,p3⟩:=oL p2;obtain⟨m,o2,b,rfl,rfl,e2,g2,x2,p4⟩:=oAt s r2 p3;obtain⟨ys,rfl,p5⟩:=oL p4;obtain⟨z,p6⟩:=CG p5;obtain⟨us,ru,q⟩:=x1;obtain⟨us2,ru2,q2⟩:=x2;have hl:=ru.length;have hl2:=ru2.length;rw[kE]at p6 z;rw[List.length_append]at z;exact⟨a,b,us,us2,rfl,rfl,q,q2,by rw[m6];omega,Post.putL s p6 e1 (ru.append ru2) .non⟩
theorem ab6{ρ:List Addr}{w:W}{ws:List W}{vs:List V}{f:W->R W}{P:A->Hs->List Addr->Hp->Prop}{H:Hp}{E:XK}(rs:RWs ρ ws vs)(p:Post cl ρ H E (ofW (iD (w::ws) f)) P):vs= []/\Post cl ρ H E (ofW (f w)) P:=by
 cases rs with
 | nil=>exact⟨rfl,p⟩
 | cons _ _=>exact p.elim
theorem ab7:OpM cl .pop ZS:=fun E ρ h H w v ws vs Q s r rs p=>by
 obtain⟨rfl,p1⟩:=ab6 rs (show Post cl ρ H E (ofW (iD (w::ws) (aak h))) (VP Q) from p);obtain⟨n,o,a,rfl,rfl,e1,g1,x1,p2⟩:=oAt s r p1;obtain⟨xs,rfl,p3⟩:=oL p2;obtain⟨y,ey,p4⟩:=nZ p3;obtain⟨us,ru,q⟩:=x1;rw[last_eq,List.getLast?_eq_getElem?]at ey;obtain⟨u,eu,rw⟩:=ru.get ey;rw[XR]at p4;exact⟨a,us,u,rfl,rfl,q,by rw[<- ru.length];exact eu,Post.putL s p4 e1 ru.init rw⟩
theorem ab8:OpN cl .min (fun xs H Q=>∃ i j,xs= [.int i,.int j]/\Q (.int (if j<i then j else i)) H):=fun E ρ h H ws vs Q s r p=>by
 obtain⟨w1,v1,w2,v2,rfl,rfl,r1,r2,p1⟩:=CJ r (show Post cl ρ H E (ofW (h_ ws fun a b=>a.onI fun i=>b.onI fun j=>Vo h i j)) (VP Q) from p);obtain⟨i,rfl,p2⟩:=oI p1;obtain⟨j,rfl,p3⟩:=oI p2;cases r1;cases r2;refine⟨i,j,rfl,?_⟩
 have e:ifB (ilt j i) j i=if j<i then j else i:=by
  rw[cD]
  by_cases z:j<i
  · rw[decide_eq_true z,if_pos z];rfl
  · rw[decide_eq_false z,if_neg z];rfl
 unfold Vo at p3;rw[e]at p3;exact Post.gb s p3 (.int _)
theorem X5{K:ak}{E:XK}{ρ:List Addr}{h:Hs}{H:Hp}{w:W}{v:V}{Q:VK}(s:Sim cl ρ h H)(r:RW ρ w v)(p:Post cl ρ H E (ofW (pI .truth [w] h)) (VP Q)):∃ k,Pk K v H k/\Q (.bl k) H:=by
 have p:Post cl ρ H E (ofW (SX h w)) (VP Q):=p
 cases r with
 | non=>exact⟨false,rfl,Post.yes s p rfl⟩
 | bl b=>exact⟨b,rfl,Post.yes s p rfl⟩
 | int i=>
   refine⟨i != 0,rfl,Post.yes s p ?_⟩;rw[jn]
   by_cases z:i=0
   · subst z;rfl
   · rw[decide_eq_false z];exact(bne_iff_ne.mpr z).symm
 | str c=>exact p.elim
 | @ref n a q=>
   obtain⟨n,o,a',e0,e0',e1,g1,x1,p1⟩:=oAt s (.ref q) (show Post cl ρ H E (ofW (h.at (.ref n) fun _ o=>o.items fun xs=>.yes (Vq xs) h)) (VP Q) from p);cases e0;cases e0';obtain⟨xs,e,p2⟩:=oIt p1;have ne:∀ {vs:List V},RWs ρ xs vs->Vq xs= !vs.isEmpty:=fun r=>by cases r <;> rfl
   rcases e with rfl | rfl
   · obtain⟨us,ru,q2⟩:=x1;exact⟨_,.inl ⟨us,SqL.of q2,rfl⟩,Post.yes s p2 (ne ru)⟩
   · obtain⟨us,ru,q2⟩:=x1;exact⟨_,.inr (.inl ⟨us,SqT.of q2,rfl⟩),Post.yes s p2 (ne ru)⟩
mutual
noncomputable def pd:D->PyData
 | .non=>.none | .bl b=>.bool b | .int i=>.int i | .str c=>.str ⟨c.toArray⟩ | .lst xs=>.list (pds xs) | .tup xs=>.tuple (pds xs)
noncomputable def pds:List D->List PyData
 | []=>[]
 | x::xs=>pd x::pds xs
end
theorem Jl(i j:Int):(i==j)=ieq i j:=by
 rw[jn]
 by_cases z:i=j
 · subst z;simp
 · rw[decide_eq_false z];exact beq_eq_false_iff_ne.mpr z
theorem W0(x y:List Nat):(({ cps:=x.toArray }:Str) == { cps:=y.toArray })=codes x y:=by
 cases z:codes x y with
 | true=>rw[cG.mp z];exact beq_self_eq_true _
 | false=>exact beq_eq_false_iff_ne.mpr fun q=>by rw[cG.mpr (sI q)]at z;cases z
mutual
theorem Ke:∀ a b:D,PyData.eqv (pd a) (pd b)=cR a b
 | .non,b=>by cases b <;> simp only[pd,PyData.eqv,cR]
 | .bl x,b=>by cases b <;> simp only[pd,PyData.eqv,cR,Jl]
 | .int x,b=>by cases b <;> simp only[pd,PyData.eqv,cR,Jl]
 | .str x,b=>by cases b <;> simp only[pd,PyData.eqv,cR,W0]
 | .lst xs,b=>by
   cases b <;> simp only[pd,PyData.eqv,cR]
   exact EY xs _
 | .tup xs,b=>by
   cases b <;> simp only[pd,PyData.eqv,cR];exact EY xs _
theorem EY:∀ a b:List D,PyData.eqvAll (pds a) (pds b)=sH a b
 | [],b=>by cases b <;> simp only[pds,PyData.eqvAll,sH]
 | x::xs,b=>by
   cases b with
   | nil=>simp only[pds,PyData.eqvAll,sH]
   | cons y ys=>simp only[pds,PyData.eqvAll,sH,Ke x y,EY xs ys]
end
theorem aaz:∀ c:List Nat,okC c=true->PySem.PyData.canLay0 (.str ⟨c.toArray⟩)=true:=fun c h=>by
 have:∀ x ∈ c,x<1114112:=by
  induction c with
  | nil=>intro x hx;cases hx
  | cons y c ih=>
    have h:ifB (Nat.ble (y+1) 1114112) (okC c) false=true:=h;rw[ble_eq]at h
    by_cases z:y+1<=1114112
    · rw[decide_eq_true z]at h;intro x hx
      rcases List.mem_cons.mp hx with rfl | hx
      · omega
      · exact ih h x hx
    · rw[decide_eq_false z]at h;cases h
 simp only[PyData.canLay0]
 first | (unfold PyData.strOk;simpa using this) | simpa [PySem.strOk] using this
theorem vz{ρ:List Addr}{h:Hs}{H:Hp}(s:Sim cl ρ h H):∀(n:Nat) {w:W} {v:V} {dd:D},RW ρ w v->toD h n w=some dd->Rep H v (pd dd)/\(pd dd).canLay0=true/\(pd dd).depth<=n
 | 0,_,_,_,_,e=>nomatch e
 | n+1,w,v,dd,r,e=>by
   have all:∀ {xs:List W} {vs:List V} {ds:List D},RWs ρ xs vs->lM (toD h n) xs=some ds->fZ H vs (pds ds)/\PyData.canLayAll0 (pds ds)=true/\PyData.depthAll (pds ds)<=n:=by
    intro xs
    induction xs with
    | nil=>
      intro vs ds r e;cases r;cases e
      exact⟨.nil,by simp only[pds,PyData.canLayAll0],by simp only[pds,PyData.depthAll];omega⟩
    | cons x xs ih=>
      intro vs ds r e
      cases r with
      | cons r1 t=>
        have e:Option.rec none (fun d=>Option.rec none (fun ds=>some (d::ds)) (lM (toD h n) xs)) (toD h n x)=some ds:=e
        cases h1:toD h n x with
        | none=>rw[h1]at e;cases e
        | some d1=>
          rw[h1]at e
          cases h2:lM (toD h n) xs with
          | none=>rw[h2]at e;cases e
          | some ds2=>
            rw[h2]at e;have e:some (d1::ds2)=some ds:=e;cases e;obtain⟨a1,a2,a3⟩:=vz s n r1 h1;obtain⟨b1,b2,b3⟩:=ih t h2;refine⟨.cons a1 b1,?_,?_⟩
            · simp only[pds,PyData.canLayAll0,a2,b2];rfl
            · simp only[pds,PyData.depthAll];omega
   cases r with
   | non=>cases e;exact⟨.non,by simp only[pd,PyData.canLay0],by simp only[pd,PyData.depth];omega⟩
   | bl b=>cases e;exact⟨.bl b,by simp only[pd,PyData.canLay0],by simp only[pd,PyData.depth];omega⟩
   | int i=>cases e;exact⟨.int i,by simp only[pd,PyData.canLay0],by simp only[pd,PyData.depth];omega⟩
   | str c=>
     have e:ifB (okC c) (some (D.str c)) none=some dd:=e
     cases z:okC c with
     | false=>rw[z]at e;cases e
     | true=>
       rw[z]at e;cases e
       exact⟨.str _,aaz c z,by simp only[pd,PyData.depth];omega⟩
   | @ref k a q=>
     cases hg:h.get k with
     | none=>
       have:toD h (n+1) (.ref k)=none:=by
        show Option.rec (motive:=fun _=>Option D) none _ (h.get k)=none;rw[hg]
       rw[this]at e;cases e
     | some o=>
       have x:=s.at q hg
       cases o with
       | tup xs=>
         have:toD h (n+1) (.ref k)=Option.rec none (fun ds=>some (D.tup ds)) (lM (toD h n) xs):=by
          show Option.rec (motive:=fun _=>Option D) none _ (h.get k)=_;rw[hg];rfl
         rw[this]at e
         cases h2:lM (toD h n) xs with
         | none=>rw[h2]at e;cases e
         | some ds=>
           rw[h2]at e;have e:some (D.tup ds)=some dd:=e;cases e;obtain⟨vs,rv,qq⟩:=x;obtain⟨b1,b2,b3⟩:=all rv h2
           exact⟨.tup qq b1,by simp only[pd,PyData.canLay0];exact b2,by simp only[pd,PyData.depth];omega⟩
       | lst xs=>
         have:toD h (n+1) (.ref k)=Option.rec none (fun ds=>some (D.lst ds)) (lM (toD h n) xs):=by
          show Option.rec (motive:=fun _=>Option D) none _ (h.get k)=_;rw[hg];rfl
         rw[this]at e
         cases h2:lM (toD h n) xs with
         | none=>rw[h2]at e;cases e
         | some ds=>
           rw[h2]at e;have e:some (D.lst ds)=some dd:=e;cases e;obtain⟨vs,rv,qq⟩:=x;obtain⟨b1,b2,b3⟩:=all rv h2
           exact⟨.lst qq b1,by simp only[pd,PyData.canLay0];exact b2,by simp only[pd,PyData.depth];omega⟩
       | _=>
         have:toD h (n+1) (.ref k)=none:=by
          show Option.rec (motive:=fun _=>Option D) none _ (h.get k)=none;rw[hg]
         rw[this]at e;cases e
theorem G8{d:PyData}(h1:d.canLay0=true)(h2:d.depth<=12):shaped d=true:=by
 unfold shaped;rw[h1,decide_eq_true (by omega)];rfl
theorem W2{p:Pr}{f:Bool->Bool}(hp:∀ h w1 w2,pI p [w1,w2] h=pEq f h w1 w2):Op2 cl p (fun x y H Q=>∃ dx dy,Rep H x dx/\Rep H y dy/\shaped dx=true/\shaped dy=true/\Q (.bl (f (PyData.eqv dx dy))) H):=fun E ρ h H w1 w2 v1 v2 Q s r1 r2 p=>by
 rw[hp]at p;obtain⟨x,ex,p1⟩:=nZ p;obtain⟨y,ey,p2⟩:=nZ p1;obtain⟨a1,a2,a3⟩:=vz s 12 r1 ex;obtain⟨b1,b2,b3⟩:=vz s 12 r2 ey;exact⟨_,_,a1,b1,G8 a2 a3,G8 b2 b3,Post.yes s p2 (by rw[Ke])⟩
theorem ju:Op2 cl .eq Z1:=W2 (f:=id) fun _ _ _=>rfl
theorem Vw:Op2 cl .ne Z2:=W2 (f:=not) fun _ _ _=>rfl
mutual
theorem X6:∀ a b:D,PySem.Spec.same (pd a) (pd b)=jC a b
 | .non,b=>by cases b <;> simp only[pd,PySem.Spec.same,jC]
 | .bl x,b=>by cases b <;> simp only[pd,PySem.Spec.same,jC]
 | .int x,b=>by cases b <;> simp only[pd,PySem.Spec.same,jC,Jl]
 | .str x,b=>by cases b <;> simp only[pd,PySem.Spec.same,jC,W0]
 | .lst xs,b=>by
   cases b <;> simp only[pd,PySem.Spec.same,jC]
   exact Bk xs _
 | .tup xs,b=>by
   cases b <;> simp only[pd,PySem.Spec.same,jC];exact Bk xs _
theorem Bk:∀ a b:List D,PySem.Spec.sameAll (pds a) (pds b)=ou a b
 | [],b=>by cases b <;> simp only[pds,PySem.Spec.sameAll,ou]
 | x::xs,b=>by
   cases b with
   | nil=>simp only[pds,PySem.Spec.sameAll,ou]
   | cons y ys=>simp only[pds,PySem.Spec.sameAll,ou,X6 x y,Bk xs ys]
end
end
section
variable{Pg:List Fn}{cl:Cn}{E:XK}{d:Nat}{X:Cx}{σ:L2.St}{H:Hp}
theorem aG{op:Operator}{p:Pr}{r:R2}{a b:Expr}{x y:Ev.X}{pos:Pos}(z:Op2 cl p r)(o:OpR X (binaryOp op) r)(ha:PE X a (tE Pg cl E d x))(hb:PE X b (tE Pg cl E d y)):PE X (.BinOp a op b pos) (tE Pg cl E d (.pr p [x,y])):=
 PE.of (eU o ha hb) fun _ _ _ q=>vq z q
theorem Qx{op:UnaryOp}{p:Pr}{r:V->Hp->VK->Prop}{a:Expr}{x:Ev.X}{pos:Pos}(z:Op1 cl p r)(o:UnR X (unaryOp op) r)(ha:PE X a (tE Pg cl E d x)):PE X (.UnaryOp op a pos) (tE Pg cl E d (.pr p [x])):=
 PE.of (abN o ha) fun _ _ _ q=>pL z q
theorem vA{op:CmpOp}{p:Pr}{r:R2}{a b:Expr}{x y:Ev.X}{pos:Pos}(z:Op2 cl p r)(o:OpR X (compareOp op) r)(ha:PE X a (tE Pg cl E d x))(hb:PE X b (tE Pg cl E d y))(hm:behindInMarks op b=false):PE X (.Compare a [op] [b] pos) (tE Pg cl E d (.pr p [x,y])):=
 PE.of (Xp o ha hb hm) fun _ _ _ q=>vq z q
theorem bh{op:CmpOp}{p:Pr}{r:R2}{a b:Expr}{x y:Ev.X}{pos:Pos}(z:Op2 cl p r)(o:OpR X (compareOp op) r)(ha:PE X a (tE Pg cl E d x))(hb:PE X b (tE Pg cl E d y))(hm:behindInMarks op b=false):PT X (.Compare a [op] [b] pos) (tT Pg cl E d (.pr p [x,y])):=
 PT.of (qp o ha hb hm) fun _ _ _ q=>vq z q
theorem aaA{a:Expr}{x:Ev.X}{pos pos' j}(ha:PE X a (tE Pg cl E d x)):PE X (.Compare a [.Is] [.Constant .none j pos'] pos) (tE Pg cl E d (.pr .isN [x])):=PE.of (Ze (RK ha)) fun _ _ _ q=>pL WX q
theorem aaB{a:Expr}{x:Ev.X}{pos pos' j}(ha:PE X a (tE Pg cl E d x)):PT X (.Compare a [.Is] [.Constant .none j pos'] pos) (tT Pg cl E d (.pr .isN [x])):=PT.of (Jy (RK ha)) fun _ _ _ q=>pL WX q
theorem N6{a:Expr}{x:Ev.X}{pos pos' j}(ha:PE X a (tE Pg cl E d x)):PT X (.Compare a [.IsNot] [.Constant .none j pos'] pos) (tT Pg cl E d (.pr .Qq [x])):=PT.of (Jy (Nf ha)) fun _ _ _ q=>pL aav q
theorem Kf{a:Expr}{x:Ev.X}{pos}(ha:PT X a (tT Pg cl E d x)):PT X (.UnaryOp .Not a pos) (tT Pg cl E d (.pr .v9 [x])):=PT.of (RL ha) fun σ H Q q=>by
 obtain⟨ρ,τ,h,n,s,r,p⟩:=(show tE Pg cl E d x σ H (fun v H1=>∃ c,v= .bl c/\∃ b,V.bl (!c)= .bl b/\Q b H1) from pL S7 q);refine⟨ρ,τ,h,n,s,r,p.mono fun a h ρ H _ _ ⟨w,e,g⟩=>⟨w,e,fun v rv=>?_⟩⟩;obtain⟨c,ec,b,eb,qb⟩:=g v rv;cases eb;exact⟨c,ec,qb⟩
theorem jZ{a:Expr}{x:Ev.X}(ha:PE X a (tE Pg cl E d x))(he:∀ whole,isTrue a X.env whole=(do let v <- whole;standAt a.pos;holding [v] (truthy v))):PT X a (tT Pg cl E d (.pr .truth [x])):=PT.of (JG ha he) fun σ H Q q=>
 pL (r:=fun v H1 Q'=>∃ k,Pk X.K v H1 k/\Q' (.bl k) H1) (fun E ρ h H w v Q s r p=>X5 s r p) q |> fun z=>by
 obtain⟨ρ,τ,h,n,s,r,p⟩:=z;refine⟨ρ,τ,h,n,s,r,p.mono fun a h ρ H _ _ ⟨w,e,g⟩=>⟨w,e,fun v rv=>?_⟩⟩;obtain⟨k,t,b,eb,qb⟩:=g v rv;cases eb;exact⟨k,t,qb⟩
theorem S_{a b:Ev.X}{Q:VK}(x:tE Pg cl E d (.and a b) σ H Q):Wr (tE Pg cl E d a) (tE Pg cl E d b) σ H Q:=by
 obtain⟨ρ,τ,h,n,s,rs,q⟩:=x.step;refine ev.then s rs (show Post cl ρ H E ((evs Pg n d (.x a) τ h).bind fun r h=>r.toW fun w=>w.onB (.ok (.w (.bl false)) h) (evs Pg n d (.x b) τ h)) (VP Q) from q) fun a1 h1 ρ1 H1 b1 s1 p1=>?_;obtain⟨w,rfl,p2⟩:=bR p1;refine⟨w,rfl,fun v rv=>?_⟩
 rcases vo p2 with ⟨rfl,p3⟩ | ⟨rfl,p3⟩
 · cases rv;exact⟨true,rfl,vV ⟨ρ1,τ,h1,n,s1,rs.mono b1.1,p3⟩⟩
 · cases rv;exact⟨false,rfl,vU (Post.gb s1 p3 (.bl false))⟩
theorem ab9{a b:Ev.X}{Q:VK}(x:tE Pg cl E d (.or a b) σ H Q):acU (tE Pg cl E d a) (tE Pg cl E d b) σ H Q:=by
 obtain⟨ρ,τ,h,n,s,rs,q⟩:=x.step;refine ev.then s rs (show Post cl ρ H E ((evs Pg n d (.x a) τ h).bind fun r h=>r.toW fun w=>w.onB (evs Pg n d (.x b) τ h) (.ok (.w (.bl true)) h)) (VP Q) from q) fun a1 h1 ρ1 H1 b1 s1 p1=>?_;obtain⟨w,rfl,p2⟩:=bR p1;refine⟨w,rfl,fun v rv=>?_⟩
 rcases vo p2 with ⟨rfl,p3⟩ | ⟨rfl,p3⟩
 · cases rv;exact⟨true,rfl,vV (Post.gb s1 p3 (.bl true))⟩
 · cases rv;exact⟨false,rfl,vU ⟨ρ1,τ,h1,n,s1,rs.mono b1.1,p3⟩⟩
theorem sS{a b:Expr}{rest:List Expr}{x y:Ev.X}{pos:Pos}(ha:PE X a (tE Pg cl E d x))(hb:PE X (.BoolOp .And (b::rest) pos) (tE Pg cl E d y)):PE X (.BoolOp .And (a::b::rest) pos) (tE Pg cl E d (.and x y)):=PE.of (Zh ha hb) fun _ _ _ q=>S_ q
theorem X7{a b:Ev.X}{Q:Bool->Hp->Prop}(x:tT Pg cl E d (.and a b) σ H Q):Zg (tT Pg cl E d a) (tT Pg cl E d b) σ H Q:=by
 obtain⟨ρ,τ,h,n,s,r,p⟩:=(show tE Pg cl E d a σ H (fun v H1=>∃ c,v= .bl c/\if c=true then tT Pg cl E d b σ H1 Q else ∃ b,V.bl false= .bl b/\Q b H1) from S_ x);refine⟨ρ,τ,h,n,s,r,p.mono fun a h ρ H _ _ ⟨w,e,g⟩=>⟨w,e,fun v rv=>?_⟩⟩;obtain⟨c,ec,q⟩:=g v rv;refine⟨c,ec,?_⟩
 cases c with
 | true=>exact q
 | false=>
   obtain⟨b,eb,q⟩:=(show ∃ b,V.bl false= .bl b/\Q b H from q);cases eb;exact q
theorem aaC{a b:Ev.X}{Q:Bool->Hp->Prop}(x:tT Pg cl E d (.or a b) σ H Q):tOr (tT Pg cl E d a) (tT Pg cl E d b) σ H Q:=by
 obtain⟨ρ,τ,h,n,s,r,p⟩:=(show tE Pg cl E d a σ H (fun v H1=>∃ c,v= .bl c/\if c=true then ∃ b,V.bl true= .bl b/\Q b H1 else tT Pg cl E d b σ H1 Q) from ab9 x);refine⟨ρ,τ,h,n,s,r,p.mono fun a h ρ H _ _ ⟨w,e,g⟩=>⟨w,e,fun v rv=>?_⟩⟩;obtain⟨c,ec,q⟩:=g v rv;refine⟨c,ec,?_⟩
 cases c with
 | false=>exact q
 | true=>
   obtain⟨b,eb,q⟩:=(show ∃ b,V.bl true= .bl b/\Q b H from q);cases eb;exact q
theorem vB{a b:Expr}{rest:List Expr}{x y:Ev.X}{pos:Pos}(ha:PT X a (tT Pg cl E d x))(hb:PW X (.BoolOp .And (b::rest) pos) (tT Pg cl E d y)):PW X (.BoolOp .And (a::b::rest) pos) (tT Pg cl E d (.and x y)):=PW.of (pw_and ha hb) fun _ _ _ q=>X7 q
theorem uo{a b:Expr}{rest:List Expr}{x y:Ev.X}{pos:Pos}(ha:PT X a (tT Pg cl E d x))(hb:PW X (.BoolOp .Or (b::rest) pos) (tT Pg cl E d y)):PW X (.BoolOp .Or (a::b::rest) pos) (tT Pg cl E d (.or x y)):=PW.of (pw_or ha hb) fun _ _ _ q=>aaC q
theorem aaD{c a b:Ev.X}{Q:VK}(x:tE Pg cl E d (.ite c a b) σ H Q):tIf (tT Pg cl E d c) (tE Pg cl E d a) (tE Pg cl E d b) σ H Q:=by
 obtain⟨ρ,τ,h,n,s,rs,q⟩:=x.step;refine ev.then s rs (show Post cl ρ H E ((evs Pg n d (.x c) τ h).bind fun r h=>r.toW fun w=>w.onB (evs Pg n d (.x b) τ h) (evs Pg n d (.x a) τ h)) (VP Q) from q) fun a1 h1 ρ1 H1 b1 s1 p1=>?_;obtain⟨w,rfl,p2⟩:=bR p1;refine⟨w,rfl,fun v rv=>?_⟩
 rcases vo p2 with ⟨rfl,p3⟩ | ⟨rfl,p3⟩
 · cases rv;exact⟨true,rfl,vV ⟨ρ1,τ,h1,n,s1,rs.mono b1.1,p3⟩⟩
 · cases rv;exact⟨false,rfl,vU ⟨ρ1,τ,h1,n,s1,rs.mono b1.1,p3⟩⟩
theorem CK(n d:Nat)(o:Option Int):sIx n d o=HT.sIx n d o:=by
 cases o with
 | none=>rfl
 | some i=>cases i with
   | ofNat k=>
     show ifB (Nat.ble k n) k n=if(Int.ofNat k)<0 then((Int.ofNat k)+(n:Int)).toNat else min (Int.ofNat k).toNat n;rw[if_neg (by show ¬ (k:Int)<0;omega),ble_eq];show _=min k n
     by_cases c:k<=n
     · rw[decide_eq_true c,Nat.min_eq_left c];rfl
     · rw[decide_eq_false c,Nat.min_eq_right (by omega)];rfl
   | negSucc k=>
     show n - (k+1)=if(Int.negSucc k)<0 then((Int.negSucc k)+(n:Int)).toNat else min (Int.negSucc k).toNat n;rw[if_pos (by omega)];omega
noncomputable def tO(o:Option Ev.X)(Pg:List Fn)(cl:Cn)(E:XK)(d:Nat):TO:=match o with
 | none=>Nm
 | some e=>Wv (tE Pg cl E d e)
theorem E_:PO X none (tO none Pg cl E d):=En
theorem Fb{e:Expr}{x:Ev.X}(h:PE X e (tE Pg cl E d x)):PO X (some e) (tO (some x) Pg cl E d):=Eo h
theorem N7{e:Option Ev.X}{ρ:List Addr}{τ:Sg}{h:Hs}{n:Nat}{k:Option Int->Hs->R A}{P:A->Hs->List Addr->Hp->Prop}{Q:Option Int->Hp->Prop}(s:Sim cl ρ h H)(rs:RS ρ τ σ)(p:Post cl ρ H E (Bf (a_ Pg d) n e τ h k) P)
 (g:∀ i h1 ρ1 H1,Bt cl ρ H ρ1 H1->Sim cl ρ1 h1 H1->Post cl ρ1 H1 E (k i h1) P->Q i H1):tO e Pg cl E d σ H Q:=by
 cases e with
 | none=>exact g none h ρ H Bt.refl s p
 | some e=>
   refine ev.then s rs (show Post cl ρ H E ((evs Pg n d (.x e) τ h).bind fun a h=>a.toW fun w=>w.onI fun i=>k (some i) h) P from p) fun a1 h1 ρ1 H1 b1 s1 p1=>?_;obtain⟨w,rfl,p2⟩:=bR p1;obtain⟨i,rfl,p3⟩:=sJ p2;refine⟨_,rfl,fun v rv=>?_⟩;cases rv;exact⟨i,rfl,g (some i) h1 ρ1 H1 b1 s1 p3⟩
noncomputable def aaE(K:ak):V->Option Int->Option Int->Hp->VK->Prop:=fun x lo hi H Q=>ZM K x lo hi H Q\/Zy K x lo hi H Q
theorem Vx{K:ak}{a:Ev.X}{lo hi:Option Ev.X}{Q:VK}(x:tE Pg cl E d (.slice a lo hi) σ H Q):tSl (aaE K) (tE Pg cl E d a) (tO lo Pg cl E d) (tO hi Pg cl E d) σ H Q:=by
 obtain⟨ρ,τ,h,n,s,rs,z⟩:=x.step
 refine ev.then s rs (show Post cl ρ H E ((evs Pg n d (.x a) τ h).bind fun r h=>r.toW fun w=>Bf (a_ Pg d) n lo τ h fun l h=>Bf (a_ Pg d) n hi τ h fun u h=>h.at w fun _ o=>
  O.rec (fun xs=>ifB (ifB (Nat.beq (sIx (len xs) 0 l) 0) (Nat.beq (sIx (len xs) (len xs) u) (len xs)) false) .no (ofW (.alloc h (.tup (tak (drp xs (sIx (len xs) 0 l)) (sIx (len xs) (len xs) u - sIx (len xs) 0 l)))))) (fun xs=>ofW (.alloc h (.lst (tak (drp xs (sIx (len xs) 0 l)) (sIx (len xs) (len xs) u - sIx (len xs) 0 l))))) (fun _ _=>.no) (fun _=>.no) (fun _=>.no) (fun _=>.no) o) (VP Q) from z) fun a1 h1 ρ1 H1 b1 s1 p1=>?_
 obtain⟨w,rfl,p2⟩:=bR p1;refine⟨w,rfl,fun v rv=>?_⟩;refine N7 s1 (rs.mono b1.1) p2 fun l h2 ρ2 H2 b2 s2 p3=>?_;refine N7 s2 ((rs.mono b1.1).mono b2.1) p3 fun u h3 ρ3 H3 b3 s3 p4=>?_;obtain⟨k,o,ad,_,rfl,e1,g1,x1,p5⟩:=at_of s3 (rv.mono (b2.1.trans b3.1)) p4
 cases o with
 | lst xs=>
   obtain⟨vs,ru,q⟩:=x1;have p6:Post cl ρ3 H3 E (ofW (.alloc h3 (.lst (tak (drp xs (sIx (len xs) 0 l)) (sIx (len xs) (len xs) u - sIx (len xs) 0 l))))) (VP Q):=p5;rw[J6,J0,len_eq,CK,CK,ru.length]at p6
   exact .inl ⟨ad,vs,rfl,SqL.of q,fun p hp=>Post.newL s3 p6 hp ((ru.drop _).take _)⟩
 | tup xs=>
   obtain⟨vs,ru,q⟩:=x1;have p6:Post cl ρ3 H3 E (ifB (ifB (Nat.beq (sIx (len xs) 0 l) 0) (Nat.beq (sIx (len xs) (len xs) u) (len xs)) false) .no (ofW (.alloc h3 (.tup (tak (drp xs (sIx (len xs) 0 l)) (sIx (len xs) (len xs) u - sIx (len xs) 0 l)))))) (VP Q):=p5;rw[J6,J0,len_eq,CK,CK,ru.length]at p6;refine .inr ⟨ad,vs,rfl,SqT.of q,?_,fun p hp=>?_⟩
   · rintro⟨c1,c2⟩;rw[ie.mpr c1,ie.mpr c2]at p6;exact p6.elim
   · cases c:ifB (Nat.beq (HT.sIx vs.length 0 l) 0) (Nat.beq (HT.sIx vs.length vs.length u) vs.length) false with
     | true=>rw[c]at p6;exact p6.elim
     | false=>rw[c]at p6;exact Post.Qv s3 p6 hp ((ru.drop _).take _)
 | _=>exact p5.elim
theorem Bl{e:Expr}{lo hi:Option Expr}{x:Ev.X}{xl xh:Option Ev.X}{pos p2:Pos}(he:PE X e (tE Pg cl E d x))(hl:PO X lo (tO xl Pg cl E d))(hh:PO X hi (tO xh Pg cl E d)):PE X (.Subscript e (.Slice lo hi none p2) pos) (tE Pg cl E d (.slice x xl xh)):=
 PE.of (Ba (Es.or Zz) he hl hh) fun _ _ _ q=>Vx q
theorem fB{a b:Expr}{x y:Ev.X}{pos:Pos}(ha:PE X a (tE Pg cl E d x))(hb:PE X b (tE Pg cl E d y))(hs:Er b:=by exact fun _ _=>rfl):PE X (.Subscript a b pos) (tE Pg cl E d (.pr .ix [x,y])):=
 PE.of (Ck ZL ha hb hs) fun _ _ _ q=>vq ado q
theorem eX{es:List Expr}{xs:List Ev.X}{x1 pos}(h:PA X es (tA Pg cl E d xs)):PE X (.Tuple es x1 pos) (tE Pg cl E d (.pr .tup xs)):=PE.of (u_ h) fun _ _ _ q=>Ez ab2 q
theorem cY{es:List Expr}{xs:List Ev.X}{pos}(h:PA X es (tA Pg cl E d xs)):PE X (.List es pos) (tE Pg cl E d (.pr .lst xs)):=PE.of (vd h) fun _ _ _ q=>Ez ab3 q
theorem N8{K:ak}{p:Pr}{r:V->List V->Hp->VK->Prop}(o:OpM cl p r){a:Ev.X}{as:List Ev.X}{Q:VK}(x:tE Pg cl E d (.lm p a as) σ H Q):tBM K "list" r (tE Pg cl E d a) (tA Pg cl E d as) σ H Q:=by
 obtain⟨ρ,τ,h,n,s,rs,q⟩:=x.step;refine ev.then s rs (show Post cl ρ H E ((evs Pg n d (.x a) τ h).bind fun r h=>r.toW fun w=>h.at w fun _ o=>o.onL fun _=>(evs Pg n d (.a as) τ h).bind fun r h=>r.toL fun ws=>ofW (pI p (w::ws) h)) (VP Q) from q) fun a1 h1 ρ1 H1 b1 s1 p1=>?_;obtain⟨w1,rfl,p2⟩:=bR p1;refine⟨w1,rfl,fun v1 rv1=>?_⟩;obtain⟨k,ob,ad,rfl,rfl,e1,g1,x1,p3⟩:=at_of s1 rv1 p2;obtain⟨xs,rfl,p4⟩:=J9 p3;obtain⟨vs,ru,qh⟩:=x1;refine⟨.inl ⟨rfl,_,SqL.of qh⟩,?_⟩;refine ev.then s1 (rs.mono b1.1) p4 fun a2 h2 ρ2 H2 b2 s2 p5=>?_;obtain⟨ws,rfl,p6⟩:=mL p5;exact⟨ws,rfl,fun us ru'=>o E ρ2 h2 H2 _ _ ws us Q s2 (rv1.mono b2.1) ru' p6⟩
theorem Vy{K:ak}{p:Pr}{r:V->List V->Hp->VK->Prop}(o:OpM cl p r){a:Ev.X}{Q:VK}(x:tE Pg cl E d (.lm p a []) σ H Q):ZQ K "list" r (tE Pg cl E d a) σ H Q:=by
 obtain⟨ρ,τ,h,n,s,rs,q⟩:=N8 (K:=K) o x;refine⟨ρ,τ,h,n,s,rs,q.mono fun a h ρ H _ _ ⟨w,e,g⟩=>⟨w,e,fun v rv=>?_⟩⟩;obtain⟨ty,z⟩:=g v rv;refine⟨ty,?_⟩;obtain⟨ρ1,τ1,h1,n1,s1,_,p1⟩:=z.step;obtain⟨ws,e,q⟩:=Post.now s1 (show Post cl ρ1 H E (.ok (.ws []) h1) (LP _) from p1);cases e;exact q [] .nil
theorem zM{p:Pr}{r:V->List V->Hp->VK->Prop}{o e:Expr}{es:List Expr}{x y:Ev.X}{ys:List Ev.X}{name:Str}{id:String}{apos cpos:Pos}(z:OpM cl p r)(slot:Slot "list" name id)(hty:typeOf (.builtin id)=pure (.type "method_descriptor"))(hm:MtM X id r)
 (ho:PE X o (tE Pg cl E d x)) (ha:PA X (e::es) (tA Pg cl E d (y::ys))) (hbase:attributeBase o name X.env (eval o X.env)=eval o X.env:=by rfl)
 (hfew:((backTo cpos (starEach (e::es) X.env)).all (fun x=> !x.1)&&(backToKw cpos (keywordEach [] X.env)).all (fun x=>x.1.isSome)
   && decide ((e::es).length+([]:List Keyword).length+(if([]:List Keyword).isEmpty then 0 else 1)<30))=true:=by rfl)
 (hline:(apos.endLine==cpos.line)=true:=by rfl) (hs:starEach (e::es) X.env=(false,eval e X.env)::starEach es X.env:=by rfl) (hplain:(backTo cpos (starEach es X.env)).any (·.1)=false:=by rfl):
 PE X (.Call (.Attribute o name apos) (e::es) [] cpos) (tE Pg cl E d (.lm p x (y::ys))):=PE.of (Jf PySem.F.plainAttrs_list slot hty hm ho ha hbase hfew hline hs hplain) fun _ _ _ q=>N8 z q
theorem aaF{p:Pr}{r:V->List V->Hp->VK->Prop}{o:Expr}{x:Ev.X}{name:Str}{id:String}{apos cpos:Pos}(z:OpM cl p r)(slot:Slot "list" name id)(hty:typeOf (.builtin id)=pure (.type "method_descriptor"))(hm:MtM X id r)
 (ho:PE X o (tE Pg cl E d x)) (hbase:attributeBase o name X.env (eval o X.env)=eval o X.env:=by rfl) (hline:(apos.endLine==cpos.line)=true:=by rfl):
 PE X (.Call (.Attribute o name apos) [] [] cpos) (tE Pg cl E d (.lm p x [])):=PE.of (ZR PySem.F.plainAttrs_list slot hty hm ho hbase hline) fun _ _ _ q=>Vy z q
theorem d7{p:Pr}{r:List V->Hp->VK->Prop}{x:Str}{e:Expr}{es:List Expr}{y:Ev.X}{ys:List Ev.X}{id:String}{pos q:Pos}(z:OpN cl p r)(hc:lW X (.builtin id) r)(hg:Gl X x)(hm:X.mg x=none)(hv:bootBuiltins x=some (.builtin id))(ha:PA X (e::es) (tA Pg cl E d (y::ys)))(hn:x ≠ "__name__":=by decide)(hdb:(x==("__debug__":Str))=false:=by decide)
 (he:starEach (e::es) X.env=(false,eval e X.env)::starEach es X.env:=by rfl) (hpl:(backTo pos (starEach es X.env)).any (·.1)=false:=by rfl):PE X (.Call (.Name x q) (e::es) [] pos) (tE Pg cl E d (.pr p (y::ys))):=
 PE.of (mD hc hg hm hv ha hn hdb he hpl) fun _ _ _ q=>Ez z q
theorem Tc{p:Pr}{r:List V->Hp->VK->Prop}{x:Str}{e:Expr}{es:List Expr}{y:Ev.X}{ys:List Ev.X}{T:String}{pos q:Pos}(z:OpN cl p r)(hc:lW X (.type T) r)(hg:Gl X x)(hm:X.mg x=none)(hv:bootBuiltins x=some (.type T))(ha:PA X (e::es) (tA Pg cl E d (y::ys)))(hn:x ≠ "__name__":=by decide)(hdb:(x==("__debug__":Str))=false:=by decide)
 (he:starEach (e::es) X.env=(false,eval e X.env)::starEach es X.env:=by rfl) (hpl:(backTo pos (starEach es X.env)).any (·.1)=false:=by rfl):PE X (.Call (.Name x q) (e::es) [] pos) (tE Pg cl E d (.pr p (y::ys))):=
 PE.of (uf hc hg hm hv ha hn hdb he hpl) fun _ _ _ q=>Ez z q
end
section
mutual
noncomputable def vars:Tg->List Nat
 | .nm i=>[i]
 | .tup ts=>wg ts
noncomputable def wg:List Tg->List Nat
 | []=>[]
 | t::ts=>vars t++wg ts
end
noncomputable def Off(vs:List Nat)(σ σ':L2.St):Prop:=σ'.length=σ.length/\∀ i,i ∉ vs->σ'[i]? =σ[i]?
theorem Off.refl{vs:List Nat}{σ:L2.St}:Off vs σ σ:=⟨rfl,fun _ _=>rfl⟩
theorem Off.trans{vs us:List Nat}{σ σ' aaG:L2.St}(a:Off vs σ σ')(b:Off us σ' aaG):Off (vs++us) σ aaG:=⟨b.1.trans a.1,fun i hi=>by
 rw[List.mem_append]at hi
 exact(b.2 i fun z=>hi (.inr z)).trans (a.2 i fun z=>hi (.inl z))⟩
noncomputable def tG(cl:Cn)(t:Tg):TG:=fun v σ H Q=>∃ ρ h w τ n τ',Sim cl ρ h H/\RW ρ w v/\RS ρ τ σ/\bx h n t w τ=some τ'/\∀ σ',RS ρ τ' σ'->Off (vars t) σ σ'->Q σ' H
noncomputable def tGs(cl:Cn)(ts:List Tg):TGs:=fun vs σ H Q=>∃ ρ h ws τ n τ',Sim cl ρ h H/\RWs ρ ws vs/\RS ρ τ σ/\bindL (bx h n) ts ws τ=some τ'/\∀ σ',RS ρ τ' σ'->Off (wg ts) σ σ'->Q σ' H
variable{Pg:List Fn}{cl:Cn}{E:XK}{d:Nat}{X:Cx}{σ:L2.St}{H:Hp}
theorem PG.of{e:Expr}{t t':TG}(h:PG X e t)(f:∀ v σ H Q,t' v σ H Q->t v σ H Q):PG X e t':=fun pins s σ H v u Q I r q=>h pins s σ H v u Q I r (f v σ H Q q)
theorem PGs.of{e:List Expr}{t t':TGs}(h:PGs X e t)(f:∀ v σ H Q,t' v σ H Q->t v σ H Q):PGs X e t':=fun pins s σ H v u Q I r q=>h pins s σ H v u Q I r (f v σ H Q q)
theorem wj{i:Nat}{v:V}{Q:L2.St->Hp->Prop}(x:tG cl (.nm i) v σ H Q):Jc i v σ H Q:=by
 obtain⟨ρ,h,w,τ,n,τ',s,r,rs,e,q⟩:=x
 cases n with
 | zero=>cases e
 | succ n=>
   have e:some (setAt τ (some w) i)=some τ':=e;cases e;refine q _ (rs.set r i) ⟨List.length_set,fun j hj=>?_⟩;have ne:i ≠ j:=fun z=>hj (by simp[vars,z]);rw[List.getElem?_set_ne ne]
theorem X8{i:Nat}{x:Str}{pos:Pos}(hN:X.N.Nodup)(hi:X.N[i]? =some x)(hx:Loc X.env.scope x)(hf:X.fn x=true\/X.env.scope.names.lookup x=some .local:=by first | exact .inl rfl | exact .inr rfl | assumption):PG X (.Name x pos) (tG cl (.nm i)):=PG.of (ql hN hi hx hf) fun _ _ _ _ q=>wj q
theorem eE:PGs X [] (tGs cl []):=PGs.of Xo fun vs σ H Q x=>by
 obtain⟨ρ,h,ws,τ,n,τ',s,r,rs,e,q⟩:=x
 cases r with
 | nil=>
   have e:some τ=some τ':=e;cases e
   exact⟨rfl,q σ rs Off.refl⟩
 | cons _ _=>cases e
theorem aO{e:Expr}{es:List Expr}{t:Tg}{ts:List Tg}(h1:PG X e (tG cl t))(h2:PGs X es (tGs cl ts))(hs:(assignEach (e::es) X.env).map (·.2)=assign e X.env::(assignEach es X.env).map (·.2):=by rfl):PGs X (e::es) (tGs cl (t::ts)):=
 PGs.of (Ux h1 h2 hs) fun vs σ H Q x=>by
 obtain⟨ρ,h,ws,τ,n,τ',s,r,rs,e,q⟩:=x
 cases r with
 | nil=>cases e
 | @cons w v ws vs r1 rt=>
   have e:Option.rec none (fun τ=>bindL (bx h n) ts ws τ) (bx h n t w τ)=some τ':=e
   cases e1:bx h n t w τ with
   | none=>rw[e1]at e;cases e
   | some τ1=>
     rw[e1]at e;refine⟨v,vs,rfl,ρ,h,w,τ,n,τ1,s,r1,rs,e1,fun σ1 rs1 o1=>?_⟩;exact⟨ρ,h,ws,τ1,n,τ',s,rt,rs1,e,fun σ2 rs2 o2=>q σ2 rs2 (by have:=o1.trans o2;simpa [wg] using this)⟩
theorem gj{es:List Expr}{k:Nat}{ts:List Tg}{n:Nat}{pos:Pos}(hc:X.calm=true)(h:PGs X es (tGs cl ts))(hl:ts.length=n:=by rfl)
 (hn:(assignEach es X.env).length=n:=by rfl) (hst:(assignEach es X.env).findIdx? (·.1)=none:=by rfl):PG X (.Tuple es k pos) (tG cl (.tup ts)):=PG.of (Zj hc h hn hst) fun v σ H Q x=>by
 obtain⟨ρ,h,w,τ,m,τ',s,r,rs,e,q⟩:=x
 cases m with
 | zero=>cases e
 | succ m=>
   cases r with
   | @ref j a qa=>
     have e:Option.rec none (fun o=>O.rec (fun xs=>bindL (bx h m) ts xs τ) (fun _=>none) (fun _ _=>none) (fun _=>none) (fun _=>none) (fun _=>none) o) (h.get j)=some τ':=e
     cases hg:h.get j with
     | none=>rw[hg]at e;cases e
     | some o=>
       rw[hg]at e;have x1:=s.at qa hg
       cases o with
       | tup xs=>
         have e:bindL (bx h m) ts xs τ=some τ':=e;obtain⟨vs,rv,qh⟩:=x1
         have len:∀(ts:List Tg) (xs:List W) (τ τ':Sg),bindL (bx h m) ts xs τ=some τ'->xs.length=ts.length:=by
          intro ts
          induction ts with
          | nil=>intro xs τ τ' e;cases xs with
            | nil=>rfl
            | cons _ _=>cases e
          | cons t ts ih=>intro xs τ τ' e;cases xs with
            | nil=>cases e
            | cons y ys=>
              have e:Option.rec none (fun τ=>bindL (bx h m) ts ys τ) (bx h m t y τ)=some τ':=e
              cases e1:bx h m t y τ with
              | none=>rw[e1]at e;cases e
              | some τ1=>rw[e1]at e;exact congrArg (· + 1) (ih ys τ1 τ' e)
         refine⟨a,vs,rfl,SqT.of qh,by rw[<- rv.length,len ts xs τ τ' e,hl],?_⟩
         exact⟨ρ,h,xs,τ,m,τ',s,rv,rs,e,fun σ' rs' o'=>q σ' rs' (by simpa [vars] using o')⟩
       | _=>cases e
   | _=>cases e
theorem Td{α:Type}(τ:Sg)(w:W)(i j:Nat):cN (setAt τ (some w) i) j=none->cN τ j=none/\(j=i->τ.length<=j):=by
 rw[Bg,J7,J7];intro h
 by_cases z:i=j
 · subst z
   by_cases l:i<τ.length
   · rw[List.getElem?_set_self l]at h;cases h
   · refine⟨?_,fun _=>Nat.not_lt.mp l⟩;rw[List.getElem?_eq_none (Nat.not_lt.mp l)];rfl
 · rw[List.getElem?_set_ne z]at h;exact⟨h,fun q=>absurd q.symm z⟩
theorem bind_none{h:Hs}:∀(n:Nat) {t:Tg} {w:W} {τ τ':Sg},bx h n t w τ=some τ'->τ'.length=τ.length/\∀ i,cN τ' i=none->cN τ i=none/\(i ∈ vars t->τ.length<=i)
 | 0,_,_,_,_,e=>nomatch e
 | n+1,t,w,τ,τ',e=>by
   have lst:∀(ts:List Tg) (ws:List W) (τ τ':Sg),bindL (bx h n) ts ws τ=some τ'->τ'.length=τ.length/\∀ i,cN τ' i=none->cN τ i=none/\(i ∈ wg ts->τ.length<=i):=by
    intro ts
    induction ts with
    | nil=>
      intro ws τ τ' e
      cases ws with
      | nil=>cases e;exact⟨rfl,fun i hi=>⟨hi,fun z=>by simp[wg]at z⟩⟩
      | cons _ _=>cases e
    | cons t ts ih=>
      intro ws τ τ' e
      cases ws with
      | nil=>cases e
      | cons y ys=>
        have e:Option.rec none (fun τ=>bindL (bx h n) ts ys τ) (bx h n t y τ)=some τ':=e
        cases e1:bx h n t y τ with
        | none=>rw[e1]at e;cases e
        | some τ1=>
          rw[e1]at e;obtain⟨l1,a1⟩:=bind_none n e1;obtain⟨l2,a2⟩:=ih ys τ1 τ' e;refine⟨l2.trans l1,fun i hi=>?_⟩;obtain⟨b1,b2⟩:=a2 i hi;obtain⟨c1,c2⟩:=a1 i b1;refine⟨c1,fun z=>?_⟩;simp only[wg,List.mem_append]at z
          rcases z with z | z
          · exact c2 z
          · rw[<- l1];exact b2 z
   cases t with
   | nm i=>
     have e:some (setAt τ (some w) i)=some τ':=e;cases e;refine⟨by rw[Bg,List.length_set],fun j hj=>?_⟩;obtain⟨a,b⟩:=Td (α:=Unit) τ w i j hj
     exact⟨a,fun z=>b (by simpa [vars] using z)⟩
   | tup ts=>
     cases w with
     | ref k=>
       have e:Option.rec none (fun o=>O.rec (fun xs=>bindL (bx h n) ts xs τ) (fun _=>none) (fun _ _=>none) (fun _=>none) (fun _=>none) (fun _=>none) o) (h.get k)=some τ':=e
       cases hg:h.get k with
       | none=>rw[hg]at e;cases e
       | some o=>
         rw[hg]at e
         cases o with
         | tup xs=>
           obtain⟨a,b⟩:=lst ts xs τ τ' e
           exact⟨a,fun i hi=>by simpa [vars] using b i hi⟩
         | _=>cases e
     | _=>cases e
theorem N_{h:Hs}{n:Nat}{t:Tg}{w:W}{τ τ':Sg}{ρ:List Addr}{σ σ' σ0:L2.St}(e:bx h n t w τ=some τ')(rs:RS ρ τ σ)(o:Off (vars t) σ σ')(ag:Ag σ0 τ σ):Ag σ0 τ' σ':=fun i hi=>by
 obtain⟨l,a⟩:=bind_none n e;obtain⟨b1,b2⟩:=a i hi;have len:τ.length=σ.length:=Paired.length rs
 by_cases z:i ∈ vars t
 · have h1:=b2 z;rw[<- ag i b1,List.getElem?_eq_none (by rw[o.1];omega),List.getElem?_eq_none (by omega)]
 · rw[o.2 i z];exact ag i b1
section
variable{σ0:L2.St}
theorem CN{t:Tg}{e:Ev.X}{D:Ends}(x:tS Pg cl E d σ0 (.asg t e) D σ H):O_ (tE Pg cl E d e) (tG cl t) D σ H:=by
 obtain⟨ρ,τ,h,n,s,rs,ag,q⟩:=x.step;refine ev.then s rs (show Post cl ρ H E ((evs Pg n d (.x e) τ h).bind fun r h=>r.toW fun w=>Opt (bx h 9 t w τ) fun τ=>.ok (.fl (.nx τ)) h) (SPo σ0 D) from q) fun a1 h1 ρ1 H1 b1 s1 p1=>?_;obtain⟨w,rfl,p2⟩:=bR p1;obtain⟨τ',e1,p3⟩:=jo p2;refine⟨w,rfl,fun v rv=>⟨ρ1,h1,w,τ,9,τ',s1,rv,rs.mono b1.1,e1,fun σ' rs' o1=>?_⟩⟩;obtain⟨f,ef,qf⟩:=p3.now s1;cases ef;exact qf σ' rs' (N_ e1 rs o1 ag)
theorem Te{i:Nat}{x:Str}{e:Expr}{y:Ev.X}{pos pos':Pos}(hN:X.N.Nodup)(hi:X.N[i]? =some x)(hx:Loc X.env.scope x)(he:PE X e (tE Pg cl E d y))(hs:swapsWith e (some (.Name x pos')) pos.line X.env=pure false:=by rfl)(hf:X.fn x=true\/X.env.scope.names.lookup x=some .local:=by first | exact .inl rfl | exact .inr rfl | assumption):
 PS X (.Assign [.Name x pos'] e pos) (tS Pg cl E d σ0 (.asg (.nm i) y)):=PS.of (pF hN hi hx he hs hf) fun D σ H q=>by
 obtain⟨ρ,τ,h,n,s,rs,p⟩:=CN q;exact⟨ρ,τ,h,n,s,rs,p.mono fun a h ρ H _ _ ⟨w,e,g⟩=>⟨w,e,fun v rv=>wj (g v rv)⟩⟩
theorem sU{tg e:Expr}{t:Tg}{y:Ev.X}{pos:Pos}(he:PE X e (tE Pg cl E d y))(hg:PG X tg (tG cl t))(hs:swapsWithSole [tg] e pos.line X.env=pure false:=by rfl)(hw:swappedStores [tg] e X.env=pure none:=by rfl)
 (h1:(assignEach [tg] X.env).map (·.2)= [assign tg X.env]:=by rfl):PS X (.Assign [tg] e pos) (tS Pg cl E d σ0 (.asg t y)):=PS.of (Zk he hg hs hw h1) fun _ _ _ q=>CN q
theorem iy{e:Expr}{y:Ev.X}{pos:Pos}(he:PE X e (tE Pg cl E d y))(hs:swapsWith e none pos.line X.env=pure false:=by rfl):PS X (.Expr e pos) (tS Pg cl E d σ0 (.expr y)):=PS.of (jH he hs) fun D σ H x=>by
 obtain⟨ρ,τ,h,n,s,rs,ag,q⟩:=x.step;refine ev.then s rs (show Post cl ρ H E ((evs Pg n d (.x y) τ h).bind fun r h=>r.toW fun _=>.ok (.fl (.nx τ)) h) (SPo σ0 D) from q) fun a1 h1 ρ1 H1 b1 s1 p1=>?_;obtain⟨w,rfl,p2⟩:=bR p1;refine⟨w,rfl,fun v rv=>?_⟩;obtain⟨f,ef,qf⟩:=p2.now s1;cases ef;exact qf σ (rs.mono b1.1) ag
theorem aQ{e:Expr}{y:Ev.X}{pos:Pos}(he:PE X e (tE Pg cl E d y)):PS X (.Return (some e) pos) (tS Pg cl E d σ0 (.ret y)):=PS.of (kj he) fun D σ H x=>by
 obtain⟨ρ,τ,h,n,s,rs,ag,q⟩:=x.step;refine ev.then s rs (show Post cl ρ H E ((evs Pg n d (.x y) τ h).bind fun r h=>r.toW fun w=>.ok (.fl (.rt w)) h) (SPo σ0 D) from q) fun a1 h1 ρ1 H1 b1 s1 p1=>?_;obtain⟨w,rfl,p2⟩:=bR p1;obtain⟨f,ef,qf⟩:=p2.now s1;cases ef;exact⟨w,rfl,qf⟩
theorem dh{c:Expr}{a b:List Stmt}{x:Ev.X}{sa sb:List S}{pos:Pos}(hc:PT X c (tT Pg cl E d x))(ha:PSs X a (tSs Pg cl E d σ0 sa))(hb:PSs X b (tSs Pg cl E d σ0 sb)):PS X (.If c a b pos) (tS Pg cl E d σ0 (.ife x sa sb)):=PS.of (zy hc ha hb) fun D σ H z=>by
 obtain⟨ρ,τ,h,n,s,rs,ag,q⟩:=z.step;refine ev.then s rs (show Post cl ρ H E ((evs Pg n d (.x x) τ h).bind fun r h=>r.toW fun w=>w.onB (evs Pg n d (.ss sb) τ h) (evs Pg n d (.ss sa) τ h)) (SPo σ0 D) from q) fun a1 h1 ρ1 H1 b1 s1 p1=>?_;obtain⟨w,rfl,p2⟩:=bR p1;refine⟨w,rfl,fun v rv=>?_⟩
 rcases vo p2 with ⟨rfl,p3⟩ | ⟨rfl,p3⟩
 · cases rv;exact⟨true,rfl,vV ⟨ρ1,τ,h1,n,s1,rs.mono b1.1,ag,p3⟩⟩
 · cases rv;exact⟨false,rfl,vU ⟨ρ1,τ,h1,n,s1,rs.mono b1.1,ag,p3⟩⟩
theorem MF{pos:Pos}:PS X (.Continue pos) (tS Pg cl E d σ0 .ct):=PS.of Mt fun D σ H x=>by
 obtain⟨ρ,τ,h,n,s,rs,ag,q⟩:=x.step;obtain⟨f,ef,qf⟩:=Post.now s (show Post cl ρ H E (.ok (.fl (.ct τ)) h) (SPo σ0 D) from q);cases ef;exact qf σ rs ag
theorem au:PSs X [] (tSs Pg cl E d σ0 []):=PSs.of uZ fun D σ H x=>by
 obtain⟨ρ,τ,h,n,s,rs,ag,q⟩:=x.step;obtain⟨f,ef,qf⟩:=Post.now s (show Post cl ρ H E (.ok (.fl (.nx τ)) h) (SPo σ0 D) from q);cases ef;exact qf σ rs ag
theorem aa{st:Stmt}{rest:List Stmt}{a:S}{as:List S}(h1:PS X st (tS Pg cl E d σ0 a))(h2:PSs X rest (tSs Pg cl E d σ0 as)):PSs X (st::rest) (tSs Pg cl E d σ0 (a::as)):=PSs.of (cJ h1 h2) fun D σ H x=>by
 obtain⟨ρ,τ,h,n,s,rs,ag,q⟩:=x.step;refine evS.then s rs ag (show Post cl ρ H E ((evs Pg n d (.s a) τ h).bind fun r h=>r.toF fun f=>Fl.rec (fun τ=>evs Pg n d (.ss as) τ h) (fun w=>.ok (.fl (.rt w)) h) (fun τ=>.ok (.fl (.bk τ)) h) (fun τ=>.ok (.fl (.ct τ)) h) f) (SPo σ0 D) from q) fun a1 h1 ρ1 H1 b1 s1 p1=>?_;obtain⟨f,rfl,p2⟩:=yu p1;refine⟨f,rfl,?_⟩
 cases f with
 | nx τ1=>exact fun σ1 rs1 ag1=>⟨ρ1,τ1,h1,n,s1,rs1,ag1,p2⟩
 | rt w=>
   obtain⟨f,ef,qf⟩:=Post.now s1 (show Post cl ρ1 H1 E (.ok (.fl (.rt w)) h1) (SPo σ0 D) from p2)
   cases ef;exact qf
 | bk τ1=>
   obtain⟨f,ef,qf⟩:=Post.now s1 (show Post cl ρ1 H1 E (.ok (.fl (.bk τ1)) h1) (SPo σ0 D) from p2)
   cases ef;exact qf
 | ct τ1=>
   obtain⟨f,ef,qf⟩:=Post.now s1 (show Post cl ρ1 H1 E (.ok (.fl (.ct τ1)) h1) (SPo σ0 D) from p2);cases ef;exact qf
end
inductive lO (K:ak)(ρ:List Addr):Iv->It->Prop
 | lst {n a}:ρ[n]? =some a->lO K ρ (.lst n) (Itl K a)
 | tup {n a}:ρ[n]? =some a->lO K ρ (.tup n) (Itt K a)
 | rng (lo n):lO K ρ (.rng lo n) (Itr lo n)
 | zip {n m a b}:ρ[n]? =some a->ρ[m]? =some b->lO K ρ (.zip n m) (Itz K a b)
 | dwn (lo n):lO K ρ (.dwn lo n) (Itd lo n)
 | enu {n a}:ρ[n]? =some a->lO K ρ (.enu n) (Ite K a)
theorem lO.mono{K:ak}{ρ ρ':List Addr}(e:ρ <+:ρ'){v:Iv}{J:It}(x:lO K ρ v J):lO K ρ' v J:=by
 cases x with
 | lst h=>exact .lst (gJ e h)
 | tup h=>exact .tup (gJ e h)
 | rng lo n=>exact .rng lo n
 | zip h h'=>exact .zip (gJ e h) (gJ e h')
 | dwn lo n=>exact .dwn lo n
 | enu h=>exact .enu (gJ e h)
theorem Oa{K:ak}{ρ:List Addr}{h:Hs}{v:Iv}{J:It}{i:Nat}{fin:R A}{go:W->Hs->R A}{P:A->Hs->List Addr->Hp->Prop}(s:Sim cl ρ h H)(x:lO K ρ v J)(p:Post cl ρ H E (v.next i h fin go) P):
 (J.stop i H/\Post cl ρ H E fin P)\/(J.go i H/\∃ w h',∀ y H',J.yld i H y H'->∃ ρ',Bt cl ρ H ρ' H'/\Sim cl ρ' h' H'/\RW ρ' w y/\Post cl ρ' H' E (go w h') P):=by
 have here:∀ {w:W} {v':V},RW ρ w v'->Post cl ρ H E (go w h) P->(∀ y H',J.yld i H y H'->H'=H/\y=v')->∃ w h',∀ y H',J.yld i H y H'->∃ ρ',Bt cl ρ H ρ' H'/\Sim cl ρ' h' H'/\RW ρ' w y/\Post cl ρ' H' E (go w h') P:=fun {w v'} rw p f=>⟨w,h,fun y H' z=>by
  obtain⟨rfl,rfl⟩:=f y H' z
  exact⟨ρ,Bt.refl,s,rw,p⟩⟩
 cases x with
 | @lst n a e=>
   obtain⟨o,ho,p1⟩:=jo (show Post cl ρ H E (Opt (h.get n) fun o=>o.onS fun xs=>Option.rec fin (fun w=>go w h) (nth xs i)) P from p);have x1:=s.at e ho
   cases o with
   | lst xs=>
     obtain⟨vs,rv,q⟩:=x1;have p2:Post cl ρ H E (Option.rec fin (fun w=>go w h) (nth xs i)) P:=p1;rw[oA]at p2;have hl:=rv.length
     cases hx:xs[i]? with
     | none=>
       rw[hx]at p2
       exact .inl ⟨⟨vs,SqL.of q,by have:=List.getElem?_eq_none_iff.mp hx;omega⟩,p2⟩
     | some w=>
       rw[hx]at p2;obtain⟨v',ev,rw⟩:=rv.get hx
       exact .inr ⟨⟨vs,v',SqL.of q,ev⟩,here rw p2 fun y H' z=>⟨z.1,by
        have:=z.2 vs (SqL.of q);rw[ev]at this
        exact(Option.some.inj this).symm⟩⟩
   | _=>exact p1.elim
 | @tup n a e=>
   obtain⟨o,ho,p1⟩:=jo (show Post cl ρ H E (Opt (h.get n) fun o=>o.onT fun xs=>Option.rec fin (fun w=>go w h) (nth xs i)) P from p);have x1:=s.at e ho
   cases o with
   | tup xs=>
     obtain⟨vs,rv,q⟩:=x1;have p2:Post cl ρ H E (Option.rec fin (fun w=>go w h) (nth xs i)) P:=p1;rw[oA]at p2;have hl:=rv.length
     cases hx:xs[i]? with
     | none=>
       rw[hx]at p2
       exact .inl ⟨⟨vs,SqT.of q,by have:=List.getElem?_eq_none_iff.mp hx;omega⟩,p2⟩
     | some w=>
       rw[hx]at p2;obtain⟨v',ev,rw⟩:=rv.get hx
       exact .inr ⟨⟨vs,v',SqT.of q,ev⟩,here rw p2 fun y H' z=>⟨z.1,by
        have:=z.2 vs (SqT.of q);rw[ev]at this
        exact(Option.some.inj this).symm⟩⟩
   | _=>exact p1.elim
 | rng lo n=>
   have p1:Post cl ρ H E (Bool.rec fin (go (.int (lo + .ofNat i)) h) (Nat.ble (i+1) n)) P:=p;rw[ble_eq]at p1
   by_cases c:i+1<=n
   · rw[decide_eq_true c]at p1;exact .inr ⟨c,here (.int _) p1 fun y H' z=>z⟩
   · rw[decide_eq_false c]at p1
     exact .inl ⟨by show n<=i;omega,p1⟩
 | dwn lo n=>
   have p1:Post cl ρ H E (Bool.rec fin (go (.int (lo - .ofNat i)) h) (Nat.ble (i+1) n)) P:=p;rw[ble_eq]at p1
   by_cases c:i+1<=n
   · rw[decide_eq_true c]at p1;exact .inr ⟨c,here (.int _) p1 fun y H' z=>z⟩
   · rw[decide_eq_false c]at p1
     exact .inl ⟨by show n<=i;omega,p1⟩
 | @enu n a ea=>
   obtain⟨o,ho,p1⟩:=jo (show Post cl ρ H E (Opt (h.get n) fun o=>o.onS fun xs=>Option.rec fin (fun x=>go (.ref h.n) (h.push (.tup [.int (.ofNat i),x]))) (nth xs i)) P from p);have x1:=s.at ea ho
   cases o with
   | lst xs=>
     obtain⟨vs,rv,q⟩:=x1;have p3:Post cl ρ H E (Option.rec fin (fun x=>go (.ref h.n) (h.push (.tup [.int (.ofNat i),x]))) (nth xs i)) P:=p1;rw[oA]at p3;have hl:=rv.length
     cases hx:xs[i]? with
     | none=>
       rw[hx]at p3
       exact .inl ⟨⟨vs,SqL.of q,by have:=List.getElem?_eq_none_iff.mp hx;omega⟩,p3⟩
     | some x=>
       rw[hx]at p3;obtain⟨x',ex,rx⟩:=rv.get hx;refine .inr ⟨⟨vs,x',SqL.of q,ex⟩,.ref h.n,h.push (.tup [.int (.ofNat i),x]),fun v H' ⟨T,x2,hT,hv,hH,f1⟩=>?_⟩;have e1:=f1 vs (SqL.of q);rw[ex]at e1;cases e1;subst hv hH;have pe:=List.prefix_append ρ [T];have s2:Sim cl (ρ ++ [T]) (h.push (.tup [.int (.ofNat i),x])) (upd H T (.tup [.int i,x'])):=s.push hT ⟨[.int i,x'],.cons (.int _) (.cons (rx.mono pe) .nil),az⟩
       exact⟨ρ ++ [T],Bt.new hT,s2,.ref (by rw[<- s.len,List.getElem?_append_right (aA _),Nat.sub_self];rfl),p3.later (Bt.new hT)⟩
   | _=>exact p1.elim
 | @zip n m a b ea eb=>
   obtain⟨o,ho,p1⟩:=jo (show Post cl ρ H E (Opt (h.get n) fun o=>o.onS fun xs=>Opt (h.get m) fun o=>o.onS fun ys=>Option.rec fin (fun x=>Option.rec fin (fun y=>go (.ref h.n) (h.push (.tup [x,y]))) (nth ys i)) (nth xs i)) P from p);have x1:=s.at ea ho
   cases o with
   | lst xs=>
     obtain⟨vs,rv,q⟩:=x1;obtain⟨o2,ho2,p2⟩:=jo (show Post cl ρ H E (Opt (h.get m) fun o=>o.onS fun ys=>Option.rec fin (fun x=>Option.rec fin (fun y=>go (.ref h.n) (h.push (.tup [x,y]))) (nth ys i)) (nth xs i)) P from p1);have x2:=s.at eb ho2
     cases o2 with
     | lst ys=>
       obtain⟨us,ru,q2⟩:=x2;have p3:Post cl ρ H E (Option.rec fin (fun x=>Option.rec fin (fun y=>go (.ref h.n) (h.push (.tup [x,y]))) (nth ys i)) (nth xs i)) P:=p2;rw[oA,oA]at p3;have hl:=rv.length;have hl2:=ru.length
       cases hx:xs[i]? with
       | none=>
         rw[hx]at p3
         exact .inl ⟨⟨vs,us,SqL.of q,SqL.of q2,.inl (by have:=List.getElem?_eq_none_iff.mp hx;omega)⟩,p3⟩
       | some x=>
         rw[hx]at p3
         cases hy:ys[i]? with
         | none=>
           have p4:Post cl ρ H E (Option.rec fin (fun y=>go (.ref h.n) (h.push (.tup [x,y]))) ys[i]?) P:=p3;rw[hy]at p4
           exact .inl ⟨⟨vs,us,SqL.of q,SqL.of q2,.inr (by have:=List.getElem?_eq_none_iff.mp hy;omega)⟩,p4⟩
         | some y=>
           have p4:Post cl ρ H E (Option.rec fin (fun y=>go (.ref h.n) (h.push (.tup [x,y]))) ys[i]?) P:=p3;rw[hy]at p4;obtain⟨x',ex,rx⟩:=rv.get hx;obtain⟨y',ey,ry⟩:=ru.get hy;refine .inr ⟨⟨vs,us,x',y',SqL.of q,SqL.of q2,ex,ey⟩,.ref h.n,h.push (.tup [x,y]),fun v H' ⟨T,x2,y2,hT,hv,hH,f1,f2⟩=>?_⟩;have e1:=f1 vs (SqL.of q);have e2:=f2 us (SqL.of q2);rw[ex]at e1;rw[ey]at e2;cases e1;cases e2;subst hv hH;have pe:=List.prefix_append ρ [T];have s2:Sim cl (ρ ++ [T]) (h.push (.tup [x,y])) (upd H T (.tup [x',y'])):=s.push hT ⟨[x',y'],.cons (rx.mono pe) (.cons (ry.mono pe) .nil),az⟩
           exact⟨ρ ++ [T],Bt.new hT,s2,.ref (by rw[<- s.len,List.getElem?_append_right (aA _),Nat.sub_self];rfl),p4.later (Bt.new hT)⟩
     | _=>exact p2.elim
   | _=>exact p1.elim
noncomputable def DI(Pg:List Fn)(cl:Cn)(E:XK)(d:Nat)(K:ak)(i:I)(wi:TI):Prop:=∀(σ:L2.St) (H:Hp) (R:It->Hp->Prop),ev Pg cl E d (.i i) σ H (fun r _ ρ1 H1=>∃ v,r= .iv v/\∀ J,lO K ρ1 v J->R J H1)->wi σ H R
theorem PI.or{tg l:Expr}{w w':TI}(h:PI X tg l w)(h':PI X tg l w'):PI X tg l (fun σ H R=>w σ H R\/w' σ H R):=fun pins s σ H R I q=>q.elim (h pins s σ H R I) (h' pins s σ H R I)
theorem jK{K:ak}{e:Ev.X}:DI Pg cl E d K (.seq e) (fun σ H R=>Ph K (tE Pg cl E d e) σ H R\/Uz K (tE Pg cl E d e) σ H R):=fun σ H R x=>by
 obtain⟨ρ,τ,h,n,s,rs,q⟩:=x.step;have q1:Post cl ρ H E ((evs Pg n d (.x e) τ h).bind fun r h=>r.toW fun w=>h.at w fun n o=>(O.casesOn (motive:=fun _=>Ev.R A) o (fun _=>.ok (.iv (.tup n)) h) (fun _=>.ok (.iv (.lst n)) h) (fun _ _=>.no) (fun _=>.no) (fun _=>.no) (fun _=>.no))) (fun r _ ρ1 H1=>∃ v,r= .iv v/\∀ J,lO K ρ1 v J->R J H1):=q;have q2:=q1.bind
 cases er:evs Pg n d (.x e) τ h with
 | no=>rw[er]at q2;exact q2.elim
 | ex C fs h1=>exact .inl ⟨ρ,τ,h,n,s,rs,by rw[er]at q2 ⊢;exact q2⟩
 | ok a h1=>
   rw[er]at q1;have q3:Post cl ρ H E (a.toW fun w=>h1.at w fun n o=>(O.casesOn (motive:=fun _=>Ev.R A) o (fun _=>.ok (.iv (.tup n)) h1) (fun _=>.ok (.iv (.lst n)) h1) (fun _ _=>.no) (fun _=>.no) (fun _=>.no) (fun _=>.no))) (fun r _ ρ1 H1=>∃ v,r= .iv v/\∀ J,lO K ρ1 v J->R J H1):=q1;obtain⟨w,rfl,q4⟩:=bR q3;obtain⟨k,rfl,q5⟩:=S5 q4;obtain⟨o,ho,q6⟩:=jo q5
   cases o with
   | lst xs=>
     refine .inl ⟨ρ,τ,h,n,s,rs,?_⟩;rw[er];intro ρ1 H1 b1 s1;refine⟨_,rfl,fun v rv=>?_⟩
     cases rv with
     | @ref _ a ea=>
       obtain⟨vs,rv,qh⟩:=s1.at ea ho;obtain⟨v,ev,g⟩:=(show Post cl ρ H E (.ok (A.iv (.lst k)) h1) _ from q6) ρ1 H1 b1 s1;cases ev
       exact⟨a,rfl,⟨vs,SqL.of qh⟩,g _ (.lst ea)⟩
   | tup xs=>
     refine .inr ⟨ρ,τ,h,n,s,rs,?_⟩;rw[er];intro ρ1 H1 b1 s1;refine⟨_,rfl,fun v rv=>?_⟩
     cases rv with
     | @ref _ a ea=>
       obtain⟨vs,rv,qh⟩:=s1.at ea ho;obtain⟨v,ev,g⟩:=(show Post cl ρ H E (.ok (A.iv (.tup k)) h1) _ from q6) ρ1 H1 b1 s1;cases ev
       exact⟨a,rfl,⟨vs,SqT.of qh⟩,g _ (.tup ea)⟩
   | _=>exact q6.elim
theorem yw{ρ:List Addr}{H:Hp}{i:Int}{k:R A}{P:A->Hs->List Addr->Hp->Prop}(p:Post cl ρ H E (within i k) P):(-(2 ^ 62)<=i/\i<2 ^ 62)/\Post cl ρ H E k P:=by
 obtain⟨c,p⟩:=f9 p;obtain⟨c2,p⟩:=f9 p;rw[cD]at c c2;have c:=of_decide_eq_true c;have c2:=of_decide_eq_true c2;exact⟨⟨by omega,by omega⟩,p⟩
theorem X_{ρ:List Addr}{H:Hp}{ws:List W}{vs:List V}{f:W->R A}{P:A->Hs->List Addr->Hp->Prop}(r:RWs ρ ws vs)(p:Post cl ρ H E (JW ws f) P):∃ w v,ws= [w]/\vs= [v]/\RW ρ w v/\Post cl ρ H E (f w) P:=by
 cases r with
 | nil=>exact p.elim
 | cons r1 t=>cases t with
   | nil=>exact⟨_,_,rfl,rfl,r1,p⟩
   | cons _ _=>exact p.elim
theorem Ob{ρ:List Addr}{H:Hp}{ws:List W}{vs:List V}{f:W->W->R A}{P:A->Hs->List Addr->Hp->Prop}(r:RWs ρ ws vs)(p:Post cl ρ H E (Ex ws f) P):∃ w v w' v',ws= [w,w']/\vs= [v,v']/\RW ρ w v/\RW ρ w' v'/\Post cl ρ H E (f w w') P:=by
 cases r with
 | nil=>exact p.elim
 | cons r1 t=>cases t with
   | nil=>exact p.elim
   | cons r2 t=>cases t with
     | nil=>exact⟨_,_,_,_,rfl,rfl,r1,r2,p⟩
     | cons _ _=>exact p.elim
theorem jL{K:ak}{as:List Ev.X}:DI Pg cl E d K (.o5 as) (L2.Ws (tA Pg cl E d as)):=fun σ H R x=>by
 obtain⟨ρ,τ,h,n,s,rs,q⟩:=x.step;refine ev.then s rs (show Post cl ρ H E ((evs Pg n d (.a as) τ h).bind fun r h=>r.toL fun ws=>JW ws fun w=>w.onI fun j=>within j (.ok (A.iv (.rng 0 j.toNat)) h)) (fun r _ ρ1 H1=>∃ v,r= .iv v/\∀ J,lO K ρ1 v J->R J H1) from q) fun a1 h1 ρ1 H1 b1 s1 p1=>?_;obtain⟨ws,rfl,p2⟩:=mL p1;refine⟨ws,rfl,fun vs rv=>?_⟩;obtain⟨w,v,rfl,rfl,r1,p3⟩:=X_ rv p2;obtain⟨j,rfl,p4⟩:=sJ p3;obtain⟨c,p5⟩:=yw p4;cases r1;obtain⟨v,ev,g⟩:=p5.now s1;cases ev;exact⟨j,rfl,c.1,c.2,g _ (.rng _ _)⟩
theorem Oc{K:ak}{as:List Ev.X}:DI Pg cl E d K (.Vt as) (L2.Wt (tA Pg cl E d as)):=fun σ H R x=>by
 obtain⟨ρ,τ,h,n,s,rs,q⟩:=x.step;refine ev.then s rs (show Post cl ρ H E ((evs Pg n d (.a as) τ h).bind fun r h=>r.toL fun ws=>Ex ws fun v w=>v.onI fun i=>w.onI fun j=>within i (within j (.ok (A.iv (.rng i (j - i).toNat)) h))) (fun r _ ρ1 H1=>∃ v,r= .iv v/\∀ J,lO K ρ1 v J->R J H1) from q) fun a1 h1 ρ1 H1 b1 s1 p1=>?_;obtain⟨ws,rfl,p2⟩:=mL p1;refine⟨ws,rfl,fun vs rv=>?_⟩;obtain⟨w,v,w',v',rfl,rfl,r1,r2,p3⟩:=Ob rv p2;obtain⟨i,rfl,p4⟩:=sJ p3;obtain⟨j,rfl,p5⟩:=sJ p4;obtain⟨c,p6⟩:=yw p5;obtain⟨c2,p7⟩:=yw p6;cases r1;cases r2;obtain⟨v,ev,g⟩:=p7.now s1;cases ev;exact⟨i,j,rfl,⟨c.1,c.2,c2.1,c2.2⟩,g _ (.rng _ _)⟩
section
variable{σ0:L2.St}
theorem Tf{K:ak}{as:List Ev.X}:DI Pg cl E d K (.zip as) (L2.aab K (tA Pg cl E d as)):=fun σ H R x=>by
 obtain⟨ρ,τ,h,n,s,rs,q⟩:=x.step;refine ev.then s rs (show Post cl ρ H E ((evs Pg n d (.a as) τ h).bind fun r h=>r.toL fun ws=>Ex ws fun v w=>h.at v fun n o=>o.onL fun _=>h.at w fun m o=>o.onL fun _=>.ok (.iv (.zip n m)) h) _ from q) fun a1 h1 ρ1 H1 b1 s1 p1=>?_;obtain⟨ws,rfl,p2⟩:=mL p1;refine⟨ws,rfl,fun vs rv=>?_⟩;obtain⟨u,v,u',v',rfl,rfl,r1,r2,p3⟩:=Ob rv p2;obtain⟨k,o,a,rfl,rfl,ea,ho,x1,p4⟩:=at_of s1 r1 p3;obtain⟨xs,rfl,p5⟩:=J9 p4;obtain⟨k2,o2,b,rfl,rfl,eb,ho2,x2,p6⟩:=at_of s1 r2 p5;obtain⟨ys,rfl,p7⟩:=J9 p6;obtain⟨v,e,f⟩:=p7.now s1;cases e;obtain⟨us,_,q1⟩:=x1;obtain⟨ws,_,q2⟩:=x2;exact⟨a,b,rfl,⟨us,SqL.of q1⟩,⟨ws,SqL.of q2⟩,f _ (.zip ea eb)⟩
theorem Th{ρ:List Addr}{H:Hp}{ws:List W}{vs:List V}{f:W->W->W->R A}{P:A->Hs->List Addr->Hp->Prop}(r:RWs ρ ws vs)(p:Post cl ρ H E (JX ws f) P):∃ a b c a' b' c',ws= [a,b,c]/\vs= [a',b',c']/\RW ρ a a'/\RW ρ b b'/\RW ρ c c'/\Post cl ρ H E (f a b c) P:=by
 cases r with
 | nil=>exact p.elim
 | cons r1 r=>cases r with
   | nil=>exact p.elim
   | cons r2 r=>cases r with
     | nil=>exact p.elim
     | cons r3 r=>cases r with
       | nil=>exact⟨_,_,_,_,_,_,rfl,rfl,r1,r2,r3,p⟩
       | cons _ _=>exact p.elim
theorem Yb{K:ak}{as:List Ev.X}:DI Pg cl E d K (.aap as) (L2.WL (tA Pg cl E d as)):=fun σ H R x=>by
 obtain⟨ρ,τ,h,n,s,rs,q⟩:=x.step;refine ev.then s rs (show Post cl ρ H E ((evs Pg n d (.a as) τ h).bind fun r h=>r.toL fun ws=>JX ws fun u v w=>u.onI fun i=>v.onI fun j=>w.onI fun k=>ifB (ieq k (-1)) (within i (within j (.ok (.iv (.dwn i (i - j).toNat)) h))) .no) _ from q) fun a1 h1 ρ1 H1 b1 s1 p1=>?_;obtain⟨ws,rfl,p2⟩:=mL p1;refine⟨ws,rfl,fun vs rv=>?_⟩;obtain⟨u,v,w,u',v',w',rfl,rfl,r1,r2,r3,p3⟩:=Th rv p2;obtain⟨i,rfl,p4⟩:=sJ p3;obtain⟨j,rfl,p5⟩:=sJ p4;obtain⟨k,rfl,p6⟩:=sJ p5;obtain⟨ek,p7⟩:=f9 p6;cases r1;cases r2;cases r3;unfold within at p7;obtain⟨c1,p8⟩:=f9 p7;obtain⟨c2,p9⟩:=f9 p8;obtain⟨c3,p10⟩:=f9 p9;obtain⟨c4,p11⟩:=f9 p10;rw[cD]at c1 c2 c3 c4;rw[jn]at ek;have ek:k= -1:=of_decide_eq_true ek;have c1:=of_decide_eq_true c1;have c2:=of_decide_eq_true c2;have c3:=of_decide_eq_true c3;have c4:=of_decide_eq_true c4;subst ek;obtain⟨v,e,f⟩:=p11.now s1;cases e;exact⟨i,j,rfl,⟨by omega,by omega,by omega,by omega⟩,f _ (.dwn i (i - j).toNat)⟩
theorem aaH{K:ak}{i:I}{t:Tg}{b:List S}{wi:TI}{D:Ends}(di:DI Pg cl E d K i wi)(x:tS Pg cl E d σ0 (.for_ i t b) D σ H):Zn wi (tG cl t) (tSs Pg cl E d σ0 b) D σ H:=by
 obtain⟨ρ,τ,h,n,s,rs,ag,q⟩:=x.step;refine di σ H _ (ev.then s rs (show Post cl ρ H E ((evs Pg n d (.i i) τ h).bind fun r h=>r.toV fun v=>evs Pg n d (.lp v 0 t b) τ h) (SPo σ0 D) from q) fun a1 h1 ρ1 H1 b1 s1 p1=>?_);obtain⟨v,rfl,p2⟩:=J8 p1;refine⟨v,rfl,fun J hJ=>?_⟩;refine⟨fun i m σ H=>∃ ρ τ h,Sim cl ρ h H/\RS ρ τ σ/\Ag σ0 τ σ/\lO K ρ v J/\Post cl ρ H E (evs Pg m d (.lp v i t b) τ h) (SPo σ0 D),⟨n,ρ1,τ,h1,s1,rs.mono b1.1,ag,hJ,p2⟩,?_⟩;rintro i m σ2 H2 ⟨ρ2,τ2,h2,s2,rs2,ag2,j2,p3⟩
 cases m with
 | zero=>exact p3.elim
 | succ m=>
   have p4:Post cl ρ2 H2 E (v.next i h2 (.ok (.fl (.nx τ2)) h2) fun w h2=>Opt (bx h2 9 t w τ2) fun τ=>(evs Pg m d (.ss b) τ h2).bind fun r h=>r.toF fun f=>v_ h f fun τ=>evs Pg m d (.lp v (i+1) t b) τ h) (SPo σ0 D):=p3
   rcases Oa s2 j2 p4 with ⟨st,p5⟩ | ⟨go,w,h2',yl⟩
   · obtain⟨f,ef,qf⟩:=p5.now s2;cases ef;exact .inl ⟨st,qf σ2 rs2 ag2⟩
   · refine .inr ⟨go,fun σ' H'=>∃ ρ τ h,Sim cl ρ h H'/\RS ρ τ σ'/\Ag σ0 τ σ'/\lO K ρ v J/\Post cl ρ H' E (evs Pg m d (.lp v (i+1) t b) τ h) (SPo σ0 D),fun σ' H' z=>⟨m,Nat.lt_succ_self m,z⟩,fun y H' yy=>?_⟩;obtain⟨Kg,bb,s2',rw,p5⟩:=yl y H' yy;obtain⟨τ3,e3,p6⟩:=jo p5;have aaI:=rs2.mono bb.1;have j2:=j2.mono bb.1;refine⟨Kg,h2',w,τ2,9,τ3,s2',rw,aaI,e3,fun σ3 rs3 o3=>?_⟩;refine evS.then s2' rs3 (N_ e3 aaI o3 ag2) p6 fun a4 h4 ρ4 H4 b4 s4 p7=>?_;obtain⟨f,rfl,p8⟩:=yu p7;refine⟨f,rfl,?_⟩
     cases f with
     | nx τ4=>exact fun σ4 rs4 ag4=>⟨ρ4,τ4,h4,s4,rs4,ag4,j2.mono b4.1,p8⟩
     | ct τ4=>exact fun σ4 rs4 ag4=>⟨ρ4,τ4,h4,s4,rs4,ag4,j2.mono b4.1,p8⟩
     | rt w4=>
       obtain⟨f,ef,qf⟩:=Post.now s4 (show Post cl ρ4 H4 E (.ok (.fl (.rt w4)) h4) (SPo σ0 D) from p8)
       cases ef;exact qf
     | bk τ4=>
       obtain⟨f,ef,qf⟩:=Post.now s4 (show Post cl ρ4 H4 E (.ok (.fl (.nx τ4)) h4) (SPo σ0 D) from p8);cases ef;exact qf
theorem Vz{c:Ev.X}{b:List S}{D:Ends}(x:tS Pg cl E d σ0 (.JZ c b) D σ H):RN (tT Pg cl E d c) (tSs Pg cl E d σ0 b) D σ H:=by
 obtain⟨ρ,τ,h,n,s,rs,ag,q⟩:=x.step;have q:Post cl ρ H E (evs Pg n d (.wh c b) τ h) (SPo σ0 D):=q;refine⟨fun m σ H=>∃ ρ τ h,Sim cl ρ h H/\RS ρ τ σ/\Ag σ0 τ σ/\Post cl ρ H E (evs Pg m d (.wh c b) τ h) (SPo σ0 D),⟨n,ρ,τ,h,s,rs,ag,q⟩,?_⟩;rintro m σ2 H2 ⟨ρ2,τ2,h2,s2,rs2,ag2,p3⟩
 cases m with
 | zero=>exact p3.elim
 | succ m=>
   refine ev.then s2 rs2 (show Post cl ρ2 H2 E ((evs Pg m d (.x c) τ2 h2).bind fun r h=>r.toW fun w=>w.onB (.ok (.fl (.nx τ2)) h) ((evs Pg m d (.ss b) τ2 h).bind fun r h=>r.toF fun f=>v_ h f fun τ=>evs Pg m d (.wh c b) τ h)) (SPo σ0 D) from p3) fun a1 h1 ρ1 H1 b1 s1 p1=>?_;obtain⟨w,rfl,p2⟩:=bR p1;refine⟨w,rfl,fun v rv=>?_⟩
   rcases vo p2 with ⟨rfl,p4⟩ | ⟨rfl,p4⟩
   · cases rv;refine⟨true,rfl,vV ?_⟩;refine⟨fun σ' H'=>∃ ρ τ h,Sim cl ρ h H'/\RS ρ τ σ'/\Ag σ0 τ σ'/\Post cl ρ H' E (evs Pg m d (.wh c b) τ h) (SPo σ0 D),fun σ' H' z=>⟨m,Nat.lt_succ_self m,z⟩,?_⟩;refine evS.then s1 (rs2.mono b1.1) ag2 p4 fun a4 h4 ρ4 H4 b4 s4 p7=>?_;obtain⟨f,rfl,p8⟩:=yu p7;refine⟨f,rfl,?_⟩
     cases f with
     | nx τ4=>exact fun σ4 rs4 ag4=>⟨ρ4,τ4,h4,s4,rs4,ag4,p8⟩
     | ct τ4=>exact fun σ4 rs4 ag4=>⟨ρ4,τ4,h4,s4,rs4,ag4,p8⟩
     | rt w4=>
       obtain⟨f,ef,qf⟩:=Post.now s4 (show Post cl ρ4 H4 E (.ok (.fl (.rt w4)) h4) (SPo σ0 D) from p8)
       cases ef;exact qf
     | bk τ4=>
       obtain⟨f,ef,qf⟩:=Post.now s4 (show Post cl ρ4 H4 E (.ok (.fl (.nx τ4)) h4) (SPo σ0 D) from p8);cases ef;exact qf
   · cases rv;refine⟨false,rfl,vU ?_⟩;obtain⟨f,ef,qf⟩:=p4.now s1;cases ef;exact qf σ2 (rs2.mono b1.1) ag2
theorem iG{iter tg:Expr}{body:List Stmt}{wi:TI}{i:I}{t:Tg}{b:List S}{pos:Pos}(hp:PassesOwn (model X.prog X.w) X.A X.env X.xe)(hc:X.calm=true)(di:DI Pg cl E d X.K i wi)(hi:PI X tg iter wi)(hg:PG X tg (tG cl t))(hb:PSs X body (tSs Pg cl E d σ0 b))
 (hs:∀ x,foldedSetIterable iter X.env x=pure x:=by intro _;rfl):PS X (.For tg iter body [] pos) (tS Pg cl E d σ0 (.for_ i t b)):=PS.of (yf hp hc hi hg hb hs) fun _ _ _ q=>aaH di q
theorem VB{c:Expr}{body:List Stmt}{x:Ev.X}{b:List S}{pos:Pos}(hp:PassesOwn (model X.prog X.w) X.A X.env X.xe)(hc:PT X c (tT Pg cl E d x))(hb:PSs X body (tSs Pg cl E d σ0 b)):PS X (.While c body [] pos) (tS Pg cl E d σ0 (.JZ x b)):=PS.of (Uy hp hc hb) fun _ _ _ q=>Vz q
end
end
section
variable{Pg:List Fn}{cl:Cn}{E:XK}{d:Nat}{X:Cx}{σ:L2.St}{H:Hp}
noncomputable def tCd(Pg:List Fn)(cl:Cn)(d:Nat):Option Ev.X->TT
 | none=>WD
 | some c=>tT Pg cl E0 d c
theorem Qy:∀ {σ σ':L2.St},σ'.length=σ.length->(∀(i:Nat) (v:V),σ[i]? =some (some v)->σ'[i]? =some (some v))->Wk σ σ'
 | [],[],_,_=>trivial
 | [],_::_,h,_=>by simp at h
 | _::_,[],h,_=>by simp at h
 | none::r,b::r',h,f=>by
   show Wk r r'
   exact Qy (by simpa using h) fun i v e=>by simpa using f (i+1) v (by simpa using e)
 | some a::r,b::r',h,f=>by
   have hb:=f 0 a rfl;refine⟨by simpa using hb,Qy (by simpa using h) fun i v e=>by simpa using f (i+1) v (by simpa using e)⟩
theorem Off.wk{vs:List Nat}{σ σ':L2.St}(o:Off vs σ σ')(h:∀ i ∈ vs,σ[i]? =some none):Wk σ σ':=Qy o.1 fun i v e=>by
 by_cases hi:i ∈ vs
 · rw[h i hi]at e;cases e
 · rw[o.2 i hi];exact e
noncomputable def Inn(Pg:List Fn)(cl:Cn)(d:Nat)(e:Ev.X)(D0:Nat)(D:Addr)(m:Option G)(C:L2.St->Prop)(tin:TN):Prop:=∀(σ1:L2.St) (τ1:Sg) (h:Hs) (ρ:List Addr) (H:Hp) (n:Nat) (k:Hs->R A) (P:A->Hs->List Addr->Hp->Prop) (N:Hp->Prop),Sim cl ρ h H->RS ρ τ1 σ1->ρ[D0]? =some D->C σ1->
 Post cl ρ H E0 (inner (a_ Pg d) n τ1 h e D0 m k) P->(∀ h' ρ' H',Bt cl ρ H ρ' H'->Sim cl ρ' h' H'->Post cl ρ' H' E0 (k h') P->N H')->tin σ1 H N
theorem Od{K:ak}{v:Iv}{J:It}{t:Tg}{c:Option Ev.X}{m:Option G}{e:Ev.X}{D0:Nat}{D:Addr}{C:L2.St->Prop}{tin:TN}(hin:Inn Pg cl d e D0 D m C tin){ρ:List Addr}{h:Hs}{τ:Sg}{n:Nat}{P:A->Hs->List Addr->Hp->Prop}{Q:Hp->Prop}
 (s:Sim cl ρ h H) (rs:RS ρ τ σ) (hJ:lO K ρ v J) (hD:ρ[D0]? =some D) (hv:∀ i ∈ vars t,σ[i]? =some none) (hC:∀ σ1,Off (vars t) σ σ1->C σ1) (p:Post cl ρ H E0 (evs Pg n d (.cl v 0 t c m e D0) τ h) P)
 (hQ:∀ r h' ρ' H',Bt cl ρ H ρ' H'->Sim cl ρ' h' H'->P r h' ρ' H'->Q H'):Cr J (tG cl t) (tCd Pg cl d c) tin σ H Q:=by
 refine⟨fun i m' H'=>∃ ρ' h',Bt cl ρ H ρ' H'/\Sim cl ρ' h' H'/\Post cl ρ' H' E0 (evs Pg m' d (.cl v i t c m e D0) τ h') P,⟨n,ρ,h,Bt.refl,s,p⟩,?_⟩;rintro i m' H2 ⟨ρ2,h20,b2,s20,p2⟩
 cases m' with
 | zero=>exact p2.elim
 | succ m'=>
   have p3:Post cl ρ2 H2 E0 (v.next i h20 (.ok .u h20) fun w h2=>Opt (bx h2 9 t w τ) fun τ1=>
    test (a_ Pg d) m' τ1 h2 c (fun h=>evs Pg m' d (.cl v (i+1) t c m e D0) τ h) (fun h=>inner (a_ Pg d) m' τ1 h e D0 m fun h=>evs Pg m' d (.cl v (i+1) t c m e D0) τ h)) P:=p2
   rcases Oa s20 (hJ.mono b2.1) p3 with ⟨st,p4⟩ | ⟨go,w,h2,yl⟩
   · exact .inl ⟨st,hQ _ _ _ _ b2 s20 (p4.now s20)⟩
   · refine .inr ⟨go,fun H'=>∃ ρ' h',Bt cl ρ H ρ' H'/\Sim cl ρ' h' H'/\Post cl ρ' H' E0 (evs Pg m' d (.cl v (i+1) t c m e D0) τ h') P,fun H' z=>⟨m',Nat.lt_succ_self m',z⟩,fun y H' yy=>?_⟩;obtain⟨Kg,bb,s2,rw,p4⟩:=yl y H' yy;obtain⟨τ1,e1,p5⟩:=jo p4;have b2:=b2.trans bb;refine⟨Kg,h2,w,τ,9,τ1,s2,rw,rs.mono b2.1,e1,fun σ1 rs1 o1=>⟨o1.wk hv,?_⟩⟩
     have fin:∀ {ρ3:List Addr} {h3:Hs} {H3:Hp},Bt cl Kg H' ρ3 H3->Sim cl ρ3 h3 H3->Post cl ρ3 H3 E0 (inner (a_ Pg d) m' τ1 h3 e D0 m fun h=>evs Pg m' d (.cl v (i+1) t c m e D0) τ h) P->
      tin σ1 H3 fun H'=>∃ ρ' h',Bt cl ρ H ρ' H'/\Sim cl ρ' h' H'/\Post cl ρ' H' E0 (evs Pg m' d (.cl v (i+1) t c m e D0) τ h') P:=fun {ρ3 h3 H3} b3 s3 q3=>
      hin σ1 τ1 h3 ρ3 H3 m' _ P _ s3 (rs1.mono b3.1) (gJ (b2.1.trans b3.1) hD) (hC σ1 o1) q3 fun h' ρ' H' b' s' q'=>⟨ρ',h',(b2.trans b3).trans b',s',q'⟩
     cases c with
     | none=>exact fin Bt.refl s2 p5
     | some c=>
       refine ev.then s2 rs1 (show Post cl Kg H' E0 ((evs Pg m' d (.x c) τ1 h2).bind fun r h=>r.toW fun w=>w.onB (evs Pg m' d (.cl v (i+1) t (some c) m e D0) τ h) (inner (a_ Pg d) m' τ1 h e D0 m fun h=>evs Pg m' d (.cl v (i+1) t (some c) m e D0) τ h)) P from p5) fun a3 h3 ρ3 H3 b3 s3 p6=>?_;obtain⟨w3,rfl,p7⟩:=bR p6;refine⟨w3,rfl,fun v3 rv3=>?_⟩
       rcases vo p7 with ⟨rfl,p8⟩ | ⟨rfl,p8⟩
       · cases rv3;exact⟨true,rfl,vV (fin b3 s3 p8)⟩
       · cases rv3;exact⟨false,rfl,vU ⟨ρ3,h3,b2.trans b3,s3,p8⟩⟩
theorem Bm{e:Ev.X}{D0:Nat}{D:Addr}{C:L2.St->Prop}:Inn Pg cl d e D0 D none C (Cu D (tE Pg cl E0 d e)):=fun σ1 τ1 h ρ H n k P N s rs hD _ p hN=>by
 refine ev.then s rs (show Post cl ρ H E0 ((evs Pg n d (.x e) τ1 h).bind fun r h=>r.toW fun w=>(vm h (.ref D0) w).bind fun _ h=>k h) P from p) fun a1 h1 ρ1 H1 b1 s1 p1=>?_;obtain⟨w,rfl,p2⟩:=bR p1;refine⟨w,rfl,fun v rv=>?_⟩;have hD1:=gJ b1.1 hD;obtain⟨o,ho,x1⟩:=s1.obj D0 D hD1;have e1:vm h1 (.ref D0) w=Opt (h1.get D0) fun o=>o.onL fun xs=>size xs (.ok .non (h1.set D0 (.lst (app xs [w])))):=rfl;rw[e1,ho]at p2
 cases o with
 | lst xs=>
   have p3:Post cl ρ1 H1 E0 ((size xs (.ok .non (h1.set D0 (.lst (app xs [w]))))).bind fun _ h=>k h) P:=p2;unfold size at p3;rw[ble_eq,len_eq]at p3
   by_cases z:xs.length<=16777215
   · rw[decide_eq_true z]at p3;obtain⟨vs,rvs,q⟩:=x1;have hl:=rvs.length;refine⟨vs,q,by rw[m6];omega,?_⟩;have s2:Sim cl ρ1 (h1.set D0 (.lst (app xs [w]))) (upd H1 D (.lst (vs ++ [v]))):=s1.put hD1 ⟨_,by rw[kE];exact rvs.append (.cons rv .nil),az⟩;refine hN _ ρ1 _ (b1.trans (Bt.put hD1)) s2 ?_;exact(show Post cl ρ1 H1 E0 (k (h1.set D0 (.lst (app xs [w])))) P from p3).later (Bt.put hD1)
   · rw[decide_eq_false z]at p3
     exact p3.elim
 | _=>exact p2.elim
theorem Yc{K:ak}{i2:I}{t2:Tg}{c2:Option Ev.X}{wi2:TI}{e:Ev.X}{D0:Nat}{D:Addr}(di:DI Pg cl E0 d K i2 wi2):Inn Pg cl d e D0 D (some (.mk i2 t2 c2)) (fun σ=>∀ i ∈ vars t2,σ[i]? =some none) (Sh wi2 (tG cl t2) (tCd Pg cl d c2) (Cu D (tE Pg cl E0 d e))):=fun σ1 τ1 h ρ H n k P N s rs hD hC p hN=>by
 refine di σ1 H _ (ev.then s rs (show Post cl ρ H E0 ((evs Pg n d (.i i2) τ1 h).bind fun r h=>r.toV fun v=>(evs Pg n d (.cl v 0 t2 c2 none e D0) τ1 h).bind fun _ h=>k h) P from p) fun a1 h1 ρ1 H1 b1 s1 p1=>?_);obtain⟨v,rfl,p2⟩:=J8 p1;refine⟨v,rfl,fun J hJ=>?_⟩;refine Od Bm (C:=fun _=>True) s1 (rs.mono b1.1) hJ (gJ b1.1 hD) hC (fun _ _=>trivial) p2.bind fun r h' ρ' H' b' s' q=>?_;exact hN h' ρ' H' (b1.trans b') s' q
theorem aaJ{ρ:List Addr}{H:Hp}{α:Type}{r:R α}{P:α->Hs->List Addr->Hp->Prop}(p:Post cl ρ H E r.nox P):Post cl ρ H E0 r P:=by
 cases r with
 | ok a h=>exact p
 | ex C fs h=>exact p.elim
 | no=>exact p
theorem Ti{ρ:List Addr}{τ:Sg}(rs:RS ρ τ σ)(nt:Nat)(idx:List Nat):RS ρ (lN nt idx τ) (sgb nt idx σ):=by
 have base:RS ρ (List.rec (motive:=fun _=>Sg) [] (fun i _ r=>cN τ i::r) idx) (idx.map fun j=>(σ[j]?).getD none):=by
  induction idx with
  | nil=>exact .nil
  | cons i idx ih=>
    refine .cons ?_ ih;show RO ρ (cN τ i) ((σ[i]?).getD none)
    cases e:cN τ i with
    | none=>exact trivial
    | some w=>
      obtain⟨v,ev,rv⟩:=rs.get e;rw[ev];exact rv
 unfold sgb
 induction nt with
 | zero=>exact base
 | succ nt ih=>exact .cons trivial ih
theorem Kh{nt:Nat}{idx:List Nat}{i:Nat}(h:i<nt):(sgb nt idx σ)[i]? =some none:=by
 unfold sgb;rw[List.getElem?_append_left (by simpa using h),List.getElem?_replicate,if_pos h]
theorem Fd{K:ak}{nt:Nat}{idx:List Nat}{it:I}{t:Tg}{c:Option Ev.X}{m:Option G}{e:Ev.X}{wi:TI}{tin:Addr->TN}{Q:VK}(di:DI Pg cl E d K it wi){C:L2.St->Prop}(hin:∀ D0 D,Inn Pg cl d e D0 D m C (tin D))(hv:∀ i ∈ vars t,i<nt)
 (hC:∀ σ σ1,Off (vars t) (sgb nt idx σ) σ1->C σ1) (x:tE Pg cl E d (.comp nt idx it t c m e) σ H Q):Jh nt idx wi (tG cl t) (tCd Pg cl d c) tin σ H Q:=by
 obtain⟨ρ,τ,h,n,s,rs,q⟩:=x.step;refine di σ H _ (ev.then s rs (show Post cl ρ H E ((evs Pg n d (.i it) τ h).bind fun r h=>r.toV fun v=>(evs Pg n d (.cl v 0 t c m e h.n) (lN nt idx τ) (h.push (.lst []))).nox.bind fun _ h'=>.ok (.w (.ref h.n)) h') (VP Q) from q) fun a1 h1 ρ1 H1 b1 s1 p1=>?_);obtain⟨v,rfl,p2⟩:=J8 p1;refine⟨v,rfl,fun J hJ D hD=>?_⟩;have s2:Sim cl (ρ1 ++ [D]) (h1.push (.lst [])) (upd H1 D (.lst [])):=s1.push hD ⟨[],.nil,az⟩;have gD:(ρ1 ++ [D])[h1.n]? =some D:=by rw[<- s1.len,List.getElem?_append_right (aA _),Nat.sub_self];rfl
 refine Od (hin h1.n D) s2 ((Ti rs nt idx).mono (b1.1.trans (List.prefix_append _ _))) (hJ.mono (List.prefix_append _ _)) gD (fun i hi=>Kh (hv i hi)) (fun σ1 o=>hC σ σ1 o) (aaJ (p2.later (Bt.new hD)).bind) fun r h' ρ' H' b' s' q'=>?_;exact Post.gb s' q' (.ref (gJ b'.1 gD))
theorem lA:PTs X [] (tCd Pg cl d none):=Xy
theorem zN{c:Expr}{x:Ev.X}(h:PT X c (tT Pg cl E0 d x)):PTs X [c] (tCd Pg cl d (some x)):=Eu h
variable{N':List Str}{sc:Scope}{nt:Nat}{idx:List Nat}{elt tg iter tg2 cF:Expr}{ifs jc:List Expr}{gs:List Comprehension}{pos:Pos}{wi wi2:TI}{it it2:I}{t t2:Tg}{c c2:Option Ev.X}{e:Ev.X}
theorem jw(B:rD X N' sc nt idx)(hc:X.calm=true)(di:DI Pg cl E d X.K it wi)(hi:PI X tg iter wi)(hg:∀ C s₀ H₀ fp,PG (blk X N' sc C s₀ H₀ fp) tg (tG cl t))(hif:∀ C s₀ H₀ fp,PTs (blk X N' sc C s₀ H₀ fp) ifs (tCd Pg cl d c))(he:∀ C s₀ H₀ fp,PE (blk X N' sc C s₀ H₀ fp) elt (tE Pg cl E0 d e))(hv:∀ i ∈ vars t,i<nt)
 (hs:∀ x,foldedSetIterable iter X.env x=pure x:=by intro _;rfl):PE X (.ListComp elt [⟨tg,iter,ifs,0⟩] sc pos) (tE Pg cl E d (.comp nt idx it t c none e)):=
 PE.of (Nx B hc hi (Ji hg hif he) hs) fun _ _ _ q=>Fd di (C:=fun _=>True) (fun _ _=>Bm) hv (fun _ _ _=>trivial) q
theorem aaK(hv:∀ i ∈ vars t,i<nt)(hv2:∀ i ∈ vars t2,i<nt/\i ∉ vars t)(σ σ1:L2.St)(o:Off (vars t) (sgb nt idx σ) σ1):∀ i ∈ vars t2,σ1[i]? =some none:=fun i hi=>by
 obtain⟨h1,h2⟩:=hv2 i hi;rw[o.2 i h2];exact Kh h1
theorem Kl{σ0:L2.St}{i:Nat}{y:Str}{py spos:Pos}(hN:X.N.Nodup)(hi':X.N[i]? =some y)(hy:Loc X.env.scope y)(B:rD X N' sc nt idx)(hc:X.calm=true)(di:DI Pg cl E d X.K it wi)(hi:PI X tg iter wi)(hg:∀ C s₀ H₀ fp,PG (blk X N' sc C s₀ H₀ fp) tg (tG cl t))(hif:∀ C s₀ H₀ fp,PTs (blk X N' sc C s₀ H₀ fp) ifs (tCd Pg cl d c))(he:∀ C s₀ H₀ fp,PE (blk X N' sc C s₀ H₀ fp) elt (tE Pg cl E0 d e))(hv:∀ i ∈ vars t,i<nt)
 (hsw:swapsWith (.ListComp elt [⟨tg,iter,ifs,0⟩] sc pos) (some (.Name y py)) spos.line X.env=pure true:=by rfl) (hs:∀ x,foldedSetIterable iter X.env x=pure x:=by intro _;rfl)
 (hf:X.fn y=true\/X.env.scope.names.lookup y=some .local:=by first | exact .inl rfl | exact .inr rfl | assumption):
 PS X (.Assign [.Name y py] (.ListComp elt [⟨tg,iter,ifs,0⟩] sc pos) spos) (tS Pg cl E d σ0 (.asg (.nm i) (.comp nt idx it t c none e))):=
 PS.of (Ew hN hi' hy B hc hi (Ji hg hif he) hsw hs hf) fun D σ H q=>by
 obtain⟨ρ,τ,h,n,s,rs,p⟩:=CN q;exact Fd di (C:=fun _=>True) (fun _ _=>Bm) hv (fun _ _ _=>trivial) ⟨ρ,τ,h,n,s,rs,p.mono fun a h ρ H _ _ ⟨w,e,g⟩=>⟨w,e,fun v rv=>wj (g v rv)⟩⟩
theorem VD{σ0:L2.St}{i:Nat}{y:Str}{py spos:Pos}(hN:X.N.Nodup)(hi':X.N[i]? =some y)(hy:Loc X.env.scope y)(B:rD X N' sc nt idx)(hc:X.calm=true)(di:DI Pg cl E d X.K it wi)(hi:PI X tg iter wi)(hg:∀ C s₀ H₀ fp,PG (blk X N' sc C s₀ H₀ fp) tg (tG cl t))(hif:∀ C s₀ H₀ fp,PTs (blk X N' sc C s₀ H₀ fp) ifs (tCd Pg cl d c))
 (di2:DI Pg cl E0 d X.K it2 wi2) (hi2:∀ C s₀ H₀ fp,PI (blk X N' sc C s₀ H₀ fp) tg2 cF wi2) (hg2:∀ C s₀ H₀ fp,PG (blk X N' sc C s₀ H₀ fp) tg2 (tG cl t2)) (Vd:∀ C s₀ H₀ fp,PTs (blk X N' sc C s₀ H₀ fp) jc (tCd Pg cl d c2))
 (he:∀ C s₀ H₀ fp,PE (blk X N' sc C s₀ H₀ fp) elt (tE Pg cl E0 d e)) (hv:∀ i ∈ vars t,i<nt) (hv2:∀ i ∈ vars t2,i<nt/\i ∉ vars t)
 (hsw:swapsWith (.ListComp elt [⟨tg,iter,ifs,0⟩,⟨tg2,cF,jc,0⟩] sc pos) (some (.Name y py)) spos.line X.env=pure true:=by rfl) (hs:∀ x,foldedSetIterable iter X.env x=pure x:=by intro _;rfl) (hs2:∀ C s₀ H₀ fp x,foldedSetIterable cF (blk X N' sc C s₀ H₀ fp).env x=pure x:=by intro _ _ _ _ _;rfl)
 (hf:X.fn y=true\/X.env.scope.names.lookup y=some .local:=by first | exact .inl rfl | exact .inr rfl | assumption):
 PS X (.Assign [.Name y py] (.ListComp elt [⟨tg,iter,ifs,0⟩,⟨tg2,cF,jc,0⟩] sc pos) spos) (tS Pg cl E d σ0 (.asg (.nm i) (.comp nt idx it t c (some (.mk it2 t2 c2)) e))):=
 PS.of (Ew hN hi' hy B hc hi (abW hc hg hif hi2 hg2 Vd he hs2) hsw hs hf) fun D σ H q=>by
 obtain⟨ρ,τ,h,n,s,rs,p⟩:=CN q;exact Fd di (fun _ _=>Yc di2) hv (aaK hv hv2) ⟨ρ,τ,h,n,s,rs,p.mono fun a h ρ H _ _ ⟨w,e,g⟩=>⟨w,e,fun v rv=>wj (g v rv)⟩⟩
end
section
variable{Pg:List Fn}{cl:Cn}{E:XK}{d:Nat}{X:Cx}{σ:L2.St}{H:Hp}
noncomputable def spF(Pg:List Fn)(cl:Cn)(d f:Nat):Sp:=fun vs H Q E=>∃ ρ ws h n,Sim cl ρ h H/\RWs ρ ws vs/\Post cl ρ H E (evs Pg n d (.call f ws) [] h) (VP Q)
theorem call_of{f:Nat}{as:List Ev.X}{Q:VK}(x:tE Pg cl E d (.call f as) σ H Q):zE (spF Pg cl d f) [] E (tA Pg cl E d as) σ H Q:=by
 obtain⟨ρ,τ,h,n,s,rs,q⟩:=x.step;refine ev.then s rs (show Post cl ρ H E ((evs Pg n d (.a as) τ h).bind fun a h=>a.toL fun ws=>evs Pg n d (.call f ws) [] h) (VP Q) from q) fun a1 h1 ρ1 H1 b1 s1 p1=>?_;obtain⟨ws,rfl,p2⟩:=mL p1;exact⟨ws,rfl,fun vs rv=>⟨ρ1,ws,h1,n,s1,by rw[List.append_nil];exact rv,p2⟩⟩
theorem sV{f:Nat}{ws:List W}{h:Hs}{n:Nat}{ρ:List Addr}{P:A->Hs->List Addr->Hp->Prop}(p:Post cl ρ H E (evs Pg n d (.call f ws) [] h) P):∃ n' d' F,d=d'+1/\Pg[f]? =some F/\Post cl ρ H E (body (evs Pg n') d' h ws F) P:=by
 cases n with
 | zero=>exact p.elim
 | succ n=>
   cases d with
   | zero=>exact p.elim
   | succ d=>
     obtain⟨F,e,q⟩:=jo (show Post cl ρ H E (Opt (nth Pg f) (body (evs Pg n) d h ws)) P from p);rw[oA]at e;exact⟨n,d,F,rfl,e,q⟩
theorem zO{np nn:Nat}{b:List S}{ws:List W}{h:Hs}{n:Nat}{ρ:List Addr}{P:A->Hs->List Addr->Hp->Prop}(p:Post cl ρ H E (body (evs Pg n) d h ws (.mk np nn b)) P):ws.length=np/\Post cl ρ H E ((evs Pg n d (.ss b) (frame nn ws) h).bind fun r h=>r.toF fun f=>zJ h f) P:=by
 obtain⟨e,q⟩:=f9 (show Post cl ρ H E (ifB (Nat.beq (len ws) np) ((evs Pg n d (.ss b) (frame nn ws) h).bind fun r h=>r.toF fun f=>zJ h f) .no) P from p);rw[len_eq]at e;exact⟨ie.mp e,q⟩
theorem Km{ρ:List Addr}{ws:List W}{vs:List V}(r:RWs ρ ws vs)(N:List Str):RS ρ (frame N.length ws) (L2.start N vs):=by
 unfold frame L2.start;rw[kE,len_eq,r.length]
 have rep:∀ k:Nat,RS ρ (Nat.rec (motive:=fun _=>Sg) [] (fun _ r=>none::r) k) (List.replicate k none):=fun k=>by
  induction k with
  | zero=>exact .nil
  | succ k ih=>exact .cons trivial ih
 have app':∀ {a b:Sg} {u w:L2.St},RS ρ a u->RS ρ b w->RS ρ (a++b) (u++w):=by
  intro a b u w r1 r2
  induction r1 with
  | nil=>exact r2
  | cons x _ ih=>exact .cons x ih
 refine app' ?_ (rep _)
 have go:∀ {ws:List W} {vs:List V},RWs ρ ws vs->RS ρ (List.rec (motive:=fun _=>Sg) [] (fun w _ r=>some w::r) ws) (vs.map some):=by
  intro ws vs r
  induction r with
  | nil=>exact .nil
  | cons r1 _ ih=>exact .cons r1 ih
 exact go r
theorem cg{P:Program}{w:World}{K:ak}{mg:Str->Option Value}{base:Heap}{k i:Nat}{x qual:Str}{st:Stmt}{f:Addr}{fd:FuncData}{N ps:List Str}{b:List S}(F:Fun K x qual st f fd)(Sc:aD N ps (aj st))(hp:Pg[i]? =some (.mk ps.length N.length b))
 (hbody:∀(σ0:L2.St) (cdv:Value) (A:Around) (outer:List Env) (s:Shared) (H:Hp) (E:XK),bD k (A.deeper (envOfC qual (aj st) s.heap.objs.size f cdv))->Passes (CXE P w) (cB (CXE P w) P w K mg base N qual (aj st) f cdv A outer s H E) E->
   PSs (cB (CXE P w) P w K mg base N qual (aj st) f cdv A outer s H E) (bA st) (tSs Pg cl E d σ0 b)):bB P w K mg base (CXE P w) (k+1) f fd ps (spF Pg cl (d+1) i):=by
 obtain⟨oc,od,kV,doc,pm,an,cdv,ct,osl,rfl,lk,hcd⟩:=F.ex
 have VG:∀ vs H Q E,spF Pg cl (d+1) i vs H Q E->vs.length=ps.length:=fun vs H Q E ⟨ρ,ws,h,n,s,r,p⟩=>by
  obtain⟨n',d',F',e1,e2,q⟩:=sV p;rw[hp]at e2;cases e2;rw[<- r.length];exact(zO q).1
 refine PJ lk hcd Sc VG fun A outer s H vs Q E hr hsp=>?_;obtain⟨ρ,ws,h,n,s1,r,p⟩:=hsp;obtain⟨n',d',F',e1,e2,q⟩:=sV p;rw[hp]at e2;cases e2;cases e1;obtain⟨_,q2⟩:=zO q;refine⟨_,hbody (L2.start N vs) cdv A outer s H E hr (Be ⟨rfl,rfl,rfl⟩ rfl (fun _ _ _ z=>z)),ρ,frame N.length ws,h,n',s1,Km r N,fun _ _=>rfl,q2.bind.mono fun a h1 ρ1 H1 b1 s2 p2=>?_⟩;obtain⟨fl,rfl,p3⟩:=yu p2;refine⟨fl,rfl,?_⟩
 cases fl with
 | nx τ=>exact fun σ' _ _=>Post.gb s2 (show Post cl ρ1 H1 E (.ok (.w .non) h1) (VP Q) from p3) .non
 | rt w=>exact fun v rv=>Post.gb s2 (show Post cl ρ1 H1 E (.ok (.w w) h1) (VP Q) from p3) rv
 | bk τ=>exact p3.elim
 | ct τ=>exact p3.elim
theorem vC{k f:Nat}{fa:Addr}{fd:FuncData}{ps:List Str}{x:Str}{e:Expr}{es:List Expr}{y:Ev.X}{ys:List Ev.X}{p pos:Pos}(F:bB X.prog X.w X.K X.mg X.base (CXE X.prog X.w) k fa fd ps (spF Pg cl d f))(hr:bD k X.A)(hg:Gl X x)(hm:X.mg x=some (.ref fa))(hk:PySem.W.keepIn X.K (.ref fa)=true)(hb:Binds X.K fd ps [])
 (hx:Passes (CXE X.prog X.w) X E) (ha:PA X (e::es) (tA Pg cl E d (y::ys))) (hdb:(x==("__debug__":Str))=false:=by decide) (he:starEach (e::es) X.env=(false,eval e X.env)::starEach es X.env:=by rfl) (hpl:(backTo pos (starEach es X.env)).any (·.1)=false:=by rfl):
 PE X (.Call (.Name x p) (e::es) [] pos) (tE Pg cl E d (.call f (y::ys))):=PE.of (vf F hr hg hm hk hb .nil hx ha hdb he hpl) fun _ _ _ q=>call_of q
theorem aaL{C:Nat}{o:Ev.X}{f:List Nat}{K:ak}{Q:VK}(c:Cls K (cl C))(na:cL K (cl C) (nm f))(x:tE Pg cl E d (.fld C o f) σ H Q):Zt K (tE Pg cl E d o) (nm f) σ H Q:=by
 obtain⟨ρ,τ,h,n,s,rs,q⟩:=x.step;refine ev.then s rs (show Post cl ρ H E ((evs Pg n d (.x o) τ h).bind fun r h=>r.toW fun w=>h.at w fun _ o=>o.onI fun C' fs=>ifB (Nat.beq C C') (Opt (fget fs f) fun w=>.ok (.w w) h) .no) (VP Q) from q) fun a1 h1 ρ1 H1 b1 s1 p1=>?_;obtain⟨w,rfl,p2⟩:=bR p1;refine⟨w,rfl,fun v rv=>?_⟩;obtain⟨k,ob,a,rfl,rfl,e1,g1,x1,p3⟩:=at_of s1 rv p2;obtain⟨C',fs,rfl,p4⟩:=Ey p3;obtain⟨ec,p5⟩:=f9 p4;obtain⟨w2,ew,p6⟩:=jo p5;have ec:=ie.mp ec;subst ec;obtain⟨dx,gs,fr,qh⟩:=x1;obtain⟨u,eu,ru⟩:=fr.get ew;exact⟨a,_,dx,gs,u,rfl,qh,c,na,eu,Post.gb s1 p6 ru⟩
theorem iH{C:Nat}{e:Expr}{o:Ev.X}{f:Str}{fc:List Nat}{pos:Pos}(c:Cls X.K (cl C))(na:cL X.K (cl C) f)(he:PE X e (tE Pg cl E d o))(ef:f=nm fc:=by decide +kernel)(hb:attributeBase e f X.env (eval e X.env)=eval e X.env:=by rfl):PE X (.Attribute e f pos) (tE Pg cl E d (.fld C o fc)):=by
 subst ef;exact PE.of (Zu he hb) fun _ _ _ q=>aaL c na q
theorem FR.put{ρ:List Addr}{f:List Nat}{w:W}{v:V}(r:RW ρ w v):∀ {fs:Fs} {gs:List (Str × V)},FR ρ fs gs->FR ρ (Ql f w fs) (jY (nm f) v gs)
 | _,_,.nil=>.cons ⟨rfl,r⟩ .nil
 | p::fs,(x,u)::gs,.cons z t=>by
   obtain⟨e1,r1⟩:=z;have e1:x=nm p.1:=e1;show FR ρ (ifB (codes p.1 f) ((f,w)::fs) (p::Ql f w fs)) (if x=nm f then(x,v)::gs else(x,u)::jY (nm f) v gs)
   cases c:codes p.1 f with
   | true=>
     have ec:=cG.mp c;rw[if_pos (by rw[e1,ec])]
     exact .cons ⟨by show x=nm f;rw[e1,ec],r⟩ t
   | false=>
     rw[if_neg (fun z=>by rw[e1]at z;rw[cG.mpr (sI z)]at c;cases c)];exact .cons ⟨e1,r1⟩ (FR.put r t)
theorem FR.length{ρ:List Addr}{fs:Fs}{gs:List (Str × V)}(h:FR ρ fs gs):fs.length=gs.length:=Paired.length h
theorem Ko{σ0:L2.St}{C:Nat}{o value:Expr}{xo xv:Ev.X}{f:Str}{fc:List Nat}{pos pos':Pos}(c:Cls X.K (cl C))(na:cL X.K (cl C) f)(ha:PE X o (tE Pg cl E d xo))(hv:PE X value (tE Pg cl E d xv))(ef:f=nm fc:=by decide +kernel)(hs:swapsWith value (some (.Attribute o f pos')) pos.line X.env=pure false:=by rfl):
 PS X (.Assign [.Attribute o f pos'] value pos) (tS Pg cl E d σ0 (.Qu C xo fc xv)):=by
 subst ef;refine PS.of (Zv ha hv hs) fun D σ H x=>?_;obtain⟨ρ,τ,h,n,s,rs,ag,q⟩:=x.step;refine ev.then s rs (show Post cl ρ H E ((evs Pg n d (.x xv) τ h).bind fun r h=>r.toW fun w=>(evs Pg n d (.x xo) τ h).bind fun r h=>r.toW fun o=>h.at o fun n o=>o.onI fun C' fs=>ifB (Nat.beq C C') (ifB (Nat.ble (len fs) 900) (.ok (.fl (.nx τ)) (h.set n (.ins C (Ql fc w fs)))) .no) .no) (SPo σ0 D) from q) fun a1 h1 ρ1 H1 b1 s1 p1=>?_;obtain⟨w,rfl,p2⟩:=bR p1;refine⟨w,rfl,fun v rv=>?_⟩;refine ev.then s1 (rs.mono b1.1) p2 fun a2 h2 ρ2 H2 b2 s2 p3=>?_;obtain⟨w2,rfl,p4⟩:=bR p3;refine⟨w2,rfl,fun v2 rv2=>?_⟩;obtain⟨k,ob,a,rfl,rfl,e1,g1,x1,p5⟩:=at_of s2 rv2 p4;obtain⟨C',fs,rfl,p6⟩:=Ey p5;obtain⟨ec,p7⟩:=f9 p6;obtain⟨el,p8⟩:=f9 p7;have ec:=ie.mp ec;subst ec;rw[ble_eq,len_eq]at el;have el:=of_decide_eq_true el;obtain⟨dx,gs,fr,qh⟩:=x1;have hl:=fr.length;refine⟨a,_,dx,gs,rfl,qh,c,na,by omega,?_⟩;obtain⟨fl,efl,qf⟩:=p8 ρ2 (upd H2 a (.ins (cl C) dx (jY (nm fc) v gs))) (Bt.put e1) (s2.put e1 ⟨dx,_,fr.put (rv.mono b2.1),az⟩);cases efl;exact qf σ ((rs.mono b1.1).mono b2.1) ag
theorem Kq{C f:Nat}{m:List Nat}{o:Ev.X}{as:List Ev.X}{Q:VK}(x:tE Pg cl E d (.meth C m f o as) σ H Q):PB (cl C) (nm m) (spF Pg cl d f) [] E (tE Pg cl E d o) (tA Pg cl E d as) σ H Q:=by
 obtain⟨ρ,τ,h,n,s,rs,q⟩:=x.step
 refine ev.then s rs (show Post cl ρ H E ((evs Pg n d (.x o) τ h).bind fun r h=>r.toW fun w=>h.at w fun _ o=>o.onI fun C' fs=>
  ifB (Nat.beq C C') (Option.rec ((evs Pg n d (.a as) τ h).bind fun a h=>a.toL fun ws=>evs Pg n d (.call f (w::ws)) [] h) (fun _=>.no) (fget fs m)) .no) (VP Q) from q) fun a1 h1 ρ1 H1 b1 s1 p1=>?_
 obtain⟨w,rfl,p2⟩:=bR p1;refine⟨w,rfl,fun v rv=>?_⟩;obtain⟨k,ob,a,rfl,rfl,e1,g1,x1,p3⟩:=at_of s1 rv p2;obtain⟨C',fs,rfl,p4⟩:=Ey p3;obtain⟨ec,p5⟩:=f9 p4;have ec:=ie.mp ec;subst ec;obtain⟨dx,gs,fr,qh⟩:=x1
 cases eg:fget fs m with
 | some z=>rw[eg]at p5;exact p5.elim
 | none=>
   rw[eg]at p5;refine⟨a,dx,gs,rfl,qh,fr.aaq eg,?_⟩;refine ev.then s1 (rs.mono b1.1) p5 fun a2 h2 ρ2 H2 b2 s2 p6=>?_;obtain⟨ws,rfl,p7⟩:=mL p6;exact⟨ws,rfl,fun vs rs'=>⟨ρ2,_,h2,n,s2,by rw[List.append_nil];exact .cons (rv.mono b2.1) rs',p7⟩⟩
theorem aaM{Q:List V->Hp->Prop}(z:tA Pg cl E d [] σ H Q):Q [] H:=by
 obtain⟨ρ1,τ1,h1,n1,s1,_,p1⟩:=z.step;obtain⟨ws,e,q⟩:=Post.now s1 (show Post cl ρ1 H E (.ok (.ws []) h1) (LP Q) from p1);cases e;exact q [] .nil
theorem Sim.other{ρ:List Addr}{h:Hs}{p:Addr}{u:HO}(s:Sim cl ρ h H)(e:H p=none):Sim cl ρ h (upd H p u) where
 len:=s.len
 nd:=s.nd
 obj:=fun n a hn=>by
  obtain⟨o,q,y⟩:=s.obj n a hn;refine⟨o,q,y.keep (List.prefix_refl _) ?_⟩;obtain⟨w,hw⟩:=y.som;exact aB (bL hw e)
 tb:=s.tb.upd (by rw[e];trivial)
theorem Bt.other{ρ:List Addr}{p:Addr}{u:HO}(e:H p=none):Bt cl ρ H ρ (upd H p u):=⟨List.prefix_refl _,fun b v q nb=>by
 have q':upd H p u b=some v:=by rw[aB (bL q e)];exact q
 exact⟨nb,fun _=>q',v,q'⟩⟩
theorem Yd{C f:Nat}{as:List Ev.X}{Q:VK}(x:tE Pg cl E d (.make C f as) σ H Q):Wu (cl C) (spF Pg cl d f) [] E (tA Pg cl E d as) σ H Q:=by
 obtain⟨ρ,τ,h,n,s,rs,q⟩:=x.step;refine ev.then s rs (show Post cl ρ H E ((evs Pg n d (.a as) τ h).bind fun a h=>a.toL fun ws=>(evs Pg n d (.call f (.ref h.n::ws)) [] (h.push (.ins C []))).bind fun r h'=>r.toW fun w=>ifB (um w) (.ok (.w (.ref h.n)) h') .no) (VP Q) from q) fun a1 h1 ρ1 H1 b1 s1 p1=>?_;obtain⟨ws,rfl,p2⟩:=mL p1;refine⟨ws,rfl,fun vs rv x dx hx hdx ne=>?_⟩;have hx':upd H1 dx (.own x) x=none:=by rw[aB (Ne.symm ne)];exact hx
 have s2:Sim cl (ρ1 ++ [x]) (h1.push (.ins C [])) (upd (upd H1 dx (.own x)) x (.ins (cl C) dx [])):=(s1.other hdx).push hx' ⟨dx,[],.nil,az⟩;have gx:(ρ1 ++ [x])[h1.n]? =some x:=by rw[<- s1.len,List.getElem?_append_right (aA _),Nat.sub_self];rfl
 refine⟨ρ1 ++ [x],.ref h1.n::ws,_,n,s2,by rw[List.append_nil];exact .cons (.ref gx) (rv.mono (List.prefix_append _ _)),?_⟩;refine(p2.later ((Bt.other hdx).trans (Bt.new hx'))).bind.mono fun a h3 ρ3 H3 b3 s3 p3=>?_;obtain⟨w,rfl,p4⟩:=bR p3;obtain⟨en,p5⟩:=f9 p4;refine⟨w,rfl,fun v rv'=>⟨?_,Post.gb s3 p5 (.ref (gJ b3.1 gx))⟩⟩;rw[Bj rv']at en;exact of_decide_eq_true en
noncomputable def spX(C:Addr)(c:List Nat):Sp:=fun vs H Q _=>∃ e,vs= [.ref e]/\H e=some (XO e C none)/\∀ dx,H dx=none->dx ≠ e->Q .non (upd (upd H dx (.xd [(nm jE,.str ⟨c.toArray⟩)])) e (XO e C (some dx)))
theorem Tj{σ0:L2.St}{C:Nat}{c:List Nat}{D:Ends}(x:tS Pg cl E d σ0 (.raise C c) D σ H):Sx (cl C) (spX (cl C) c) E Pz D σ H:=by
 obtain⟨ρ,τ,h,n,s,rs,ag,q⟩:=x.step;have q:Post cl ρ H E (.ex C [(jE,.str c)] h) (SPo σ0 D):=q;refine⟨Nat.zero_le _,fun e he=>⟨e,rfl,az,fun dx hdx ne=>⟨rfl,some dx,az,?_⟩⟩⟩;have VH:H dx=none:=by rwa[aB ne]at hdx
 have eq:(fun b=>if b=e then none else upd (upd (upd H e (XO e (cl C) none)) dx (.xd [(nm jE,.str ⟨c.toArray⟩)])) e (XO e (cl C) (some dx)) b)=upd H dx (.xd [(nm jE,.str ⟨c.toArray⟩)]):=by
  funext b
  by_cases z:b=e
  · subst z;show(if b=b then none else _)=_;rw[if_pos rfl,aB (Ne.symm ne),he]
  · show(if b=e then none else _)=_;rw[if_neg z,aB z]
    by_cases z2:b=dx
    · subst z2;rw[az,az]
    · rw[aB z2,aB z2,aB z]
 rw[eq];exact q ρ _ dx _ (Bt.other VH) (s.other VH) (.cons ⟨rfl,.str c⟩ .nil) (s.new VH) az
end
section
variable{Pg:List Fn}{cl:Cn}{E:XK}{d:Nat}{X:Cx}{σ:L2.St}{H:Hp}{pins:List (Addr × Obj)}{s:Shared}
structure Qz (cl:Cn)(X:Cx)(c:Addr):Prop where
 on:cl.on=true
 code:X.env.code= .ref c
 hd:PySem.W.CodeHd X.base c cl.P
 bm:X.base.BuiltinsAt X.mg cl.P
 q:X.env.qual ++ "<lambda>" =cl.q
noncomputable def VJ(cl:Cn)(H H1:Hp):Prop:=H1=H\/∃ ps c',H cl.P ≠ none/\H c'=none/\H1=upd (upd H cl.P (.tbl ps)) c' (.ext fun h=>h.CodeRec (.ref c') cl.q)
theorem Hz{pos:Pos}:∀ {l r:List Value} {cv:Value},TriplesOk l->codeAmong pos (l++r)=some cv->codeAmong pos l=some cv\/codeAmong pos r=some cv:=by
 intro l r cv ht h
 fun_induction TriplesOk l with
 | case1=>exact .inr h
 | case2 a t b u c rest ih=>
   simp only[List.cons_append,codeAmong]at h ⊢
   split at h
   · next z=>rw[if_pos z];exact .inl h
   · next z=>rw[if_neg z];exact ih ht h
 | case3=>exact ht.elim
theorem MJ:∀ {l r:List Value},TriplesOk l->TriplesOk r->TriplesOk (l++r):=by
 intro l r ht h
 fun_induction TriplesOk l with
 | case1=>exact h
 | case2 a t b u c rest ih=>simp only[List.cons_append,TriplesOk];exact ih ht
 | case3=>exact ht.elim
theorem aaN{c:Addr}{params:Arguments}{body:Expr}{scope:Scope}{pos:Pos}(L:Qz cl X c)(I:Inv X pins σ H s)(t:Tb cl H)(hdef:defaultsOf params X.env=([],[]))(hfr:∀ y ∈ scope.names,y.2= .free->X.env.kindOf y.1=some .cell\/X.env.kindOf y.1=some .free){Ee:Value->Shared->Prop}:
 wpAny (model X.prog X.w) X.A (eval (.Lambda params body scope pos) X.env) (fun u s1=>∃ f c' pm ctv H1,u= .ref f/\VJ cl H H1/\Inv X pins σ H1 s1/\Tb cl H1/\H1 f=none/\s.heap.objs.size<=f/\s1.heap.get? f=some (PySem.W.kla_obj "<lambda>" cl.q params body scope (i_ X.env.cells scope.names []) pm c' ctv)/\H1 c'=some (.ext fun h=>h.CodeRec (.ref c') cl.q)) Ee s:=by
 obtain⟨ps,hP,htr,hcs⟩:=t L.on;have hPo:s.heap.get? cl.P=some (PySem.W.tabObj ps):=I.hok _ _ hP;have hcl:closureFor scope X.env=pure (i_ X.env.cells scope.names []):=qR fun y hy e=>I.ok.has y.1 (hfr y hy e);have hg:s.heap.Ns mainGlobals X.mg:=I.mod.glob.keeps I.bk;have C:=L.hd.keeps I.bk;have hb:s.heap.BuiltinsAt X.mg cl.P:=let ⟨bm,o,a1,a2,a3,a4,a5,a6⟩:=L.bm;⟨bm,o,a1,a2,a3,a4,I.bk _ _ a5,a6⟩;refine PySem.W.kla_eval hdef ?_;rw[L.q]
 cases hf:codeAmong pos ps.toList with
 | some cv=>
   obtain⟨c',rfl,hc'⟩:=hcs pos cv hf;refine PySem.W.kla_makeFunctionHit hcl I.ok.glob hg L.code C hPo htr hf hb fun ctv h' tk hk hsz=>?_;have hkk:∀ b o,s.heap.get? b=some o->(h'.push (PySem.W.kla_obj "<lambda>" cl.q params body scope (i_ X.env.cells scope.names []) ((X.mg "__name__").getD .none) c' ctv)).get? b=some o:=fun b o e=>Heap.get?_push_of_some _ (hk b o e)
   refine⟨h'.objs.size,c',_,ctv,H,rfl,.inl rfl,I.kept hkk,t,I.hok.fresh hsz,hsz,Heap.get?_push_size _ rfl,hc'⟩
 | none=>
   have hgP:mainGlobals ≠ cl.P:=fun z=>by
    obtain⟨o,es,ep,e,hd,_⟩:=hg;rw[z,hPo]at e;cases e;cases hd
   refine PySem.W.kla_makeFunction hcl I.ok.glob hg L.code C hPo htr hf hgP hb fun c' ctv h' tk hx hge hlt hrec htb=>?_;have fc:H c'=none:=I.hok.fresh hge;have neP:∀ {b:Addr},H b=none->b ≠ cl.P:=fun {b} e z=>by rw[z,hP]at e;cases e
   have VL:cl.P ≠ c':=Ne.symm (neP fc);generalize hfo:PySem.W.kla_obj "<lambda>" cl.q params body scope (i_ X.env.cells scope.names []) ((X.mg "__name__").getD .none) c' ctv=fo;have kk:∀ b o,b ≠ cl.P->s.heap.get? b=some o->(h'.push fo).get? b=some o:=fun b o hb e=>Heap.get?_push_of_some _ (hx b o hb e);have hP1:(h'.push fo).get? cl.P=some (PySem.W.tabObj (ps ++ #[rawInt pos.line,rawInt pos.col,.ref c'])):=Heap.get?_push_of_some _ htb;have W3:(h'.push fo).CodeRec (.ref c') cl.q:=hrec.push _;have h1P:upd (upd H cl.P (.tbl (ps ++ #[rawInt pos.line,rawInt pos.col,.ref c']))) c' (.ext fun h=>h.CodeRec (.ref c') cl.q) cl.P=some (.tbl (ps ++ #[rawInt pos.line,rawInt pos.col,.ref c'])):=by rw[aB VL,az]
   have h1o:∀ {b:Addr},b ≠ cl.P->b ≠ c'->upd (upd H cl.P (.tbl (ps ++ #[rawInt pos.line,rawInt pos.col,.ref c']))) c' (.ext fun h=>h.CodeRec (.ref c') cl.q) b=H b:=fun {b} z1 z2=>by rw[aB z2,aB z1]
   have old:∀ {b:Addr} {u:HO},H b=some u->b ≠ c':=fun {b u} e z=>by rw[z,fc]at e;cases e
   have ltc:∀ {b:Addr} {o:Obj},s.heap.get? b=some o->b ≠ c':=fun {b o} e z=>by
    have:=Heap.lt_size e;rw[z]at this;exact absurd this (Nat.not_lt.mpr hge)
   have hun:Un X.fs [] H (upd (upd H cl.P (.tbl (ps ++ #[rawInt pos.line,rawInt pos.col,.ref c']))) c' (.ext fun h=>h.CodeRec (.ref c') cl.q)) s.heap (h'.push fo):=by
    refine⟨fun b o e n _ _=>kk b o (neP n) e,fun b o e n _ _=>⟨o.slots,kk b o (neP n) e⟩,fun b o e n _=>?_,fun b o e _=>?_,fun b xs e=>?_,fun b o u e=>?_,fun b qs e=>?_⟩
    · rw[h1o (neP n) (ltc e)];exact n
    · by_cases z:b=cl.P
      · subst z;exact⟨_,hP1⟩
      · exact⟨o,kk b o z e⟩
    · rw[h1o (fun z=>by rw[z,hP]at e;cases e) (old e)];exact e
    · rw[h1o (fun z=>by rw[z,hP]at e;cases e) (old e)];exact e
    · by_cases z:b=cl.P
      · subst z;rw[hP]at e;cases e;exact⟨_,h1P⟩
      · exact⟨#[],by rw[h1o z (old e),e];simp⟩
   have hok:HOk X.prog X.w (upd (upd H cl.P (.tbl (ps ++ #[rawInt pos.line,rawInt pos.col,.ref c']))) c' (.ext fun h=>h.CodeRec (.ref c') cl.q)) (h'.push fo):=fun a o e=>by
    by_cases zc:a=c'
    · subst zc;rw[az]at e;cases e;obtain⟨c2,oc,vs,t2,e2,g2,r2⟩:=id W3;cases e2;refine⟨W3,⟨oc,g2⟩,fun h1 h2 φ st=>?_⟩;obtain⟨c2,oc,vs,t2,e2,g2,r2⟩:=φ;cases e2;exact⟨_,oc,vs,t2,rfl,st _ g2,r2⟩
    · by_cases zP:a=cl.P
      · subst zP;rw[h1P]at e;cases e;exact hP1
      · rw[h1o zP zc]at e;refine(I.hok a o e).stay (fun b u hb q=>kk b u ?_ q) (fun b q=>?_) fun b xs q=>?_
        · rcases hb with rfl | hb
          · exact zP
          · intro z;rw[z,hP]at hb;cases hb
        · rw[h1o (fun z=>by rw[z,hP]at q;cases q) (old q)];exact q
        · rw[h1o (fun z=>by rw[z,hP]at q;cases q) (old q)];exact q
   have I1:=I.un (t':=tk) hun hok;refine⟨h'.objs.size,c',_,ctv,_,rfl,.inr ⟨_,c',by rw[hP];simp,fc,rfl⟩,I1,fun _=>⟨_,h1P,?_,fun pos' cv e=>?_⟩,?_,Nat.le_of_lt (Nat.lt_of_le_of_lt hge hlt),by rw[<- hfo];exact Heap.get?_push_size _ rfl,az⟩
   · rw[Array.toList_append];exact MJ htr trivial
   · rw[Array.toList_append]at e
     rcases Hz htr e with e | e
     · obtain⟨c2,e1,e2⟩:=hcs pos' cv e;exact⟨c2,e1,by rw[h1o (fun z=>by rw[z,hP]at e2;cases e2) (old e2)];exact e2⟩
     · have e:(if((pos.line:Int)==pos'.line&&(pos.col:Int)==pos'.col)=true then some (Value.ref c') else codeAmong pos' [])=some cv:=e
       split at e
       · cases e;exact⟨c',rfl,az⟩
       · cases e
   · have:H h'.objs.size=none:=I.hok.fresh (Nat.le_of_lt (Nat.lt_of_le_of_lt hge hlt));rw[h1o (neP this) (Nat.ne_of_gt hlt)];exact this
end
section
theorem ab_{CX:CXT}{P:Program}{w:World}{K:ak}{mg:Str->Option Value}{base:Heap}{k:Nat}{x qual:Str}{st:Stmt}{f:Addr}{fd:FuncData}{N ps:List Str}(F:Fun K x qual st f fd)(Sc:aD N ps (aj st))
 {A:Around} {outer:List Env} {s:Shared} {H:Hp} {args:Args} {us:List Value} {vs:List V} {Q:VK} {E:XK} (hr:bD (k+1) A) (e0:ym P w K mg base A outer s H) (hb:BindsTo s fd args (ps.zip us)) (r:Vals vs us) (hl:vs.length=ps.length)
 (hbody:∀ cdv:Value,bD k (A.deeper (envOfC qual (aj st) s.heap.objs.size f cdv))->∃ t,PSs (cB CX P w K mg base N qual (aj st) f cdv A outer s H E) (bA st) t/\t { nx:=fun _ H'=>Q .non H',rt:=Q } (L2.start N vs) H):
 codeAny (model P w) A (.call (.ref f) args) (CR CX outer P w H s Q E) s:=by
 obtain⟨oc,od,kV,doc,pm,an,cdv,ct,osl,rfl,lk,hcd⟩:=F.ex;have KX:K.In s.heap:=e0.mod.kin.keeps fun b o e=>(e0.bs b o e).1;have lim:s.heap.NoLimit:=e0.mod.nolimit.keeps fun b o e=>(e0.bs b o e).1
 have hkind:∀ y ∈ ps.zip us,(aj st).names.lookup y.1=some .local\/((aj st).names.lookup y.1=some .cell/\((cellsFrom (s.heap.objs.size+1) (aj st).names []).lookup y.1).isSome=true):=fun⟨n,v⟩ hy=>by
  rcases Sc.par n (List.of_mem_zip hy).1 with q | q
  · exact .inl q
  · exact .inr ⟨q,PySem.W.cellsFrom_some _ _ _ (.inl q)⟩
 refine codeAny_call_function hr.depth (KX _ _ lk) rfl Sc.co Sc.gen rfl (PySem.W.codeRec_of KX hcd) (hb _ _ _ _ ?_);refine wpAny_newFunctionEnv_cells Sc.kind hkind fun env he s1 x=>?_;subst he;refine⟨lim.keeps x.toInCall.keep,codeAny_func ?_⟩;obtain⟨t,ht,hq⟩:=hbody cdv (hr.deeper _);have I:Inv (cB CX P w K mg base N qual (aj st) f cdv A outer s H E) [] (L2.start N vs) H s1:=GQ Sc hr.hd e0 hl r x;refine wpAny_mono (ht [] s1 (L2.start N vs) H _ I hq) (fun fl s' hs=>?_) fun e s' hs=>hs
 have fin:∀ {σ':L2.St} {H':Hp} {v:V} {u:Value},Inv (cB CX P w K mg base N qual (aj st) f cdv A outer s H E) [] σ' H' s'->RelV v u->Q v H'->CE outer P w H s Q u s':=
  fun {σ' H' v u} J rv q=>⟨v,H',J.os,J.bare,J.base,J.hok,rv,q⟩
 cases fl with
 | ret u=>
   obtain⟨v,σ',H',J,rv,q⟩:=hs
   exact fin J rv q
 | next=>
   obtain⟨σ',H',J,q⟩:=hs
   exact fin (v:=V.non) (u:=Value.none) J rfl q
 | brk=>
   obtain⟨_,_,_,q⟩:=hs
   exact False.elim q
 | cont=>
   obtain⟨_,_,_,q⟩:=hs;exact False.elim q
variable{Pg:List Fn}{cl:Cn}{E:XK}{d:Nat}{X:Cx}{σ:L2.St}{H:Hp}{pins:List (Addr × Obj)}{s:Shared}
noncomputable def Fe(X:Cx)(N':List Str)(sc:Scope)(q:Str)(f c':Addr)(clos:List (Str × Addr))(s:Shared)(H:Hp)(E:XK):Cx where
 prog:=X.prog
 w:=X.w
 K:=X.K
 mg:=X.mg
 base:=X.base
 A:=X.A.deeper (PySem.W.envX q sc s.heap.objs.size f (.ref c') clos)
 N:=N'
 s₀:=s
 H₀:=H
 env:=PySem.W.envX q sc s.heap.objs.size f (.ref c') clos
 outer:=X.stack
 stack:=PySem.W.envX q sc s.heap.objs.size f (.ref c') clos::X.stack
 ex:=[]
 calm:=true
 fn:=fun _=>false
 pn:=[]
 xe:=fun e s'=>wpAny (model X.prog X.w) (X.A.deeper (PySem.W.envX q sc s.heap.objs.size f (.ref c') clos)) (leaving (PySem.W.envX q sc s.heap.objs.size f (.ref c') clos) e) (fun _ s''=>CXE X.prog X.w X.stack H s E e s'') (fun e' s''=>CXE X.prog X.w X.stack H s E e' s'')  s'
noncomputable def Cells(N':List Str)(clos:List (Str × Addr))(σY:L2.St)(h:Heap):Prop:=∀(i:Nat) (x:Str) (v:V),N'[i]? =some x->σY[i]? =some (some v)->∃ u c,RelV v u/\clos.lookup x=some c/\h.IsCell c (some u)
structure QB (N':List Str)(sc:Scope):Prop where
 kind:sc.kind= .function
 co:sc.isCoroutine=false
 gen:sc.isGenerator=false
 free:∀ y ∈ sc.names,y.2 ≠ .cell
 isf:∀ x ∈ N',sc.names.lookup x=some .free
theorem VM{N':List Str}{params:Arguments}{body:Expr}{sc:Scope}{q:Str}{f c':Addr}{clos:List (Str × Addr)}{pm ctv:Value}{σY:L2.St}{t:TE}{Q:VK}(S:QB N' sc)(I:Inv X pins σ H s)(hc:X.calm=true)(hroom:X.A.depth<recursionLimit)
 (ho:s.heap.get? f=some (PySem.W.kla_obj "<lambda>" q params body sc clos pm c' ctv)) (hcd:s.heap.CodeRec (.ref c') q) (hbind:bindArgs (PySem.W.kla_fn "<lambda>" q params body sc clos pm (.ref c') ctv) ⟨[],[]⟩ =pure [])
 (hinj:∀ x y c,clos.lookup x=some c->clos.lookup y=some c->x=y) (hhas:∀ x,sc.names.lookup x=some .free->∃ c,clos.lookup x=some c) (hcell:∀ x c,clos.lookup x=some c->(∃ v,s.heap.IsCell c v)/\H c=none) (hcs:Cells N' clos σY s.heap) (hlen:σY.length=N'.length)
 (hp:PE (Fe X N' sc q f c' clos s H E) body t) (h:t σY H Q):codeAny (model X.prog X.w) X.A (.call (.ref f) ⟨[],[]⟩) (CR (CXE X.prog X.w) X.stack X.prog X.w H s Q E) s:=by
 refine PySem.W.kla_callFunE hroom ho rfl S.co S.gen rfl hcd ?_;rw[hbind];refine wpAny_pure (wpAny_newFunctionEnv S.free (by intro y hy;simp at hy) (fun h₁ hns hsb=>⟨I.nolimit.fresh _ hsb,?_⟩) S.kind);show codeAny _ _ (.expr body (PySem.W.envX q sc s.heap.objs.size f (.ref c') clos)) _ _;have hk₁:∀ b o,s.heap.get? b=some o->h₁.get? b=some o:=fun b o e=>hsb.extBut b o (Nat.ne_of_lt (Heap.lt_size e)) (Heap.get?_push_of_some _ e);have noA:∀ b:Addr,b ∉ (Fe X N' sc q f c' clos s H E).ex:=fun b z=>absurd (show b ∈ ([]:List Addr) from z) (by simp);have fresh:H s.heap.objs.size=none:=I.hok.fresh (aA _)
 have IY:Inv (Fe X N' sc q f c' clos s H E) [] σY H { s with heap:=h₁,toks:=s.toks+([]:List (Str × Value)).length }:=by
  refine⟨⟨I.ok.mod,S.kind,rfl,rfl,aA _,hinj,fun x hx=>?_,fun x c z=>absurd (show false=true from z) (by decide),fun _=>I.ok.hd hc,Around.frames_deeper I.ok.frames,.inr ⟨rfl,rfl⟩,fun b z=>absurd z (noA b),I.bs,Nat.le_trans I.ok.bsz I.sz,fun b _ _=>noA b,fun b z=>absurd z (noA b),I.stack,I.qj⟩,
   rfl,I.bare,Un.kept hk₁,⟨_,hns,fun i x v h1 h2 h3=>?_⟩,fun x c e=>?_,fresh,fun x c e=>(hcell x c e).2,fun p hp=>absurd (show p ∈ ([]:List (Addr × Obj)) from hp) (by simp),I.hok.kept hk₁,hlen⟩
  · have hx:sc.names.lookup x=some .cell\/sc.names.lookup x=some .free:=hx
    rcases hx with z | z
    · exact absurd rfl (S.free _ (PySem.mem_of_lookup z))
    · exact hhas x z
  · obtain⟨u,c,ru,ec,hc'⟩:=hcs i x v h1 h2;refine⟨u,ru,.inr ⟨.inr (S.isf x (List.mem_of_getElem? h1)),c,ec,?_⟩⟩;obtain⟨o,ho',hd⟩:=hc';exact⟨o,hk₁ _ _ ho',hd⟩
  · obtain⟨⟨v,o,ho',hd⟩,_⟩:=hcell x c e;exact⟨v,o,hk₁ _ _ ho',hd⟩
 refine PySem.W.kla_codeExpr (wpAny_mono (hp [] _ σY H Q IY h) (fun v s' ⟨x,H',J,rv,q⟩=>?_) fun e s' z=>z);exact⟨x,H',J.os,J.bare,J.base,J.hok,rv,q⟩
theorem Own.lam{N':List Str}{sc:Scope}{q:Str}{f c':Addr}{clos:List (Str × Addr)}:Own (Fe X N' sc q f c' clos s H E):=⟨rfl,rfl,rfl⟩
noncomputable def adq(i:Nat)(f c':Addr)(q:Str)(σY:L2.St)(t:TE):TE:=fun σ H Q=>σ[i]? =some (some (.ref f))/\H c'=some (.ext fun h=>h.CodeRec (.ref c') q)/\t σY H Q
theorem VN{i:Nat}{x:Str}{p pos:Pos}{N':List Str}{params:Arguments}{body:Expr}{sc:Scope}{q:Str}{f c':Addr}{clos:List (Str × Addr)}{pm ctv:Value}{σY:L2.St}{t:TE}(S:QB N' sc)(hc:X.calm=true)(hroom:X.A.depth<recursionLimit)(hx:Passes (CXE X.prog X.w) X E)(hex:X.ex= [])
 (ho:X.s₀.heap.get? f=some (PySem.W.kla_obj "<lambda>" q params body sc clos pm c' ctv)) (fn:X.H₀ f=none) (ff:f ∉ X.fs) (hbind:bindArgs (PySem.W.kla_fn "<lambda>" q params body sc clos pm (.ref c') ctv) ⟨[],[]⟩ =pure [])
 (hinj:∀ x y c,clos.lookup x=some c->clos.lookup y=some c->x=y) (hhas:∀ x,sc.names.lookup x=some .free->∃ c,clos.lookup x=some c) (hcell:∀ x c,clos.lookup x=some c->(∃ v,X.s₀.heap.IsCell c v)/\X.H₀ c=none/\c ∉ X.fs) (hcs:Cells N' clos σY X.s₀.heap) (hlen:σY.length=N'.length)
 (hp:∀ s H,PE (Fe X N' sc q f c' clos s H E) body t) (hN:X.N[i]? =some x) (hv:Vis X.env.scope x) (hd:(x==("__debug__":Str))=false:=by decide) (hcd:(x==("__classdict__":Str))=false:=by decide):
 PE X (.Call (.Name x p) [] [] pos) (adq i f c' q σY t):=by
 intro pins s σ H Q I h;obtain⟨hσ,hC,ht⟩:=h;have keep:∀ b o,X.s₀.heap.get? b=some o->X.H₀ b=none->b ∉ X.fs->s.heap.get? b=some o:=fun b o e n nf=>I.base.keep b o e n nf (by rw[hex];simp);have Kr:∀ x c v,clos.lookup x=some c->X.s₀.heap.IsCell c v->s.heap.IsCell c v:=fun x c v e ⟨o,e1,e2⟩=>⟨o,keep c o e1 (hcell x c e).2.1 (hcell x c e).2.2,e2⟩;refine wpAny_Call_Name_kw (thn (Cd (X:=X) (i:=i) hN hv hd hcd pins s σ H (fun y H1=>y= .ref f/\H1=H) I ⟨.ref f,hσ,rfl,rfl⟩) fun u s1 ⟨y,H1,I1,ry,ey,eH⟩=>?_);subst ey eH;obtain rfl:u=Value.ref f:=ry;have keep:∀ b o,X.s₀.heap.get? b=some o->X.H₀ b=none->b ∉ X.fs->s1.heap.get? b=some o:=fun b o e n nf=>I1.base.keep b o e n nf (by rw[hex];simp);have Kr:∀ x c v,clos.lookup x=some c->X.s₀.heap.IsCell c v->s1.heap.IsCell c v:=fun x c v e ⟨o,e1,e2⟩=>⟨o,keep c o e1 (hcell x c e).2.1 (hcell x c e).2.2,e2⟩;have ho1:=keep f _ ho fn ff;refine PySem.W.callWith_F0 ⟨_,_,_,_,ho1⟩ ?_;refine wpAny_call (codeAny_mono (VM S I1 hc hroom ho1 (I1.hok _ _ hC).1 hbind hinj hhas (fun x c e=>?_) (fun i x v h1 h2=>?_) hlen (hp s1 H1) ht) fun r s' hq=>?_)
 · obtain⟨⟨v,hv'⟩,n,nf⟩:=hcell x c e;refine⟨⟨v,Kr x c v e hv'⟩,?_⟩;obtain⟨o,e1,_⟩:=hv';exact I1.base.free c o e1 n (by rw[hex];simp)
 · obtain⟨u,c,ru,ec,hcc⟩:=hcs i x v h1 h2;exact⟨u,c,ru,ec,Kr x c _ ec hcc⟩
 · cases r with
   | error e=>exact hx pins σ H1 s1 e s' I1 hq
   | ok fl=>
     cases fl with
     | ret u=>exact I1.after hq
     | next=>exact False.elim hq
     | brk=>exact False.elim hq
     | cont=>exact False.elim hq
theorem VJ.sim{H1:Hp}{ρ:List Addr}{h:Hs}(l:VJ cl H H1)(on:cl.on=true)(t:Tb cl H1)(s:Sim cl ρ h H):Sim cl ρ h H1/\Bt cl ρ H ρ H1:=by
 rcases l with rfl | ⟨ps,c',hP,hc,rfl⟩
 · exact⟨s,Bt.refl⟩
 · obtain⟨qs,hQ,_⟩:=s.tb on;have VL:cl.P ≠ c':=fun z=>by rw[z,hc]at hQ;cases hQ
   have eq:∀ {a:Addr} {o:O},OA cl ρ H a o->upd (upd H cl.P (.tbl ps)) c' (.ext fun h=>h.CodeRec (.ref c') cl.q) a=H a:=fun {a o} x=>by
    have n1:a ≠ c':=fun z=>by
     obtain⟨u,hu⟩:=x.som;rw[z,hc]at hu;cases hu
    have n2:a ≠ cl.P:=fun z=>by
     have:=x.pl;rw[z,hQ]at this;exact this
    rw[aB n1,aB n2]
   refine⟨⟨s.len,s.nd,fun n a e=>?_,t⟩,List.prefix_refl _,fun b u q nb=>?_⟩
   · obtain⟨o,ho,x⟩:=s.obj n a e;exact⟨o,ho,x.keep (List.prefix_refl _) (eq x)⟩
   · have n1:b ≠ c':=bL q hc;refine⟨nb,fun z=>by rw[aB n1,aB (z on)];exact q,?_⟩
     by_cases z:b=cl.P
     · subst z;exact⟨_,by rw[aB VL,az]⟩
     · exact⟨u,by rw[aB n1,aB z];exact q⟩
end
section
variable{Pg:List Fn}{cl:Cn}{E:XK}{d:Nat}{X:Cx}{σ:L2.St}{H:Hp}{pins:List (Addr × Obj)}{s:Shared}
noncomputable abbrev acd(X:Cx)(NT:List Str)(tn:Str)(st:Stmt)(ft:Addr)(cdv:Value)(s1:Shared)(H1:Hp)(E2:XK)(E':Value->Shared->Prop)(pn:List (Addr × Obj)):Cx:=
 uh (cB (CXE X.prog X.w) X.prog X.w X.K X.mg X.base NT tn (aj st) ft cdv X.A X.stack s1 H1 E2) E' pn
theorem Ku:(2:Nat)<=sizeLine:=by rw[m6];decide
theorem Tn(I:Inv X pins σ H s)(hfn:∀ x,X.fn x=true){x:Str}{c:Addr}(e:X.env.cells.lookup x=some c):c ∉ frs X.stack:=fun z=>by
 rcases List.mem_cons.mp (I.yd c z) with z | z
 · exact I.cne x c e z
 · obtain⟨_,o,ho,_⟩:=I.ok.mC.mem z;exact absurd (Heap.lt_size ho) (Nat.not_lt.mpr (I.ok.cab x c (hfn x) e))
theorem Ye{k nx:Nat}{c S ft:Addr}{fdT:FuncData}{st:Stmt}{NT N':List Str}{tn an en cx:Str}{idx:List Nat}{params:Arguments}{body:Expr}{sc:Scope}{a:Ev.X}{QC p pos:Pos}{t1 t2 w1 w2:Str}
 {q1 q2 q3 q4 q5 q6 q7 q8 q9 q10 q11 q12 q13:Pos} {j1 j2} {x1 x2}
 (L:Qz cl X c) (hfn:∀ x,X.fn x=true) (hr:bD (k+1) X.A) (Ft:Fun X.K tn tn st ft fdT) (ScT:aD [an,en] [an] (aj st)) (bT:Binds X.K fdT [an] []) (hg:Gl X tn) (mgT:X.mg tn=some (.ref ft)) (kpT:PySem.W.keepIn X.K (.ref ft)=true)
 (hst:bA st= [.Try [.Return (some (.Tuple [.Constant (.str t1) j1 q1,.Call (.Name an q2) [] [] q3] x1 q4)) q5] [.ExceptHandler (some (.Name cx q6)) (some en) [.Return (some (.Tuple [.Constant (.str t2) j2 q7,.Attribute (.Name en q8) w1 q9] x2 q10)) q11] q12] [] [] q13])
 (h1:t1=nm zK) (h2:t2=nm noT) (h3:w1=nm jE) (hen:(aj st).names.lookup en=some .local) (han:Vis (aj st) an) (hgS:(aj st).names.lookup cx=some .globalImplicit) (mgS:X.mg cx=some (.ref S)) (cS:jJ X.K S) (hcx:(cx==("__debug__":Str))=false)
 (hd1:(an==("__debug__":Str))=false) (hd2:(an==("__classdict__":Str))=false) (hd3:(en==("__debug__":Str))=false) (hd4:(en==("__classdict__":Str))=false)
 (hX:∀ C,C<nx->jJ X.K (cl C)/\uF X.K (cl C) S/\cL X.K (cl C) w1)
 (B:rD X N' sc 0 idx) (hco:sc.isCoroutine=false) (hgen:sc.isGenerator=false) (hdef:defaultsOf params X.env=([],[])) (hbind:∀ q clos pm c' ctv,bindArgs (PySem.W.kla_fn "<lambda>" q params body sc clos pm (.ref c') ctv) ⟨[],[]⟩ =pure [])
 (hp:∀ cdv s1 H1 E2 E' pn f c' clos s H E3,PE (Fe (acd X [an,en] tn st ft cdv s1 H1 E2 E' pn) N' sc cl.q f c' clos s H E3) body (tE Pg cl E3 d a))
 (hdb:(tn==("__debug__":Str))=false:=by decide) (he:starEach [Expr.Lambda params body sc QC] X.env=(false,eval (.Lambda params body sc QC) X.env)::starEach [] X.env:=by rfl) (hpl:(backTo pos (starEach [] X.env)).any (·.1)=false:=by rfl):
 PE X (.Call (.Name tn p) [.Lambda params body sc QC] [] pos) (tE Pg cl E (d+2) (.told nx idx a)):=by
 subst h1 h2 h3;intro pins s σ H Q I h;obtain⟨ρ,τ,hh,n,sm,rs,pz⟩:=h.step;have pz:Post cl ρ H E (R.rec (motive:=fun _=>R A) (fun r h=>r.toW fun w=>ofW (.alloc h (.tup [.str zK,w]))) (fun C fs h=>ifB (Nat.ble (C+1) nx) (Opt (fget fs jE) fun w=>ofW (.alloc h (.tup [.str noT,w]))) .no) .no (evs Pg n d (.x a) (lN 0 idx τ) hh)) (VP Q):=pz;have hfr:∀ y ∈ sc.names,y.2= .free->X.env.kindOf y.1=some .cell\/X.env.kindOf y.1=some .free:=B.fr;refine wpAny_Call_Name_kw (o8 I hg mgT ?_ hdb);refine PySem.W.callWith_K (h₀:=X.base) I.ok.mod.kin kpT ?_ he hpl;rw[he];show wpAny _ _ (spliced ((false,eval (.Lambda params body sc QC) X.env)::backTo pos (starEach [] X.env))) _ _ s;refine Calls.spliced_cons (thn (aaN L I sm.tb hdef hfr) fun u s1 ⟨f,c',pm,ctv,H1,eu,lh,I1,t1,fn,fge,fo,hC⟩=>?_);subst eu;refine Calls.spliced_nil ⟨I1.kIn,?_⟩;obtain⟨sm1,bt1⟩:=lh.sim L.on t1 sm;have hcl:∀ y ∈ sc.names,y.2= .free->∃ c,X.env.cells.lookup y.1=some c:=fun y hy e=>I1.ok.has y.1 (hfr y hy e)
 have sub:∀ x c,(i_ X.env.cells sc.names []).lookup x=some c->X.env.cells.lookup x=some c:=fun x c h=>by
  rcases sE hcl h with z | z
  · exact z
  · simp at z
 have adt:QB N' sc:=⟨B.kind,hco,hgen,B.JR,fun x hx=>by
  obtain⟨i,hi⟩:=List.getElem?_of_mem hx
  have hlt:i<idx.length:=by
   have:=(bu hi).1;have:=B.len;omega
  obtain⟨j,hj⟩:∃ j,idx[i]? =some j:=⟨idx[i],by simp[hlt]⟩;refine(B.ix (j,x) (List.mem_of_getElem? (i:=i) ?_)).2;rw[List.drop_zero,List.getElem?_zip_eq_some]
  exact⟨hj,hi⟩⟩
 have ffs:f ∉ frs X.stack:=fun z=>by
  obtain⟨_,o',ho',_⟩:=I.stack.mem z;exact absurd (Heap.lt_size ho') (Nat.not_lt.mpr fge)
 have hcs:Cells N' (i_ X.env.cells sc.names []) (sgb 0 idx σ) s1.heap:=fun i x v h1 h2=>by
  unfold sgb at h2;rw[List.replicate_zero,List.nil_append,List.getElem?_map]at h2
  cases ej:idx[i]? with
  | none=>rw[ej]at h2;cases h2
  | some j=>
    rw[ej]at h2;have h2':(σ[j]?).getD none=some v:=by simpa using h2
    have hz:(j,x) ∈ idx.zip (N'.drop 0):=by
     refine List.mem_of_getElem? (i:=i) ?_;rw[List.drop_zero,List.getElem?_zip_eq_some];exact⟨ej,h1⟩
    obtain⟨q1,q2⟩:=B.ix _ hz
    have hs:σ[j]? =some (some v):=by
     cases e:σ[j]? with
     | none=>rw[e]at h2';cases h2'
     | some o=>rw[e]at h2';exact congrArg some h2'
    have hkx:=B.fr (x,.free) (d_ q2) rfl;obtain⟨mX,_,hl⟩:=I1.loc
    obtain⟨u,ru,lk⟩:=hl j x v q1 hs (by
     rcases hkx with z | z
     · exact .inr (.inl z)
     · exact .inr (.inr z))
    rcases lk with ⟨z,_⟩ | ⟨_,c,hc,hcell⟩
    · exfalso
      rcases hkx with y | y
      · rw[z]at y;cases y
      · rw[z]at y;cases y
    · exact⟨u,c,ru,rQ hc (.inl (d_ q2)),hcell⟩
 have hlen:(sgb 0 idx σ).length=N'.length:=by
  unfold sgb;rw[List.replicate_zero,List.nil_append,List.length_map,<- B.len,Nat.zero_add]
 refine wpAny_call (codeAny_mono (ab_ (CX:=CXE X.prog X.w) (Q:=Q) (E:=E0) (us:=[.ref f]) (vs:=[.ref f]) Ft ScT hr I1.env0 (bT s1 [.ref f] I1.kIn rfl) (.cons rfl .nil) rfl fun cdv hr2=>?_) fun r s' hq=>?_)
 · rw[hst];have O2:Own (cB (CXE X.prog X.w) X.prog X.w X.K X.mg X.base [an,en] tn (aj st) ft cdv X.A X.stack s1 H1 E0):=⟨rfl,rfl,rfl⟩
   refine⟨_,b7 (Z_ (i:=1) O2 ScT.nd rfl hen hgS mgS cS (fun e oe=>b7 (kj (u_ (aK qM (aK (XN (i:=1) rfl (Or.inl hen) rfl hd3 hd4) bw)))))
    (fun E' pn E2 hpass=>b7 (kj (u_ (aK qM (aK (VN (i:=0) (E:=E2) (σY:=sgb 0 idx σ) (t:=tE Pg cl E2 d a) adt rfl hr2.depth hpass rfl fo fn ffs (hbind _ _ _ _ _)
      (fun x y c h1 h2=>I1.ok.inj x y c (sub x c h1) (sub y c h2)) (fun x hx=>?_) (fun x c e=>⟨I1.cell x c (sub x c e),I1.jl x c (sub x c e),Tn I1 hfn (sub x c e)⟩) hcs hlen (fun s H=>hp _ _ _ _ _ _ _ _ _ _ _ _) rfl han hd1 hd2) bw))))) hcx),?_⟩
   · obtain⟨c,hc⟩:=hcl (x,.free) (d_ hx) rfl;exact⟨c,rQ hc (.inl (d_ hx))⟩
   refine⟨rfl,hC,ρ,lN 0 idx τ,hh,n,sm1,Ti rs 0 idx,?_⟩
   cases er:evs Pg n d (.x a) (lN 0 idx τ) hh with
   | no=>rw[er]at pz;exact pz.elim
   | ok r0 h3=>
     rw[er]at pz;obtain⟨w,rfl,p2⟩:=bR (show Post cl ρ H E (r0.toW fun w=>ofW (.alloc h3 (.tup [.str zK,w]))) (VP Q) from pz);intro ρ' H' b' s';refine⟨w,rfl,fun v rv=>⟨Ku,fun p hp=>?_⟩⟩
     exact Post.Qv s' (p2.later (bt1.trans b')) hp (.cons (.str zK) (.cons rv .nil))
   | ex C fs h3=>
     rw[er]at pz;obtain⟨cC,p2⟩:=f9 (show Post cl ρ H E (ifB (Nat.ble (C+1) nx) (Opt (fget fs jE) fun w=>ofW (.alloc h3 (.tup [.str noT,w]))) .no) (VP Q) from pz);obtain⟨w,ew,p3⟩:=jo p2;rw[ble_eq]at cC;obtain⟨k1,k2,k3⟩:=hX C (of_decide_eq_true cC);intro ρ' H' dx gs b' s' fr nd hx;refine⟨cl C,rfl,k1,k2,fun e oe e1 e2 ⟨vs,e3⟩ hn=>?_⟩;obtain⟨v,ev,rv⟩:=fr.get ew;refine⟨rfl,cl C,dx,gs,v,e1,e2,⟨vs,e3⟩,k1,k3,hx,ev,Ku,fun p hp=>?_⟩;exact Post.Qv s' (p3.later (bt1.trans b')) hp (.cons (.str noT) (.cons rv .nil))
 · cases r with
   | error e=>exact(v5 hq).elim
   | ok fl=>
     cases fl with
     | ret u=>exact I1.after hq
     | next=>exact False.elim hq
     | brk=>exact False.elim hq
     | cont=>exact False.elim hq
end
noncomputable def zQ(P:Addr)(H:Hp):Prop:=H P=some (.tbl #[])/\∀ b,b ≠ P->H b=none\/∃ o xs,H b=some (.frz o (.lst xs))
theorem Tp{P:Program}{w:World}{K:ak}{mg mb:Str->Option Value}{CX:CXT}{k:Nat}{fa a T c:Addr}{fd:FuncData}{x:Str}{sp:Sp}{s₁:Shared}{vs:List Value}{ns:List Int}
 (KX:K.In s₁.heap) (hns:s₁.heap.Ns mainGlobals mg) (hb:s₁.heap.Ns builtinsNs mb) (hbb:∀ x:Str,x ≠ "__name__"->mb x=bootBuiltins x) (hlim:s₁.heap.NoLimit) (hg:s₁.gens= #[])
 (ha:s₁.heap.get? a=some { cls:=.type "list",data:=.seq vs.toArray }) (hi:IntsAre vs ns) (hl:ns.length<=sizeLine) (hr:bD k callerA)
 (hT:s₁.heap.get? T=some (PySem.W.tabObj #[])) (hKT:K.lookup T=none) (hcT:PySem.W.codeHdIn K c T=true) (hbm:s₁.heap.BuiltinsAt mg T)
 (F:∀ base:Heap,K.In base->base.Ns mainGlobals mg->base.BuiltinsAt mg T->bB P w K mg base CX k fa fd [x] sp) (hbind:∀(s:Shared) (u:Value),BindsTo s fd ⟨[u],[]⟩ [(x,u)])
 (hsp:∀ H:Hp,zQ T H->SqL K H a (ns.map V.int)->sp [.ref a] H (fun v _=>v= .bl true) fun _ _ _=>False)
 (hCX:∀ H e s',CX [] H s₁ (fun _ _ _=>False) e s'->False):
 codeAny (model P w) callerA (.call (.ref fa) ⟨[.ref a],[]⟩) (fun r s'=>r= .ok (.ret (.bool true))/\OldK s₁.heap s'.heap/\s'.os=s₁.os/\AllBare s'.gens) s₁:=by
 have rv:=GR hi;have lenV:=hi.length;have aT:a ≠ T:=fun z=>by rw[z,hT]at ha;cases ha
 have core:∀ H:Hp,zQ T H->SqL K H a (ns.map V.int)->HOk P w H s₁.heap->(∀ b,H b ≠ none->b=a\/b=T)->(H a ≠ none->K.lookup a=none)->
  codeAny (model P w) callerA (.call (.ref fa) ⟨[.ref a],[]⟩) (fun r s'=>r= .ok (.ret (.bool true))/\OldK s₁.heap s'.heap/\s'.os=s₁.os/\AllBare s'.gens) s₁:=by
  intro H hO hS hok hA hK;have Ff:∀ {b:Addr} {o:Obj},s₁.heap.get? b=some o->H b=none->(uD s₁.heap H).get? b=some o:=fun e n=>Uw e n
  have noA:∀ {b:Addr} {o:Obj},s₁.heap.get? b=some o->(∀ vs n,o.data ≠ .seq vs n)->(∀ vs,o.data ≠ .fields vs)->H b=none:=fun {b o} e d1 d2=>by
   cases q:H b with
   | none=>rfl
   | some u=>
     rcases hA b (by rw[q];simp) with e' | e'
     · subst e';rw[ha]at e;cases e;exact absurd rfl (d1 _ _)
     · subst e';rw[hT]at e;cases e;exact absurd rfl (d2 _)
  have nsK:∀ {b:Addr} {m:Str->Option Value},s₁.heap.Ns b m->(uD s₁.heap H).Ns b m:=fun {b m} ⟨o,es,ep,e,d,r⟩=>⟨o,es,ep,Ff e (noA e (fun _ _ z=>by rw[d]at z;cases z) fun _ z=>by rw[d]at z;cases z),d,r⟩
  have hKb:K.In (uD s₁.heap H):=fun b o e=>Ff (KX b o e) (by
   cases q:H b with
   | none=>rfl
   | some u=>
     rcases hA b (by rw[q];simp) with e' | e'
     · subst e';rw[hK (by rw[q];simp)]at e;cases e
     · subst e'
       rw[hKT]at e;cases e)
  have adu:(uD s₁.heap H).BuiltinsAt mg T:=let ⟨bm,o,a1,a2,a3,a4,a5,a6,a7,a8⟩:=hbm
   ⟨bm,o,a1,a2,a3,a4,Ff a5 (noA a5 (fun _ _ z=>by rw[a8]at z;cases z) fun _ z=>by rw[a8]at z;cases z),a6,a7,a8⟩
  have hM:Mod K mg (uD s₁.heap H):=⟨hKb,nsK hns,⟨mb,nsK hb,hbb⟩,let ⟨mc,h1,h2⟩:=hlim;⟨mc,nsK h1,h2⟩⟩;have e0:ym P w K mg (uD s₁.heap H) callerA [] s₁ H:=⟨rfl,hM,fun b o e=>Xl e,Nat.le_of_eq (RG _ _),trivial,fun b hb=>absurd (show b ∈ ([]:List Addr) from hb) (by simp),hok,.of_eq hg⟩;refine codeAny_mono ((F _ hKb (nsK hns) adu).run callerA [] s₁ H ⟨[.ref a],[]⟩ [.ref a] [.ref a] _ _ hr e0 (hbind s₁ (.ref a)) (.cons rfl .nil) (hsp H hO hS)) fun r s' h=>?_
  cases r with
  | error e=>exact(hCX H e s' h).elim
  | ok fl=>
    cases fl with
    | next=>exact False.elim h
    | brk=>exact False.elim h
    | cont=>exact False.elim h
    | ret u=>
      obtain⟨v,H',os,bare,un,hok',r',q⟩:=h;have q':v= .bl true:=q;subst q';obtain rfl:u=Value.bool true:=r';obtain⟨ps,hP'⟩:=un.mz T #[] hO.1;have hTs:s'.heap.get? T=some (PySem.W.tabObj (#[]++ps)):=hok' T _ hP'
      have keep:∀ b o,b ≠ T->s₁.heap.get? b=some o->s'.heap.get? b=some o:=fun b o hb e=>by
       cases q:H b with
       | none=>exact un.keep b o e q (by intro z;exact absurd (show b ∈ ([]:List Addr) from z) (by simp)) (by simp)
       | some u=>
         rcases hO.2 b hb with z | ⟨ob,xs,z⟩
         · rw[q]at z;cases z
         · have z2:=un.mq b ob _ z;obtain⟨e1,_⟩:=hok b _ z;obtain⟨e2,_⟩:=hok' b _ z2;rw[e]at e1;cases e1;exact e2
      have hd:=PySem.W.codeHd_of_K KX hcT;refine⟨rfl,⟨fun b o e=>?_,fun b o e=>?_⟩,os,bare⟩
      · by_cases hb:b=T
        · subst hb;rw[hT]at e;cases e;exact .inr (.inl ⟨(hd.tab hT).isCodeTable,rfl,#[],ps,rfl,hTs⟩)
        · exact .inl (keep b o hb e)
      · by_cases hb:b=T
        · subst hb;exact⟨_,hTs⟩
        · exact⟨o,keep b o hb e⟩
 cases hk:K.lookup a with
 | some o=>
   have e:=KX a o hk;rw[ha]at e;cases e;refine core (fun b=>if b=T then some (.tbl #[]) else none) ⟨if_pos rfl,fun b hb=>.inl (if_neg hb)⟩ (.inr ⟨_,vs.toArray,_,hk,rfl,rfl,rfl,by rw[List.size_toArray,lenV];exact hl,by simpa using rv⟩) (fun b u z=>?_) (fun b z=>?_) fun z=>absurd (if_neg aT) z
   · by_cases hb:b=T
     · have z':=(if_pos hb).symm.trans z;cases z';subst hb;exact hT
     · have z':=(if_neg hb).symm.trans z;cases z'
   · by_cases hb:b=T
     · exact .inr hb
     · exact absurd (if_neg hb) z
 | none=>
   refine core (fun b=>if b=T then some (.tbl #[]) else if b=a then some (.frz { cls:=.type "list",data:=.seq vs.toArray } (.lst (ns.map V.int))) else none) ⟨if_pos rfl,fun b hb=>?_⟩ (.inl (.inr ⟨{ cls:=.type "list",data:=.seq vs.toArray },by show(if a=T then _ else _)=_;rw[if_neg aT,if_pos rfl]⟩)) (fun b u z=>?_) (fun b z=>?_) fun _=>hk
   · by_cases hba:b=a
     · exact .inr ⟨_,_,by show(if b=T then _ else _)=_;rw[if_neg hb,if_pos hba]⟩
     · exact .inl (by show(if b=T then _ else _)=_;rw[if_neg hb,if_neg hba])
   · have z:(if b=T then some (HO.tbl #[]) else if b=a then some (.frz { cls:=.type "list",data:=.seq vs.toArray } (.lst (ns.map V.int))) else none)=some u:=z
     by_cases hb:b=T
     · rw[if_pos hb]at z;cases z;subst hb;exact hT
     · rw[if_neg hb]at z
       by_cases hba:b=a
       · rw[if_pos hba]at z;cases z;subst hba;exact⟨ha,by rw[List.length_map];exact hl,vs,_,rv,ha⟩
       · rw[if_neg hba]at z;cases z
   · by_cases hb:b=T
     · exact .inr hb
     · by_cases hba:b=a
       · exact .inl hba
       · exact absurd (by show(if b=T then _ else _)=_;rw[if_neg hb,if_neg hba]) z
theorem ace{l:PySem.W.OpenLaw}{n k:Nat}{q:Program}{loose:List Str}{XP:(Str->Option Value)->Heap->Prop}{YP:World->Heap->Prop}{d:DefRec}{K:Params->ak}{CX:World->CXT}{sp:World->Sp}{x:Str}{T c:Addr}
 (hn:l.most=some n) (hn2:n<=sizeLine) (hdf:d.params.defaults= []) (hr:bD k callerA)
 (hY:∀(w:World) (h:Heap),YP w h->(K w.params).In h/\h.get? T=some (PySem.W.tabObj #[])) (hK:∀ P:Params,(K P).lookup T=none/\PySem.W.codeHdIn (K P) c T=true)
 (F:∀(w:World) (mg:Str->Option Value) (fa:Addr) (h:Heap),(K w.params).In h->h.Ns mainGlobals mg->mg d.name=some (.ref fa)->
   ∃ fd:FuncData,(∀(s:Shared) (u:Value),BindsTo s fd ⟨[u],[]⟩ [(x,u)])/\
     ∀ base:Heap,(K w.params).In base->base.Ns mainGlobals mg->base.BuiltinsAt mg T->bB l.prog w (K w.params) mg base (CX w) k fa fd [x] (sp w))
 (hsp:∀(w:World) (H:Hp) (a:Addr) (ns:List Int),ns.length<=n->zQ T H->SqL (K w.params) H a (ns.map V.int)->sp w [.ref a] H (fun v _=>v= .bl true) fun _ _ _=>False)
 (hCX:∀(w:World) (H:Hp) (s:Shared) (e:Value) (s':Shared),CX w [] H s (fun _ _ _=>False) e s'->False):
 PySem.W.WalkO q loose XP YP l.row.toRowW d [] (fun f vs=>PySem.call f vs):=by
 refine Att.Mu hn hdf fun w s₀ s₁ mg mb fa o pm cd doc a vs ns G Y ho hd hcd hmg hobj hints hlen hg=>?_;obtain⟨KX,hT⟩:=hY w _ Y;obtain⟨fd,hb,hF⟩:=F w mg fa _ KX G.T.g hmg;obtain⟨bm,ob,b1,b2,b3,b4,b5,b6⟩:=G.T.bmain
 have hbm:s₁.heap.BuiltinsAt mg T:=by
  refine⟨bm,ob,b1,b2,fun z=>?_,fun z=>?_,b3,b4,b5,b6⟩
  · obtain⟨o,es,ep,e,hd,_⟩:=G.T.g;rw[z,e]at b3;cases b3;rw[hd]at b6;cases b6
  · rw[z,hT]at b3;cases b3;cases b4
 exact Tp KX G.T.g G.T.b G.T.builtins G.T.nolimit hg hobj hints (Nat.le_trans hlen hn2) hr hT (hK _).1 (hK _).2 hbm hF hb (fun H hO hS=>hsp w H a ns hlen hO hS) fun H e s'=>hCX w H s₁ e s'
section
variable{Pg:List Fn}{cl:Cn}{E:XK}{d:Nat}{X:Cx}{σ:L2.St}{H:Hp}
theorem iz{K:ak}{tg l:Expr}{e:Ev.X}(hK:X.K=K)(he:PE X l (tE Pg cl E d e)):PI X tg l (fun σ H R=>Ph K (tE Pg cl E d e) σ H R\/Uz K (tE Pg cl E d e) σ H R):=by
 subst hK;exact PI.or (qm he) (Zm he)
theorem Yg{a:Expr}{x:Ev.X}{pos}(ha:PE X a (tE Pg cl E d x)):PE X (.UnaryOp .Not a pos) (tE Pg cl E d (.pr .v9 [x])):=PE.of (Zi ha) fun _ _ _ q=>pL S7 q
theorem qt{c a b:Expr}{x y z:Ev.X}{pos}(hc:PT X c (tT Pg cl E d x))(ha:PE X a (tE Pg cl E d y))(hb:PE X b (tE Pg cl E d z)):PE X (.IfExp c a b pos) (tE Pg cl E d (.ite x y z)):=PE.of (Jz hc ha hb) fun _ _ _ q=>aaD q
theorem bf{P:Program}{w:World}{K:ak}{mg:Str->Option Value}{base:Heap}{k i:Nat}{f:Addr}{fd:FuncData}{ps:List Str}:bB P w K mg base (CXE P w) k f fd ps (spF Pg cl 0 i):=by
 have no:∀ vs H Q E,¬ spF Pg cl 0 i vs H Q E:=fun vs H Q E ⟨ρ,ws,h,n,s,r,p⟩=>by
  obtain⟨_,_,_,e,_⟩:=sV p;cases e
 exact⟨fun vs H Q E z=>(no vs H Q E z).elim,fun _ _ _ _ _ _ _ _ _ _ _ _ _ z=>(no _ _ _ _ z).elim⟩
theorem Bo{N':List Str}{sc:Scope}{C:Addr}{s₀:Shared}{H₀:Hp}{fp:List Addr}:Passes (CXE X.prog X.w) (blk X N' sc C s₀ H₀ fp) E0:=fun _ _ _ _ _ _ _ h=>(v5 h).elim
theorem lB{C k f:Nat}{fa:Addr}{m:Str}{mc:List Nat}{fd:FuncData}{ps:List Str}{o e:Expr}{es:List Expr}{xo y:Ev.X}{ys:List Ev.X}{apos pos:Pos}{pl:Sem Bool}(c:Cls X.K (cl C))(hm:Meth X.K (cl C) m fa)(F:bB X.prog X.w X.K X.mg X.base (CXE X.prog X.w) k fa fd ps (spF Pg cl d f))(hr:bD k X.A)(hb:Binds X.K fd ps [])
 (hx:Passes (CXE X.prog X.w) X E) (he:PE X o (tE Pg cl E d xo)) (ha:PA X (e::es) (tA Pg cl E d (y::ys))) (ef:m=nm mc:=by decide +kernel)
 (hst:starEach (e::es) X.env=(false,eval e X.env)::starEach es X.env:=by rfl) (hpl:(backTo pos (starEach es X.env)).any (·.1)=false:=by rfl)
 (ht:eval (.Call (.Attribute o m apos) (e::es) [] pos) X.env=(do
   let ov <- eval o X.env
   standAt apos.atName
   let (f,first) <- holding [ov] (getMethod ov m pl)
   callWith pos f first (backTo pos (starEach (e::es) X.env)) (backToKw pos (keywordEach [] X.env))):=by rfl):
 PE X (.Call (.Attribute o m apos) (e::es) [] pos) (tE Pg cl E d (.meth C mc f xo (y::ys))):=by
 subst ef;exact PE.of (L2.Xr he c hm F hr hb .nil hx ha hst hpl ht) fun _ _ _ q=>Kq q
theorem sW{C k f:Nat}{fa:Addr}{m:Str}{mc:List Nat}{fd:FuncData}{ps:List Str}{o:Expr}{xo:Ev.X}{apos pos:Pos}{pl:Sem Bool}(c:Cls X.K (cl C))(hm:Meth X.K (cl C) m fa)(F:bB X.prog X.w X.K X.mg X.base (CXE X.prog X.w) k fa fd ps (spF Pg cl d f))(hr:bD k X.A)(hb:Binds X.K fd ps [])
 (hx:Passes (CXE X.prog X.w) X E) (he:PE X o (tE Pg cl E d xo)) (ef:m=nm mc:=by decide +kernel)
 (ht:eval (.Call (.Attribute o m apos) [] [] pos) X.env=(do
   let ov <- eval o X.env
   standAt apos.atName
   let (f,first) <- holding [ov] (getMethod ov m pl)
   callWith pos f first (backTo pos (starEach [] X.env)) (backToKw pos (keywordEach [] X.env))):=by rfl):
 PE X (.Call (.Attribute o m apos) [] [] pos) (tE Pg cl E d (.meth C mc f xo [])):=by
 subst ef;refine PE.of (L2.U4 he c hm F hr hb .nil hx ht) fun σ H Q q=>?_;obtain⟨ρ,τ,h,n,s,rs,p⟩:=Kq q;refine⟨ρ,τ,h,n,s,rs,p.mono fun a h ρ H _ _ ⟨w,e,g⟩=>⟨w,e,fun v rv=>?_⟩⟩;obtain⟨a,dx,fs,e1,e2,e3,z⟩:=g v rv;exact⟨a,dx,fs,e1,e2,e3,aaM z⟩
theorem Yh{C k f:Nat}{fa:Addr}{x:Str}{fd:FuncData}{ps:List Str}{e:Expr}{es:List Expr}{y:Ev.X}{ys:List Ev.X}{p pos:Pos}(M:Mk X.K (cl C) fa)(F:bB X.prog X.w X.K X.mg X.base (CXE X.prog X.w) k fa fd ps (spF Pg cl d f))(hr:bD (k+1) X.A)(hg:Gl X x)(hm:X.mg x=some (.ref (cl C)))(hb:Binds X.K fd ps [])(hx:Passes (CXE X.prog X.w) X E)
 (ha:PA X (e::es) (tA Pg cl E d (y::ys))) (hdb:(x==("__debug__":Str))=false:=by decide) (he:starEach (e::es) X.env=(false,eval e X.env)::starEach es X.env:=by rfl) (hpl:(backTo pos (starEach es X.env)).any (·.1)=false:=by rfl):
 PE X (.Call (.Name x p) (e::es) [] pos) (tE Pg cl E d (.make C f (y::ys))):=PE.of (Xu M F hr hg hm hb .nil hx ha hdb he hpl) fun _ _ _ q=>Yd q
theorem sX{σ0:L2.St}{C k:Nat}{cc:List Nat}{fa:Addr}{fd:FuncData}{ps:List Str}{x:Str}{p cpos pos:Pos}(O:Own X)(hxe:X.xe=Bd X E)(hc:X.calm=true)(M:XMk X.K (cl C) fa)(F:bB X.prog X.w X.K X.mg X.base CX0 k fa fd ps (spX (cl C) cc))(hr:bD (k+1) X.A)(hb:Binds X.K fd ps [])
 (hg:Gl X x) (hm:X.mg x=some (.ref (cl C))) (hdb:(x==("__debug__":Str))=false:=by decide):PS X (.Raise (some (.Call (.Name x p) [] [] cpos)) none pos) (tS Pg cl E d σ0 (.raise C cc)):=PS.of (Sy O hxe hc M F hr hb hg hm hdb) fun _ _ _ q=>Tj q
theorem mO{k:Nat}{a:Expr}{x:Ev.X}{tn:Str}{p q pos:Pos}(hk:k<5)(hg:Gl X "isinstance")(hm:X.mg "isinstance" =none)(hgt:Gl X tn)(hmt:X.mg tn=none)(hbt:bootBuiltins tn=some (.type (Vu k)))(ha:PE X a (tE Pg cl E d x))(hnt:tn ≠ "__name__":=by decide)(hdt:(tn==("__debug__":Str))=false:=by decide)
 (he:starEach [a,.Name tn p] X.env=(false,eval a X.env)::starEach [.Name tn p] X.env:=by rfl) (he2:starEach [Expr.Name tn p] X.env=(false,eval (.Name tn p) X.env)::starEach [] X.env:=by rfl) (hpl:(backTo pos (starEach [Expr.Name tn p] X.env)).any (·.1)=false:=by rfl):
 PE X (.Call (.Name "isinstance" q) [a,.Name tn p] [] pos) (tE Pg cl E d (.pr (.isi k) [x])):=by
 refine PE.of (mD Vc hg hm boot_isinstance (aK ha (aK (Xn (v:=.ty (Vu k)) hgt hmt hbt rfl hnt hdt) bw he2) he) (by decide) (by decide) he hpl) fun σ H Q z=>?_;obtain⟨ρ,τ,h,n,s,rs,p⟩:=pL (ab5 (K:=X.K) hk) z;refine⟨ρ,τ,h,n,s,rs,p.mono fun a h ρ H _ _ ⟨w,e,g⟩=>⟨w,e,fun v rv=>?_⟩⟩;obtain⟨t,b,ty,ek,q⟩:=g v rv;exact⟨v,_,t,b,rfl,ty,ek,q⟩
end
section
variable{Pg:List Fn}{cl:Cn}{E:XK}{d:Nat}{X:Cx}{σ:L2.St}{H:Hp}
noncomputable def KTup(K:ak)(a:Addr)(ns:List Int):Prop:=∀ H,SqT K H a (ns.map V.int)
inductive Bp (K:ak):List DictEntry->List (List Nat × List Int)->Prop
 | nil:Bp K [] []
 | cons {hs c t a ns es tb}:KTup K a ns->Bp K es tb->Bp K (⟨hs,.str (nm c) t,.ref a⟩::es) ((c,ns)::tb)
structure QD (K:ak)(w:World)(da:Addr)(tb:List (List Nat × List Int)):Prop where
 ex:∃(es:List DictEntry) (n:Nat),K.lookup da=some ⟨.type "dict",none,.dict es.toArray n,#[]⟩/\PySem.W.KeysLit w.params es/\Bp K es tb
 ns:(da==sysModules)=false
theorem Bp.look{K:ak}{c:List Nat}:∀ {es:List DictEntry} {tb:List (List Nat × List Int)},Bp K es tb->
 (∃ a,(es.find? fun e=>Value.isStrOf (nm c) e.key).map (·.val)=some (.ref a)/\KTup K a (tabOf tb c))\/((es.find? fun e=>Value.isStrOf (nm c) e.key).map (·.val)=none/\tabOf tb c= [])
 | _,_,.nil=>.inr ⟨rfl,rfl⟩
 | _,_,@Bp.cons _ hs c' t a ns es tb k r=>by
   rw[List.find?_cons]
   cases z:codes c' c with
   | true=>
     have e:=cG.mp z;have e1:Value.isStrOf (nm c) (Value.str (nm c') t)=true:=by rw[e];simp[Value.isStrOf]
     have e2:tabOf ((c',ns)::tb) c=ns:=by show ifB (codes c' c) ns (tabOf tb c)=ns;rw[z];rfl
     rw[e1,e2]
     exact .inl ⟨a,rfl,k⟩
   | false=>
     have e1:Value.isStrOf (nm c) (Value.str (nm c') t)=false:=by
      show(nm c'==nm c)=false;exact beq_eq_false_iff_ne.mpr fun q=>by rw[cG.mpr (sI q)]at z;cases z
     have e2:tabOf ((c',ns)::tb) c=tabOf tb c:=by show ifB (codes c' c) ns (tabOf tb c)=_;rw[z];rfl
     rw[e1,e2];exact r.look
noncomputable def QF(K:ak)(tb:List (List Nat × List Int))(t:TE):TE:=fun σ H Q=>t σ H fun v H2=>∃ c,v= .str (nm c)/\∀ p,H2 p=none->∀ a,(a=p/\tabOf tb c= []\/KTup K a (tabOf tb c))->Q (.ref a) (upd H2 p (.tup []))
theorem Yi{x:Str}{da:Addr}{tb:List (List Nat × List Int)}{k:Expr}{t:TE}{p apos cpos tpos:Pos}{x1:Nat}(T:QD X.K X.w da tb)(hg:Gl X x)(hm:X.mg x=some (.ref da))(hk:PE X k t)(hxd:(x==("__debug__":Str))=false:=by decide)
 (hbase:attributeBase (.Name x p) "get" X.env (eval (.Name x p) X.env)=eval (.Name x p) X.env:=by rfl)
 (hfew:((backTo cpos (starEach [k,.Tuple [] x1 tpos] X.env)).all (fun x=> !x.1)&&(backToKw cpos (keywordEach [] X.env)).all (fun x=>x.1.isSome)
   && decide (([k,.Tuple [] x1 tpos]:List Expr).length+([]:List Keyword).length+(if([]:List Keyword).isEmpty then 0 else 1)<30))=true:=by rfl)
 (hline:(apos.endLine==cpos.line)=true:=by rfl) (hs:starEach [k,.Tuple [] x1 tpos] X.env=(false,eval k X.env)::starEach [.Tuple [] x1 tpos] X.env:=by rfl) (hs2:starEach [Expr.Tuple [] x1 tpos] X.env=(false,eval (.Tuple [] x1 tpos) X.env)::starEach [] X.env:=by rfl) (hplain:(backTo cpos (starEach [Expr.Tuple [] x1 tpos] X.env)).any (·.1)=false:=by rfl):
 PE X (.Call (.Attribute (.Name x p) "get" apos) [k,.Tuple [] x1 tpos] [] cpos) (QF X.K tb t):=by
 intro pins s σ H Q I h;obtain⟨⟨es,n,lk,kl,en⟩,ns⟩:=T;refine wpAny_Call_method_late hbase hfew hline rfl (o8 I hg hm ?_ hxd);have hob:=I.kIn _ _ lk;refine⟨"dict","dict.get",PySem.F.plainAttrs_dict,PySem.F.slot_dict_get,PySem.F.type_dict_get,⟨_,hob,rfl⟩,fun a e=>by cases e;exact⟨_,hob,rfl⟩,?_⟩;rw[hs];refine Calls.callWith_builtin (by show(false||(backTo cpos (starEach [Expr.Tuple [] x1 tpos] X.env)).any (·.1))=false;rw[hplain] <;> rfl) (Calls.evalArgs_plain ?_);show wpAny _ _ (spliced ((false,eval k X.env)::backTo cpos (starEach [Expr.Tuple [] x1 tpos] X.env))) _ _ s;refine Calls.spliced_cons (thn (hk pins s σ H _ I h) fun u s1 ⟨v,H1,I1,rv,c,ev,q⟩=>?_);subst ev;obtain⟨tk,rfl⟩:=rv;rw[hs2];show wpAny _ _ (spliced ((false,eval (.Tuple [] x1 tpos) X.env)::backTo cpos (starEach [] X.env))) _ _ s1;refine Calls.spliced_cons (thn (u_ (X:=X) (x1:=x1) (pos:=tpos) bw pins s1 σ H1 (fun y H2=>∃ q',y= .ref q'/\H1 q'=none/\H2=upd H1 q' (.tup [])) I1 ⟨Nat.zero_le _,fun p hp=>⟨p,rfl,hp,rfl⟩⟩) fun u2 s2 ⟨y,H2,I2,ry,q',ey,hq',eH⟩=>?_);subst ey eH;obtain rfl:u2=Value.ref q':=ry;refine Calls.spliced_nil ?_;have mo:=PySem.W.mapOf_K (prog:=X.prog) (w:=X.w) I2.kIn lk (by simpa using kl);refine call_meetsIn PySem.F.slot_dict_get ⟨_,I2.kIn _ _ lk,rfl⟩ PySem.F.entry_dict_get (PySem.F.args_dict_get_3 _ _ _) (meets_dict_get_default (strKind X.prog X.w) da (strKind_is X.prog X.w (nm c) tk) ns (.ref q')) ⟨_,mo,?_⟩
 have fe:findBy Value.isStrOf es.toArray (nm c)=(es.find? fun e=>Value.isStrOf (nm c) e.key).map (·.val):=by
  unfold findBy;rw[List.find?_toArray]
 rcases en.look (c:=c) with ⟨a,e1,e2⟩ | ⟨e1,e2⟩
 · refine⟨.ref a,_,I2.tok _,?_,q q' hq' a (.inr e2)⟩;show(findBy Value.isStrOf es.toArray (nm c)).getD (.ref q')= .ref a;rw[fe,e1];rfl
 · refine⟨.ref q',_,I2.tok _,?_,q q' hq' q' (.inl ⟨rfl,e2⟩)⟩;show(findBy Value.isStrOf es.toArray (nm c)).getD (.ref q')= .ref q';rw[fe,e1];rfl
theorem Yj(i:Int)(ns:List Int):yr i ns=inV (.int i) (ns.map V.int):=by
 induction ns with
 | nil=>rfl
 | cons n ns ih=>
   show ifB (ieq n i) true (yr i ns)=(eqV (.int n) (.int i)||inV (.int i) (ns.map V.int));rw[ih,show eqV (.int n) (.int i)=(n==i) from rfl,Jl];cases ieq n i <;> rfl
theorem Tq(ns:List Int):(ns.map V.int).all oO=true:=by
 induction ns with
 | nil=>rfl
 | cons n ns ih=>exact ih
theorem acf{K:ak}{tb:List (List Nat × List Int)}:Op2 cl (.tab tb) (fun x y H2 Q=>∃ c,y= .str (nm c)/\∀ p,H2 p=none->∀ a,(a=p/\tabOf tb c= []\/KTup K a (tabOf tb c))->rIn K true x (.ref a) (upd H2 p (.tup [])) Q):=fun E ρ h H w1 w2 v1 v2 Q s r1 r2 p=>by
 obtain⟨i,rfl,p1⟩:=oI (show Post cl ρ H E (ofW (aan tb h w1 w2)) (VP Q) from p);cases r1
 cases r2 with
 | str c=>
   refine⟨c,rfl,fun q hq a ha=>?_⟩;have p2:Post cl ρ H E (ofW (.yes (!yr i (tabOf tb c)) h)) (VP Q):=p1
   have fin:Q (.bl (!inV (.int i) ((tabOf tb c).map V.int))) (upd H q (.tup [])):=by
    rw[<- Yj];exact Post.yes (s.other hq) (p2.later (Bt.other hq)) rfl
   rcases ha with ⟨rfl,e⟩ | ha
   · rw[e]at fin;exact⟨a,[],rfl,.inr (SqT.of az),rfl,rfl,fin⟩
   · exact⟨a,_,rfl,.inr (ha _),rfl,Tq _,fin⟩
 | _=>exact p1.elim
theorem tab_of{K:ak}{tb:List (List Nat × List Int)}{a k:Ev.X}{Q:VK}(x:tE Pg cl E d (.pr (.tab tb) [a,k]) σ H Q):tOp (rIn K true) (tE Pg cl E d a) (QF K tb (tE Pg cl E d k)) σ H Q:=vq acf x
theorem aaO{x:Str}{da:Addr}{tb:List (List Nat × List Int)}{a k:Expr}{xa xk:Ev.X}{p apos cpos tpos pos:Pos}{x1:Nat}(T:QD X.K X.w da tb)(hg:Gl X x)(hm:X.mg x=some (.ref da))(ha:PE X a (tE Pg cl E d xa))(hk:PE X (.Call (.Attribute (.Name x p) "get" apos) [k,.Tuple [] x1 tpos] [] cpos) (QF X.K tb (tE Pg cl E d xk)))
 (hmk:behindInMarks .NotIn (.Call (.Attribute (.Name x p) "get" apos) [k,.Tuple [] x1 tpos] [] cpos)=false):PT X (.Compare a [.NotIn] [.Call (.Attribute (.Name x p) "get" apos) [k,.Tuple [] x1 tpos] [] cpos] pos) (tT Pg cl E d (.pr (.tab tb) [xa,xk])):=PT.of (qp mF ha hk hmk) fun _ _ _ q=>tab_of q
end
theorem vD:("word":Str)=nm jE:=by decide +kernel
noncomputable def spS(K:ak):Sp:=fun vs H Q _=>∃ e C y,vs= [.ref e,y]/\H e=some (XO e C none)/\jJ K C/\cL K C "word"/\∀ dx,H dx=none->dx ≠ e->Q .non (upd (upd H dx (.xd [("word",y)])) e (XO e C (some dx)))
section
variable{Pg:List Fn}{cl:Cn}{E:XK}{d:Nat}{X:Cx}{σ:L2.St}{H:Hp}
theorem Sim.same{ρ:List Addr}{h:Hs}{H':Hp}(s:Sim cl ρ h H)(e:eO H H'):Sim cl ρ h H'/\Bt cl ρ H ρ H':=by
 refine⟨⟨s.len,s.nd,fun n a q=>?_,fun on=>?_⟩,List.prefix_refl _,fun b u q nb=>⟨nb,fun _=>e b u q,u,e b u q⟩⟩
 · obtain⟨o,ho,x⟩:=s.obj n a q;obtain⟨u,hu⟩:=x.som;exact⟨o,ho,x.keep (List.prefix_refl _) ((e a u hu).trans hu.symm)⟩
 · obtain⟨ps,h1,h2,h3⟩:=s.tb on;refine⟨ps,e _ _ h1,h2,fun pos cv z=>?_⟩;obtain⟨c',e1,e2⟩:=h3 pos cv z;exact⟨c',e1,e _ _ e2⟩
end
end Ev
namespace Ev
open PySem L2
section
variable{Pg:List Fn}{cl:Cn}{E:XK}{d:Nat}{X:Cx}{σ σ0:L2.St}{H:Hp}
noncomputable def never:S:=.expr (.pr .neg [])
theorem Sim.none(t:Tb cl H):Sim cl [] (.mk 0 .lf) H:=⟨rfl,by simp,fun n a h=>by simp at h,t⟩
theorem Sim.adopt{ρ:List Addr}{h:Hs}{p:Addr}{o:O}(s:Sim cl ρ h H)(e:p ∉ ρ)(x:OA cl (ρ ++ [p]) H p o):Sim cl (ρ ++ [p]) (h.push o) H where
 len:=by rw[List.length_append,Hs.pJ,s.len];rfl
 nd:=List.nodup_append.mpr ⟨s.nd,by simp,fun a ha b hb z=>by
  simp only[List.mem_singleton]at hb
  exact e (by rw[<- hb,<- z];exact ha)⟩
 obj:=fun n a hn=>by
  rw[Hs.mK]
  by_cases hlt:n<ρ.length
  · rw[List.getElem?_append_left hlt]at hn;obtain⟨o',q,y⟩:=s.obj n a hn;exact⟨o',by rw[if_neg (by rw[<- s.len];omega)];exact q,y.keep (List.prefix_append _ _) rfl⟩
  · have hn':n=ρ.length:=by
     have:=(bu hn).1;rw[List.length_append]at this;simp at this;omega
    subst hn';rw[List.getElem?_append_right (aA _),Nat.sub_self]at hn;simp at hn;subst hn;exact⟨o,by rw[if_pos s.len],x⟩
 tb:=s.tb
theorem Oe{a:Addr}{u:HO}(t:Tb cl H)(e:H a=some u)(n:∀ ps,u ≠ .tbl ps):cl.on=true->a ≠ cl.P:=fun on z=>by
 obtain⟨ps,q,_⟩:=t on;rw[<- z,e]at q;exact n ps (Option.some.inj q)
noncomputable def goes(r:R A)(f:Sg->Hs->Bool):Bool:=match r with
 | .ok (.fl (.nx τ)) h=>f τ h
 | _=>false
theorem VR{α:Type}{xs:List α}{i:Nat}{x:α}(h:xs[i]? =some x):xs.set i x=xs:=by
 apply List.ext_getElem?;intro j;rw[List.getElem?_set]
 by_cases e:i=j
 · subst e;rw[if_pos rfl,h,if_pos (bu h).1]
 · rw[if_neg e]
theorem Yk{T:Addr}(h:zQ T H)(e:cl.P=T):Tb cl H:=fun _=>⟨#[],by rw[e];exact h.1,trivial,fun pos cv z=>by simp[codeAmong]at z⟩
theorem rw_ints(ρ:List Addr):∀ ns:List Int,RWs ρ (ns.map W.int) (ns.map V.int)
 | []=>.nil
 | n::ns=>.cons (.int n) (rw_ints ρ ns)
theorem ao{x p}{es:List Expr}{a:Ev.X}{as:List Ev.X}(ha:PE X (.Name x p) (tE Pg cl E d a))(hr:PA X es (tA Pg cl E d as)):PA X (.Name x p::es) (tA Pg cl E d (a::as)):=gK ha hr rfl
theorem cH{x k p}{es:List Expr}{a:Ev.X}{as:List Ev.X}(ha:PE X (.Constant x k p) (tE Pg cl E d a))(hr:PA X es (tA Pg cl E d as)):PA X (.Constant x k p::es) (tA Pg cl E d (a::as)):=gK ha hr rfl
theorem jx{x k p}{es:List Expr}{a:Ev.X}{as:List Ev.X}(ha:PE X (.Tuple x k p) (tE Pg cl E d a))(hr:PA X es (tA Pg cl E d as)):PA X (.Tuple x k p::es) (tA Pg cl E d (a::as)):=gK ha hr rfl
theorem zR{x p}{es:List Expr}{a:Ev.X}{as:List Ev.X}(ha:PE X (.List x p) (tE Pg cl E d a))(hr:PA X es (tA Pg cl E d as)):PA X (.List x p::es) (tA Pg cl E d (a::as)):=gK ha hr rfl
theorem bG{x o y p}{es:List Expr}{a:Ev.X}{as:List Ev.X}(ha:PE X (.BinOp x o y p) (tE Pg cl E d a))(hr:PA X es (tA Pg cl E d as)):PA X (.BinOp x o y p::es) (tA Pg cl E d (a::as)):=gK ha hr rfl
theorem rT{f x k p}{es:List Expr}{a:Ev.X}{as:List Ev.X}(ha:PE X (.Call f x k p) (tE Pg cl E d a))(hr:PA X es (tA Pg cl E d as)):PA X (.Call f x k p::es) (tA Pg cl E d (a::as)):=gK ha hr rfl
theorem jM{x i p}{es:List Expr}{a:Ev.X}{as:List Ev.X}(ha:PE X (.Subscript x i p) (tE Pg cl E d a))(hr:PA X es (tA Pg cl E d as)):PA X (.Subscript x i p::es) (tA Pg cl E d (a::as)):=gK ha hr rfl
theorem Kv{x f p}{es:List Expr}{a:Ev.X}{as:List Ev.X}(ha:PE X (.Attribute x f p) (tE Pg cl E d a))(hr:PA X es (tA Pg cl E d as)):PA X (.Attribute x f p::es) (tA Pg cl E d (a::as)):=gK ha hr rfl
theorem V0{x y z p}{es:List Expr}{a:Ev.X}{as:List Ev.X}(ha:PE X (.IfExp x y z p) (tE Pg cl E d a))(hr:PA X es (tA Pg cl E d as)):PA X (.IfExp x y z p::es) (tA Pg cl E d (a::as)):=gK ha hr rfl
theorem wu{o x p}{es:List Expr}{a:Ev.X}{as:List Ev.X}(ha:PE X (.UnaryOp o x p) (tE Pg cl E d a))(hr:PA X es (tA Pg cl E d as)):PA X (.UnaryOp o x p::es) (tA Pg cl E d (a::as)):=gK ha hr rfl
end
structure QE (X:Cx)(e:Expr)(t:TE):Prop where
 h:PE X e t
structure QA (X:Cx)(e:List Expr)(t:TA):Prop where
 h:PA X e t
structure QS (X:Cx)(e:Stmt)(t:TS):Prop where
 h:PS X e t
structure QSs (X:Cx)(e:List Stmt)(t:TS):Prop where
 h:PSs X e t
section
variable{Pg:List Fn}{cl:Cn}{E:XK}{d:Nat}{X:Cx}{σ0:L2.St}
theorem Tt{es:List Expr}{xs:List Ev.X}{pos}(h:QA X es (tA Pg cl E d xs)):QE X (.List es pos) (tE Pg cl E d (.pr .lst xs)):=⟨cY h.h⟩
theorem Tu:QA X [] (tA Pg cl E d []):=⟨aq⟩
theorem m8{s:Str}(c:List Nat){n:Int}{j1 j2 x}{p1 p2 pos:Pos}{es:List Expr}{as:List Ev.X}(hr:QA X es (tA Pg cl E d as))(e:s= ⟨c.toArray⟩:=by decide +kernel):
 QA X (.Tuple [.Constant (.str s) j1 p1,.Constant (.int n) j2 p2] x pos::es) (tA Pg cl E d (.pr .tup [.cst (.str c),.cst (.int n)]::as)):=⟨jx (eX (cH (gh c e) (cH aC aq))) hr.h⟩
theorem acg{op:Operator}{p:Pr}{r:R2}{a b:Expr}{x y:Ev.X}{pos:Pos}(z:Op2 cl p r)(o:OpR X (binaryOp op) r)(ha:QE X a (tE Pg cl E d x))(hb:QE X b (tE Pg cl E d y)):QE X (.BinOp a op b pos) (tE Pg cl E d (.pr p [x,y])):=⟨aG z o ha.h hb.h⟩
theorem Tv{i:Nat}{x:Str}{e:Expr}{y:Ev.X}{pos pos':Pos}(hN:X.N.Nodup)(hi:X.N[i]? =some x)(hx:Loc X.env.scope x)(he:QE X e (tE Pg cl E d y))(hs:swapsWith e (some (.Name x pos')) pos.line X.env=pure false:=by rfl)(hf:X.fn x=true\/X.env.scope.names.lookup x=some .local:=by first | exact .inl rfl | exact .inr rfl | assumption):
 QS X (.Assign [.Name x pos'] e pos) (tS Pg cl E d σ0 (.asg (.nm i) y)):=⟨Te hN hi hx he.h hs hf⟩
end
end Ev
namespace Ev
open PySem PyProof.Rows L2
noncomputable def Bq(a:Addr)(n:Nat)(h:Heap):Prop:=∃(o:Obj) (es:Array (Int × Value)) (ep:Nat) (t:SetTable),h.get? a=some o/\o.ExactSet/\o.data= .set es ep t/\t.fits es.size=true/\es.size=n/\n<scanBound
theorem Tw{a:Addr}{n:Nat}(h1 h2:Heap)(x:Bq a n h1)(k:∀ o,h1.get? a=some o->h2.get? a=some o):Bq a n h2:=by
 obtain⟨o,es,ep,t,e,r⟩:=x;exact⟨o,es,ep,t,k o e,r⟩
theorem G9:∀ {ns:List Int} {us:List Value},Vals (ns.map V.int) us->IntsAre us ns
 | [],[],_=>.nil
 | [],_::_,h=>by cases h
 | _::_,[],h=>by cases h
 | n::ns,u::us,h=>by
   cases h with
   | cons h1 h2=>
     obtain⟨t,rfl⟩:=h1;exact .cons n t (G9 h2)
noncomputable def unlike(ns:List Int):Nat:=(firstMet (fun i=>ns.getD i 0) ns.length).length
section
variable{X:Cx}
theorem Tz:lW X (.builtin "len") (fun xs H Q=>∃ a n,xs= [.ref a]/\H a=some (.ext (Bq a n))/\Q (.int n) H):=by
 intro pins s σ H xs us Q I r h;obtain⟨a,n,rfl,he,q⟩:=h;obtain⟨u,rfl,rx⟩:=vals1 r;cases rx;obtain⟨⟨o,es,ep,t,ho,hex,hd,hf,rfl,hb⟩,_⟩:=I.hok a _ he;have h4:((es.size:Int)<2 ^ 63):=by unfold scanBound at hb;omega
 exact call_len_set ho hex hd hf h4 ⟨.int es.size,H,I.tok _,⟨s.toks+1,rfl⟩,q⟩
theorem TF(hh:X.A.handled=none):lW X (.type "set") (fun xs H Q=>∃ p ns,xs= [.ref p]/\SqL X.K H p (ns.map V.int)/\ns.length<=1000/\∀ l,H l=none->Q (.ref l) (upd H l (.ext (Bq l (unlike ns))))):=by
 intro pins s σ H xs us Q I r h;obtain⟨p,ns,rfl,hq,hn,q⟩:=h;obtain⟨u,rfl,rx⟩:=vals1 r;cases rx;obtain⟨its,r',pl,hz⟩:=I.list hq;have hlen:=r'.length;rw[List.length_map]at hlen;refine call_set_list (items:=its.toArray) (ns:=ns) hh pl.isList (by simpa using G9 r') (by simp;unfold scanBound;omega) fun h' tk hS kp=>?_;obtain⟨o,es,ep,t,e1,e2,e3,_,_,e4,e5,e6⟩:=hS;have e7:es.size=unlike ns:=by rw[e6];unfold unlike;rw[List.size_toArray,<- hlen]
 exact⟨.ref s.heap.objs.size,_,I.laid (t':=tk) (fun b o e=>kp b o (Heap.lt_size e) e) (aA _) (show bO X.prog X.w _ h' _ (.ext (Bq s.heap.objs.size (unlike ns))) from ⟨⟨o,es,ep,t,e1,e2,e3,e5,e7,by rw[<- e7];exact e4⟩,⟨o,e1⟩,fun h1 h2=>Tw h1 h2⟩),rfl,q _ (I.hok.fresh (aA _))⟩
variable{Pg:List Fn}{cl:Cn}{E:XK}{d:Nat}
theorem Kw{ρ:List Addr}:∀ {xs:List W} {vs:List V} {ns:List Int},RWs ρ xs vs->lX xs=some ns->vs=ns.map V.int
 | [],_,_,.nil,e=>by cases e;rfl
 | x::xs,_,ns,.cons r rs,e=>by
   have e:W.elim x none (fun _=>none) (fun i=>Option.rec none (fun r=>some (i::r)) (lX xs)) (fun _=>none) (fun _=>none)=some ns:=e
   cases r with
   | int i=>
     cases z:lX xs with
     | none=>rw[z]at e;cases e
     | some r=>rw[z]at e;cases e;rw[Kw rs z];rfl
   | non=>cases e
   | bl b=>cases e
   | str c=>cases e
   | ref h=>cases e
theorem Ky(x:Int):∀ acc:List Int,yr x acc=acc.any (· == x)
 | []=>rfl
 | y::acc=>by
   show ifB (ieq y x) true (yr x acc)=((y==x)||acc.any (· == x));rw[jn,Ky x acc]
   by_cases z:y=x
   · subst z;simp[ifB]
   · have:(y==x)=false:=by simpa using z
     rw[decide_eq_false z,this];rfl
theorem W4:∀(l acc:List Int),dd l acc=l.foldl step_dedup acc
 | [],_=>rfl
 | x::l,acc=>by
   show dd l (ifB (yr x acc) acc (app acc [x]))=l.foldl step_dedup (step_dedup acc x);rw[W4 l,Ky,kE];unfold step_dedup;cases acc.any (· == x) <;> rfl
theorem TJ(ns:List Int):unlike ns=(dd ns []).length:=by
 unfold unlike firstMet;rw[W4]
 have:(List.range ns.length).map (fun i=>ns.getD i 0)=ns:=by
  apply List.ext_getElem?;intro i
  by_cases h:i<ns.length
  · simp[h]
  · simp[h]
 rw[this]
theorem V1{K:ak}:Op1 cl .Cz (fun x H Q=>∃ p ns,x= .ref p/\SqL K H p (ns.map V.int)/\ns.length<=1000/\∀ l,H l=none->Q (.int (unlike ns)) (upd H l (.ext (Bq l (unlike ns))))):=fun E ρ h H w1 v1 Q s r1 p=>by
 have p:Post cl ρ H E (ofW (pLs h w1)) (VP Q):=p;obtain⟨n,o,a,rfl,rfl,e1,g1,x1,p⟩:=oAt s r1 p;obtain⟨xs,rfl,p⟩:=oL p;obtain⟨hl,p⟩:=oIf p;obtain⟨ns,hn,p⟩:=nZ p;obtain⟨us,ru,q⟩:=x1;have hlen:=ru.length;rw[Kw ru hn]at q hlen;rw[List.length_map]at hlen;have hl':xs.length<=1000:=by rw[len_eq]at hl;exact Nat.le_of_ble_eq_true hl
 refine⟨a,ns,rfl,SqL.of q,by omega,fun l hl=>?_⟩;have z:=Post.gb (s.other (u:=.ext (Bq l (unlike ns))) hl) (p.later (Bt.other hl)) (.int _);rw[len_eq,<- TJ]at z;exact z
theorem G_{a:Expr}{x:Ev.X}{p q pos1 pos:Pos}(hh:X.A.handled=none)(hg:Gl X "len")(hm:X.mg "len" =none)(hg2:Gl X "set")(hm2:X.mg "set" =none)(ha:PE X a (tE Pg cl E d x))
 (he:starEach [a] X.env=(false,eval a X.env)::starEach [] X.env:=by rfl):
 PE X (.Call (.Name "len" p) [.Call (.Name "set" q) [a] [] pos1] [] pos) (tE Pg cl E d (.pr .Cz [x])):=by
 refine PE.of (mD Tz hg hm boot_len (aK (uf (TF hh) hg2 hm2 rfl (aK ha bw he) (by decide) (by decide) he rfl) bw rfl) (by decide) (by decide) rfl rfl) fun σ H Q z=>?_;obtain⟨ρ,τ,h,n,s,rs,p⟩:=pL (V1 (K:=X.K)) z;refine⟨ρ,τ,h,n,s,rs,p.mono fun a h ρ H _ _ ⟨w,e,g⟩=>⟨w,e,fun v rv=>?_⟩⟩;obtain⟨p',ns,rfl,q1,q2,q3⟩:=g v rv;exact⟨p',ns,rfl,q1,q2,fun l hl=>⟨l,_,rfl,az,q3 l hl⟩⟩
end
noncomputable def CP(r:Addr)(lo hi:Int)(h:Heap):Prop:=∃ t u v,IsRange h r lo hi 1 t u v
noncomputable def yx(n:Nat)(lo:Int):List V:=(List.range n).map fun(k:Nat)=>V.int (lo+k)
theorem QG{n:Nat}(h:n<=3000):n<sizeLine:=Nat.lt_of_le_of_lt h (by decide)
theorem Og:∀ {xs:List V} {us:List Value},xs.length=us.length->(∀(i:Nat) (x:V) (u:Value),xs[i]? =some x->us[i]? =some u->RelV x u)->Vals xs us
 | [],[],_,_=>.nil
 | [],_::_,e,_=>by simp at e
 | _::_,[],e,_=>by simp at e
 | x::xs,u::us,e,h=>.cons (h 0 x u rfl rfl) (Og (by simpa using e) fun i x u a b=>h (i+1) x u (by simpa using a) (by simpa using b))
section
variable{X:Cx}
theorem QH:lW X (.type "range") (fun xs H Q=>∃ i j,xs= [.int i,.int j]/\∀ l,H l=none->Q (.ref l) (upd H l (.ext (CP l i j)))):=by
 intro pins s σ H xs us Q I r h;obtain⟨i,j,rfl,q⟩:=h;obtain⟨u1,u2,rfl,⟨t,rfl⟩,⟨t',rfl⟩⟩:=vals2 r;refine call_range_2 ?_;exact⟨.ref s.heap.objs.size,_,I.laid (t':=_) (fun b o e=>Heap.get?_push_of_some _ e) (aA _) (show bO X.prog X.w _ _ _ (.ext (CP s.heap.objs.size i j)) from ⟨⟨_,_,_,IsRange.new ..⟩,⟨_,IsRange.new ..⟩,fun h1 h2 ⟨t,u,v,e⟩ k=>⟨t,u,v,k _ e⟩⟩),rfl,q _ (I.hok.fresh (aA _))⟩
theorem QJ(hh:X.A.handled=none):lW X (.type "list") (fun xs H Q=>∃ p lo hi,xs= [.ref p]/\H p=some (.ext (CP p lo hi))/\-1000<lo/\lo<1000/\-1000<hi/\hi<1000/\∀ l,H l=none->Q (.ref l) (upd H l (.lst (yx (hi - lo).toNat lo)))):=by
 intro pins s σ H xs us Q I r h;obtain⟨p,lo,hi,rfl,he,h1,h2,h3,h4,q⟩:=h;obtain⟨u,rfl,rx⟩:=vals1 r;cases rx;obtain⟨⟨t,u,v,hr⟩,_⟩:=I.hok p _ he;refine call_list_range (n:=(hi - lo).toNat) hh hr (small_one (by omega) (by omega) (by omega) (by omega)) (by rw[rangeSize_one];split <;> omega) (by omega) fun h' tk acc c kp e it=>?_;refine⟨.ref s.heap.objs.size,_,I.laid (t':=tk) (fun b o e=>kp b o e) (aA _) (show bO X.prog X.w _ h' _ (.lst (yx (hi - lo).toNat lo)) from ?_),rfl,q _ (I.hok.fresh (aA _))⟩;have hlen:(yx (hi - lo).toNat lo).length=acc.toList.length:=by have:=it.1;simp[yx];omega
 refine⟨?_,acc.toList,c,Og hlen fun i x u a b=>?_,by simpa using e⟩
 · refine Nat.le_of_lt (QG ?_);simp[yx];omega
 · rw[Array.getElem?_toList]at b;obtain⟨t,rfl⟩:=it.2 i u b
   have hi:i<(hi - lo).toNat:=by
    have:=(Array.getElem?_eq_some_iff.mp b).1;rw[it.1]at this;exact this
   simp[yx,hi]at a;subst a;exact⟨t,by simp⟩
variable{Pg:List Fn}{cl:Cn}{E:XK}{d:Nat}
end
end Ev
namespace Ev
open PySem PySem.Spec PySem.SeqAt PyProof.Rows L2
section
variable{Pg:List Fn}{cl:Cn}{E:XK}{d:Nat}{X:Cx}{σ σ0:L2.St}{H:Hp}
noncomputable def frm(n:Nat)(kv:List (Nat × W)):Sg:=kv.foldr (fun p τ=>setAt τ (some p.2) p.1) (List.replicate n none)
end
section
variable{P:Program}{w:World}{K:ak}{mg:Str->Option Value}{base:Heap}
theorem TQ{i:Int}(h1: -(2 ^ 20)<i)(h2:i<2 ^ 20):L2.Sml i:=by
 unfold L2.Sml;exact bH (show i.natAbs<2 ^ 20 by omega) (Nat.pow_le_pow_right (by decide) (by decide))
noncomputable def below(n:Nat):List Int:=(List.range n).map Int.ofNat
end
section
variable{Pg:List Fn}{cl:Cn}{E:XK}{d:Nat}{X:Cx}{σ σ0:L2.St}{H:Hp}
noncomputable def ends(n:Nat)(r:R A):Bool:=goes r fun τ _=>Nat.beq τ.length n&&(cN τ 0).isNone
noncomputable def again(Pg:List Fn)(m d i:Nat)(tl:List S)(row:List Int)(τ:Sg)(h:Hs):R A:=evs Pg m d (.ss tl) (setAt τ (some (.ref h.n)) i) (h.push (.lst (row.map W.int)))
end
section
variable{Pg:List Fn}{cl:Cn}{E:XK}{d:Nat}{X:Cx}{σ σ0:L2.St}{H:Hp}
noncomputable def post(i:Nat)(r:R A):Option (Nat × Option W × Option O):=R.rec (fun a h=>A.rec (fun _=>none) (fun _=>none) (fun _=>none) (fun f=>Fl.rec (fun τ=>some (len τ,cN τ i,h.get 0)) (fun _=>none) (fun _=>none) (fun _=>none) f) none a) (fun _ _ _=>none) none r
end
section
variable{ρ:List Addr}
noncomputable abbrev KR(ρ:List Addr):List (W × W)->List (Key × V)->Prop:=Paired fun p q=>KW p.1 q.1/\RW ρ p.2 q.2
theorem W5{b:W}{v:V}(h:mJ b=true)(r:RW ρ b v):∃ k,KW b k/\v=kV k:=by
 cases r with
 | int i=>exact⟨.inl i,.int i,rfl⟩
 | str c=>exact⟨.inr _,.str c,rfl⟩
 | _=>cases h
theorem TV{a b:W}{k l:Key}(ha:KW a k)(hb:KW b l):keq a b=decide (k=l):=by
 cases ha with
 | int i=>cases hb with
   | int j=>
     show ieq i j=_;rw[jn]
     by_cases z:i=j
     · rw[decide_eq_true z,z];simp
     · rw[decide_eq_false z,decide_eq_false (fun q=>z (Sum.inl.inj q))]
   | str c=>show false=_;simp
 | str x=>cases hb with
   | int j=>show false=_;simp
   | str y=>
     show codes x y=_
     cases c:codes x y with
     | true=>rw[cG.mp c];simp
     | false=>
       refine(decide_eq_false fun q=>?_).symm;have e:=sI (show nm x=nm y from Sum.inr.inj q);rw[cG.mpr e]at c;cases c
theorem Br{b:W}{k:Key}(hb:KW b k):∀ {kvs:List (W × W)} {gs:List (Key × V)},KR ρ kvs gs->(∀ w,bM kvs b=some w->∃ v,pH gs k=some v/\RW ρ w v)/\isS (bM kvs b)=(pH gs k).isSome
 | _,_,.nil=>⟨fun w e=>(by have e:(none:Option W)=some w:=e;cases e),rfl⟩
 | p::kvs,q::gs,.cons r t=>by
   obtain⟨ih1,ih2⟩:=Br hb t;have e:bM (p::kvs) b=ifB (keq p.1 b) (some p.2) (bM kvs b):=rfl;rw[e,TV r.1 hb]
   by_cases z:q.1=k
   · rw[decide_eq_true z,vW z];exact⟨fun w h=>(by have h:some p.2=some w:=h;cases h;exact⟨_,rfl,r.2⟩),rfl⟩
   · rw[decide_eq_false z,vX z];exact⟨ih1,ih2⟩
theorem Kz{b w:W}{k:Key}{v:V}(hb:KW b k)(rw':RW ρ w v):∀ {kvs:List (W × W)} {gs:List (Key × V)},KR ρ kvs gs->KR ρ (jD kvs b w) (gs.map fun kv=>if kv.1=k then(kv.1,v) else kv)
 | _,_,.nil=>.nil
 | p::kvs,q::gs,.cons r t=>by
   have e:jD (p::kvs) b w=ifB (keq p.1 b) (p.1,w) p::jD kvs b w:=rfl;rw[e,TV r.1 hb,List.map_cons];refine .cons ?_ (Kz hb rw' t)
   by_cases z:q.1=k
   · rw[decide_eq_true z,if_pos z];exact⟨r.1,rw'⟩
   · rw[decide_eq_false z,if_neg z];exact r
theorem KR.snoc{p:W × W}{q:Key × V}(r:KW p.1 q.1/\RW ρ p.2 q.2):∀ {kvs:List (W × W)} {gs:List (Key × V)},KR ρ kvs gs->KR ρ (kvs ++ [p]) (gs ++ [q])
 | _,_,.nil=>.cons r .nil
 | _,_,.cons h t=>.cons h (KR.snoc r t)
theorem V2{b w:W}{k:Key}{v:V}(hb:KW b k)(rw':RW ρ w v){kvs:List (W × W)}{gs:List (Key × V)}(h:KR ρ kvs gs):KR ρ (dY kvs b w) (putK gs k v):=by
 unfold dY putK;rw[(Br hb h).2,Bc]
 cases (pH gs k).isSome with
 | true=>rw[if_pos rfl];exact Kz hb rw' h
 | false=>rw[if_neg (by simp),kE];exact KR.snoc ⟨hb,rw'⟩ h
theorem aaP{cl:Cn}{E:XK}{H:Hp}{β:Type}{o:O}{f:List (W × W)->R β}{P:β->Hs->List Addr->Hp->Prop}(p:Post cl ρ H E (o.onD f) P):∃ xs,o= .dk xs/\Post cl ρ H E (f xs) P:=by
 cases o with
 | dk xs=>exact⟨xs,rfl,p⟩
 | _=>exact p.elim
end
section
variable{Pg:List Fn}{cl:Cn}{E:XK}{d:Nat}{X:Cx}{σ σ0:L2.St}{H:Hp}
noncomputable def rDG:R2:=fun x y H Q=>∃ a v,x= .ref a/\Et H a y (some v)/\Q v H
theorem Yl(hu:X.A.units+1<cLine):IxR X rDG:=by
 intro value slice pins s σ H x y v u Q I rx ry h hs;obtain⟨a,w,rfl,g,q⟩:=h;cases rx;exact tail_any (Mv I g) PySem.F.slot_dict_getitem.lookup (R9 hu I g ry fun w' s3 I3 rw'=>⟨w,H,I3,rw',q⟩) hs
theorem aaQ:Op2 cl .Qs rDG:=fun E ρ h H w1 w2 v1 v2 Q s r1 r2 p=>by
 obtain⟨n,o,a,rfl,rfl,e1,g1,x1,p⟩:=oAt s r1 (show Post cl ρ H E (ofW (WR h w1 w2)) (VP Q) from p)
 cases o with
 | dk kvs=>
   obtain⟨gs,kr,hH⟩:=x1;have p:Post cl ρ H E (ofW (ifB (mJ w2) (Opt (bM kvs w2) fun w=>.ok w h) .no)) (VP Q):=p
   cases c:mJ w2 with
   | false=>rw[c]at p;exact p.elim
   | true=>
     rw[c]at p;obtain⟨k,kw,rfl⟩:=W5 c r2;obtain⟨f,_⟩:=Br kw kr;have p:Post cl ρ H E (ofW (Opt (bM kvs w2) fun w=>.ok w h)) (VP Q):=p
     cases e:bM kvs w2 with
     | none=>rw[e]at p;exact p.elim
     | some w=>
       rw[e]at p;obtain⟨v,ev,rv⟩:=f w e
       exact⟨a,v,rfl,ev ▸ Et.k hH,Post.gb s p rv⟩
 | _=>exact p.elim
theorem Ym{a b:Expr}{x y:Ev.X}{pos:Pos}(hu:X.A.units+1<cLine)(ha:PE X a (tE Pg cl E d x))(hb:PE X b (tE Pg cl E d y))(hs:Er b:=by exact fun _ _=>rfl):PE X (.Subscript a b pos) (tE Pg cl E d (.pr .Qs [x,y])):=
 PE.of (Ck (Yl hu) ha hb hs) fun _ _ _ q=>vq aaQ q
theorem Yn{pos:Pos}:PE X (.Dict [] [] pos) (tE Pg cl E d (.pr .Vs [])):=PE.of Vb fun σ H Q x=>by
 obtain⟨ρ,τ,h,n,s,rs,q⟩:=x.step;intro p hp;have q:Post cl ρ H E (ofW (.alloc h (.dk []))) (VP Q):=q;exact q.new s hp ⟨[],.nil,az⟩
theorem Yo{o k v:Ev.X}{D:Ends}(x:tS Pg cl E d σ0 (.dput o k v) D σ H):Wx (tE Pg cl E d o) (tE Pg cl E d k) (tE Pg cl E d v) D σ H:=by
 obtain⟨ρ,τ,h,n,s,rs,ag,q⟩:=x.step;refine ev.then s rs (show Post cl ρ H E ((evs Pg n d (.x v) τ h).bind fun r h=>r.toW fun w=>(evs Pg n d (.x o) τ h).bind fun r h=>r.toW fun a=>(evs Pg n d (.x k) τ h).bind fun r h=>r.toW fun b=>h.at a fun n o=>o.onD fun kvs=>ifB (mJ b) (ifB (Nat.ble (len kvs) 1000000) (.ok (.fl (.nx τ)) (h.set n (.dk (dY kvs b w)))) .no) .no) (SPo σ0 D) from q) fun a1 h1 ρ1 H1 b1 s1 p1=>?_;obtain⟨w,rfl,p2⟩:=bR p1;refine⟨w,rfl,fun wv rwv=>?_⟩;refine ev.then s1 (rs.mono b1.1) p2 fun a2 h2 ρ2 H2 b2 s2 p3=>?_;obtain⟨a,rfl,p4⟩:=bR p3;refine⟨a,rfl,fun av rav=>?_⟩;refine ev.then s2 (rs.mono (b1.1.trans b2.1)) p4 fun a3 h3 ρ3 H3 b3 s3 p5=>?_;obtain⟨b,rfl,p6⟩:=bR p5;refine⟨b,rfl,fun bv rbv=>?_⟩;obtain⟨m,ob,ad,rfl,rfl,e1,g1,x1,p7⟩:=at_of s3 (rav.mono b3.1) p6;obtain⟨kvs,rfl,p8⟩:=aaP p7;obtain⟨ck,p9⟩:=f9 p8;obtain⟨cl1,p10⟩:=f9 p9;obtain⟨gs,kr,hH⟩:=x1;obtain⟨key,kw,rfl⟩:=W5 ck rbv;have hl:kvs.length=gs.length:=Paired.length kr
 have hlt:gs.length<sizeLine:=by
  rw[ble_eq,len_eq]at cl1;have:=of_decide_eq_true cl1;rw[m6];omega
 have kr2:=V2 kw ((rwv.mono b2.1).mono b3.1) kr;refine⟨ad,_,rfl,JP.k hH hlt,?_⟩;obtain⟨f,ef,qf⟩:=p10 ρ3 (upd H3 ad (.dK (putK gs key wv))) (Bt.put e1) (s3.put e1 ⟨_,kr2,az⟩);cases ef;exact qf σ (rs.mono (b1.1.trans (b2.1.trans b3.1))) ag
theorem Oh{o i value:Expr}{xo xi xv:Ev.X}{pos pos':Pos}(hu:X.A.units+1<cLine)(ho:PE X o (tE Pg cl E d xo))(hi:PE X i (tE Pg cl E d xi))(hv:PE X value (tE Pg cl E d xv))(hs:swapsWith value (some (.Subscript o i pos')) pos.line X.env=pure false:=by rfl):
 PS X (.Assign [.Subscript o i pos'] value pos) (tS Pg cl E d σ0 (.dput xo xi xv)):=PS.of (Xw hu ho hi hv hs) fun _ _ _ q=>Yo q
end
end Ev
namespace L2
theorem bD.u1{k:Nat}{A:PySem.Around}(r:bD k A):A.units+1<PySem.cLine:=by have:=r.un;omega
end L2
namespace Ev
open PySem PySem.Spec PySem.SeqAt PyProof.Rows L2
section
variable{Pg:List Fn}{cl:Cn}{E:XK}{d:Nat}{X:Cx}{σ0:L2.St}
theorem Oi:QSs X [] (tSs Pg cl E d σ0 []):=⟨au⟩
theorem iI{st:Stmt}{rest:List Stmt}{a:S}{as:List S}(h1:QS X st (tS Pg cl E d σ0 a))(h2:QSs X rest (tSs Pg cl E d σ0 as)):QSs X (st::rest) (tSs Pg cl E d σ0 (a::as)):=⟨aa h1.h h2.h⟩
theorem aaR{P:Program}{w:World}{K:ak}{mg:Str->Option Value}{base:Heap}{k i:Nat}{x qual:Str}{st:Stmt}{f:Addr}{fd:FuncData}{N ps:List Str}{b:List S}(F:Fun K x qual st f fd)(Sc:aD N ps (aj st))(hp:Pg[i]? =some (.mk ps.length N.length b))
 (hbody:∀(σ0:L2.St) (cdv:Value) (A:Around) (outer:List Env) (s:Shared) (H:Hp) (E:XK),bD k (A.deeper (envOfC qual (aj st) s.heap.objs.size f cdv))->Passes (CXE P w) (cB (CXE P w) P w K mg base N qual (aj st) f cdv A outer s H E) E->
   QSs (cB (CXE P w) P w K mg base N qual (aj st) f cdv A outer s H E) (bA st) (tSs Pg cl E d σ0 b)):bB P w K mg base (CXE P w) (k+1) f fd ps (spF Pg cl (d+1) i):=
 cg F Sc hp fun σ0 cdv A outer s H E hr hq=>(hbody σ0 cdv A outer s H E hr hq).h
end
noncomputable section
noncomputable def heapOf(os:List O):Hs:=os.foldl (fun h o=>h.push o) (.mk 0 .lf)
noncomputable def zH(n:Nat)(ns:List Nat):Bool:=List.rec true (fun x _ r=>ifB (Nat.beq x n) false r) ns
end
section
variable{Pg:List Fn}{cl:Cn}{E:XK}{d:Nat}{X:Cx}{σ σ0:L2.St}{H:Hp}{ρ:List Addr}{h:Hs}{m:List Nat}
theorem Am(os:List O)(o:O):heapOf (os ++ [o])=(heapOf os).push o:=by unfold heapOf;rw[List.foldl_append];rfl
theorem qD:∀(os:List O),(heapOf os).n=os.length/\∀ k,(heapOf os).get k=os[k]?:=by
 intro os;generalize e:os.length=n
 induction n generalizing os with
 | zero=>
   have:os= []:=List.length_eq_zero_iff.mp e;subst this
   exact⟨rfl,fun k=>by cases k <;> rfl⟩
 | succ n ih=>
   obtain⟨xs,x,rfl⟩:∃ xs x,os=xs ++ [x]:=⟨os.dropLast,os.getLast (by intro z;rw[z]at e;cases e),(List.dropLast_concat_getLast _).symm⟩;have l:xs.length=n:=by simpa using e
   obtain⟨h1,h2⟩:=ih xs l;rw[Am];refine⟨by rw[Hs.pJ,h1],fun k=>?_⟩;rw[Hs.mK,h1]
   by_cases z:k=n
   · subst z;rw[if_pos rfl,List.getElem?_append_right (by omega),l,Nat.sub_self];rfl
   · rw[if_neg z,h2]
     by_cases q:k<n
     · rw[List.getElem?_append_left (by omega)]
     · rw[List.getElem?_eq_none (by omega),List.getElem?_eq_none (by rw[List.length_append,l];simp;omega)]
structure CS (cl:Cn)(n i:Nat)(kv:List (Nat × W))(os:List O)(r:Addr)(row:List V)(σ:L2.St)(H:Hp):Prop where
 len:σ.length=n
 at_:σ[i]? =some (some (.ref r))
 row:H r=some (.lst row)
 sim:∃ ρ,Sim cl ρ (heapOf os) H/\RS ρ (frm n kv) σ/\r ∉ ρ
end
section
variable{Pg:List Fn}{cl:Cn}{E:XK}{d:Nat}{X:Cx}{H H' H'':Hp}{ρ:List Addr}
noncomputable def cO(cl:Cn)(H H':Hp):Prop:=(∀ b u,H b=some u->((cl.on=true->b ≠ cl.P)->H' b=some u)/\∃ u',H' b=some u')/\(Tb cl H->Tb cl H')
theorem cO.trans(a:cO cl H H')(b:cO cl H' H''):cO cl H H'':=⟨fun c u e=>by
 obtain⟨h1,u',h2⟩:=a.1 c u e;obtain⟨h3,h4⟩:=b.1 c u' h2;refine⟨fun n=>?_,h4⟩;have:=h1 n;rw[h2]at this;cases this
 exact h3 n,fun t=>b.2 (a.2 t)⟩
theorem cO.of(s:eO H H'):cO cl H H':=⟨fun b u e=>⟨fun _=>s b u e,u,s b u e⟩,fun t on=>by
 obtain⟨ps,h1,h2,h3⟩:=t on;refine⟨ps,s _ _ h1,h2,fun pos cv e=>?_⟩;obtain⟨c',e1,e2⟩:=h3 pos cv e
 exact⟨c',e1,s _ _ e2⟩⟩
theorem cO.at(s:cO cl H H')(t:Tb cl H){b:Addr}{u:HO}(n:∀ ps,u ≠ .tbl ps)(e:H b=some u):H' b=some u:=(s.1 b u e).1 (Oe t e n)
theorem cO.free(s:cO cl H H'){b:Addr}(e:H' b=none):H b=none:=by
 cases z:H b with
 | none=>rfl
 | some u=>
   obtain⟨_,u',q⟩:=s.1 b u z;rw[e]at q;cases q
theorem Oj{os:List O}(t:Tb cl H)(l:ρ.length=os.length)(nd:ρ.Nodup)(h:∀(k:Nat) (a:Addr) (o:O),ρ[k]? =some a->os[k]? =some o->OA cl ρ H a o):Sim cl ρ (heapOf os) H:=by
 obtain⟨g1,g2⟩:=qD os;refine⟨by rw[g1,l],nd,fun k a e=>?_,t⟩;have hk:k<os.length:=by rw[<- l];exact(bu e).1
 exact⟨os[k],by rw[g2];exact List.getElem?_eq_getElem hk,h k a _ e (List.getElem?_eq_getElem hk)⟩
noncomputable def rF(os:List O)(h:Hs):Bool:=(List.range os.length).all fun k=>decide (h.get k=os[k]?)
theorem V3{os:List O}{h:Hs}(e:rF os h=true){k:Nat}(hk:k<os.length):h.get k=os[k]?:=of_decide_eq_true (List.all_eq_true.mp e k (List.mem_range.mpr hk))
theorem V4{os:List O}{h':Hs}{ρ':List Addr}(s:Sim cl ρ (heapOf os) H)(b:Bt cl ρ H ρ' H')(s':Sim cl ρ' h' H')(k:rF os h'=true)(flat:∀ a ∈ ρ,∃ u,H a=some u/\∀ ps,u ≠ .tbl ps)
 (same:∀(j:Nat) (a:Addr) (o:O),ρ[j]? =some a->os[j]? =some o->OA cl ρ' H' a o->H' a=H a):cO cl H H':=by
 obtain⟨g1,_⟩:=qD os;refine⟨fun c u e=>?_,fun _=>s'.tb⟩
 by_cases z:c ∈ ρ
 · obtain⟨j,hj⟩:=List.getElem?_of_mem z;have hjl:j<os.length:=by rw[<- g1,<- s.len];exact(bu hj).1
   have x:=s'.at (gJ b.1 hj) ((V3 k hjl).trans (List.getElem?_eq_getElem hjl));have q:=same j c _ hj (List.getElem?_eq_getElem hjl) x;exact⟨fun _=>q.trans e,u,q.trans e⟩
 · obtain⟨_,h2,h3⟩:=b.2 c u e z;exact⟨h2,h3⟩
end
section
variable{Pg:List Fn}{cl:Cn}{E:XK}{d:Nat}{X:Cx}{H H' H'':Hp}{ρ:List Addr}
noncomputable def PsA(H:Hp)(a:Addr)(bs:List Addr)(ps:List (Int × Int)):Prop:=H a=some (.lst (bs.map V.ref))/\Paired (fun b (p:Int × Int)=>H b=some (.tup [.int p.1,.int p.2])) bs ps
noncomputable def psO(ps:List (Int × Int)):List O:=.lst ((List.range ps.length).map fun k=>.ref (k+1))::ps.map fun p=>.tup [.int p.1,.int p.2]
theorem Paired.Fg{α β:Type}{R:α->β->Prop}:∀ {xs:List α} {ys:List β} {i:Nat} {a:α} {b:β},Paired R xs ys->xs[i]? =some a->ys[i]? =some b->R a b
 | _,_,_,_,_,.nil,e,_=>by simp at e
 | _,_,0,_,_,.cons r _,e,e'=>by simp at e e';subst e;subst e';exact r
 | _,_,i+1,a,b,.cons _ t,e,e'=>Paired.Fg (i:=i) (a:=a) (b:=b) t (by simpa using e) (by simpa using e')
theorem PsA.nd{a:Addr}{bs:List Addr}{ps:List (Int × Int)}(h:PsA H a bs ps)(n:ps.Nodup):(a::bs).Nodup:=by
 obtain⟨h1,h2⟩:=h;rw[List.nodup_cons]
 constructor
 · intro m;obtain⟨i,hi⟩:=List.getElem?_of_mem m;have hl:i<ps.length:=by rw[<- h2.length];exact(bu hi).1
   have:=Paired.Fg h2 hi (List.getElem?_eq_getElem hl);rw[h1]at this;cases this
 · clear h1
   induction h2 with
   | nil=>exact List.nodup_nil
   | @cons b p bs ps r t ih=>
     rw[List.nodup_cons]at n ⊢;refine⟨fun m=>n.1 ?_,ih n.2⟩;obtain⟨i,hi⟩:=List.getElem?_of_mem m;have hl:i<ps.length:=by rw[<- t.length];exact(bu hi).1
     have q:=Paired.Fg t hi (List.getElem?_eq_getElem hl);rw[r]at q
     have:p=ps[i]:=by
      injection q with q;injection q with q;injection q with q1 q2;injection q1 with q1;injection q2 with q2;injection q2 with q2;exact Prod.ext q1 q2
     rw[this];exact List.getElem_mem hl
theorem KC(ρ:List Addr):∀(bs:List Addr) (k:Nat),(∀ i b,bs[i]? =some b->ρ[k+i]? =some b)->RWs ρ ((List.range' k bs.length).map W.ref) (bs.map V.ref)
 | [],_,_=>.nil
 | b::bs,k,h=>.cons (.ref (by simpa using h 0 b rfl)) (KC ρ bs (k+1) fun i c e=>by
    have:=h (i+1) c (by simpa using e)
    rw[<- this];congr 1;omega)
theorem PsA.sim{a:Addr}{bs:List Addr}{ps:List (Int × Int)}(h:PsA H a bs ps)(n:ps.Nodup)(t:Tb cl H):Sim cl (a::bs) (heapOf (psO ps)) H:=by
 refine Oj t (by simp[psO,h.2.length]) (h.nd n) fun k c o hk ho=>?_
 cases k with
 | zero=>
   simp at hk;subst hk;simp[psO]at ho;subst ho;refine⟨_,?_,h.1⟩;have:=KC (a::bs) bs 1 fun i b e=>by rw[Nat.add_comm];simpa using e
   rw[h.2.length]at this;rw[List.range'_eq_map_range,List.map_map]at this
   simpa [Function.comp_def,Nat.add_comm] using this
 | succ k=>
   have hk':bs[k]? =some c:=by simpa using hk
   have ho':(ps.map fun p=>O.tup [.int p.1,.int p.2])[k]? =some o:=by simpa [psO] using ho
   rw[List.getElem?_map]at ho'
   cases e:ps[k]? with
   | none=>rw[e]at ho';cases ho'
   | some p=>
     rw[e]at ho';cases Option.some.inj ho';have w1:=Paired.Fg h.2 hk' e;exact⟨_,.cons (.int _) (.cons (.int _) .nil),w1⟩
theorem PsA.call{a:Addr}{bs:List Addr}{ps:List (Int × Int)}(h:PsA H a bs ps)(n:ps.Nodup)(t:Tb cl H){f k:Nat}{m:Int}{r:W}{h':Hs}{Q:VK}
 (e:evs Pg k d (.call f [.int m,.ref 0]) [] (heapOf (psO ps))= .ok (.w r) h') (kq:rF (psO ps) h'=true)
 (q:∀ ρ' H' v,(a::bs) <+:ρ'->(∀ x ∈ ρ',x ∉ a::bs->H x=none)->Sim cl ρ' h' H'->cO cl H H'->RW ρ' r v->Q v H'):spF Pg cl d f [.int m,.ref a] H Q E:=by
 have s:=h.sim n t;refine⟨a::bs,[.int m,.ref 0],heapOf (psO ps),k,s,.cons (.int m) (.cons (.ref rfl) .nil),?_⟩;rw[e];intro ρ' H' b s';refine⟨r,rfl,fun v hv=>q ρ' H' v b.1 (fun x hx hn=>?_) s' ?_ hv⟩
 · cases z:H x with
   | none=>rfl
   | some u=>exact((b.2 x u z hn).1 hx).elim
 · refine V4 s b s' kq (fun c hc=>?_) fun j c o hj ho x=>?_
   · rcases List.mem_cons.mp hc with rfl | m
     · exact⟨_,h.1,fun _ z=>by cases z⟩
     · obtain⟨i,hi⟩:=List.getElem?_of_mem m;have hl:i<ps.length:=by rw[<- h.2.length];exact(bu hi).1
       have w1:=Paired.Fg h.2 hi (List.getElem?_eq_getElem hl);exact⟨_,w1,fun _ z=>by cases z⟩
   · have y:=s.at hj ((qD (psO ps)).2 j |>.trans ho)
     have up:∀ xs vs,RWs (a::bs) xs vs->∀ vs',RWs ρ' xs vs'->vs=vs':=fun xs vs u=>by
      induction u with
      | nil=>intro vs' u';cases u';rfl
      | cons r1 _ ih=>
        intro vs' u'
        cases u' with
        | cons r2 t2=>
          rw[ih _ t2];congr 1
          cases r1 <;> cases r2 <;> first | rfl | skip
          rename_i e1 _ e2;rw[gJ b.1 e1]at e2;rw[Option.some.inj e2]
     have:(∃ xs,o= .tup xs)\/∃ xs,o= .lst xs:=by
      cases j with
      | zero=>simp[psO]at ho;exact .inr ⟨_,ho.symm⟩
      | succ j=>
        have ho':(ps.map fun p=>O.tup [.int p.1,.int p.2])[j]? =some o:=by simpa [psO] using ho
        rw[List.getElem?_map]at ho'
        cases e:ps[j]? with
        | none=>rw[e]at ho';cases ho'
        | some p=>rw[e]at ho';cases Option.some.inj ho';exact .inl ⟨_,rfl⟩
     rcases this with ⟨xs,rfl⟩ | ⟨xs,rfl⟩
     · obtain⟨v1,u1,w1⟩:=y;obtain⟨v2,u2,w2⟩:=x;rw[w1,w2,up _ _ u1 _ u2]
     · obtain⟨v1,u1,w1⟩:=y;obtain⟨v2,u2,w2⟩:=x;rw[w1,w2,up _ _ u1 _ u2]
end
noncomputable def aJ:Nat->List Int->List (List (Int × Int))
 | _,[]=>[[]]
 | 0,_::_=>[]
 | n+1,x::t=>t.flatMap fun p=>(aJ n (t.filter fun y=> !decide (y=p))).map fun rest=>(x,p)::rest
noncomputable def Lp(H₀ H:Hp)(a:Addr)(ps:List (Int × Int)):Prop:=∃ bs:List Addr,PsA H a bs ps/\∀ b ∈ bs,H₀ b=none
theorem Lp.keep{H₀ H H':Hp}{a:Addr}{ps:List (Int × Int)}(h:Lp H₀ H a ps)(ha:∀ u,H a=some u->H' a=some u)(ht:∀ b xs,H b=some (.tup xs)->H' b=some (.tup xs)):Lp H₀ H' a ps:=by
 obtain⟨bs,⟨e,r⟩,n⟩:=h;exact⟨bs,⟨ha _ e,Paired.nU r fun _ _ q=>ht _ _ q⟩,n⟩
theorem Lp.same{H₀ H H':Hp}{a:Addr}{ps:List (Int × Int)}(h:Lp H₀ H a ps)(s:eO H H'):Lp H₀ H' a ps:=h.keep (fun _ e=>s _ _ e) fun _ _ e=>s _ _ e
theorem Lp.old{H₀ H₁ H:Hp}{a:Addr}{ps:List (Int × Int)}(h:Lp H₁ H a ps)(s:∀ b,H₁ b=none->H₀ b=none):Lp H₀ H a ps:=by
 obtain⟨bs,p,n⟩:=h;exact⟨bs,p,fun b hb=>s b (n b hb)⟩
theorem eO.free{H H':Hp}(s:eO H H')(b:Addr)(e:H' b=none):H b=none:=by
 cases z:H b with
 | none=>rfl
 | some u=>rw[s b u z]at e;cases e
theorem Lp.put{H₀ H:Hp}{a F:Addr}{o:HO}{ps xs}(h:Lp H₀ H a ps)(ne:a ≠ F)(hF:H F=some (.lst xs)):Lp H₀ (upd H F o) a ps:=h.keep (fun _ e=>by rw[aB ne];exact e) fun b ys e=>by rw[aB (Wq e hF (fun z=>by cases z))];exact e
noncomputable abbrev LAs(H₀ H:Hp):List Addr->List (List (Int × Int))->Prop:=Paired (Lp H₀ H)
theorem Paired.QK{α β:Type}{R:α->β->Prop}{a:α}{b:β}(r:R a b):∀ {xs:List α} {ys:List β},Paired R xs ys->Paired R (xs ++ [a]) (ys ++ [b])
 | _,_,.nil=>.cons r .nil
 | _,_,.cons h t=>.cons h (Paired.QK r t)
theorem Paired.Bs{α β:Type}{R:α->β->Prop}:∀ {xs:List α} {ys:List β} {i:Nat} {a:α},Paired R xs ys->xs[i]? =some a->∃ b,ys[i]? =some b/\R a b
 | _,_,_,_,.nil,e=>by simp at e
 | _,_,0,_,.cons r _,e=>by simp at e;subst e;exact⟨_,rfl,r⟩
 | _,_,i+1,a,.cons _ t,e=>by
   obtain⟨b,h1,h2⟩:=Paired.Bs (i:=i) (a:=a) t (by simpa using e);exact⟨b,by simpa using h1,h2⟩
noncomputable def CQ(n:Nat):Sp:=fun vs H Q _=>∃(a:Addr) (ns:List Int),vs= [.ref a]/\H a=some (.lst (ns.map V.int))/\ns.length<n/\ns.length<=20/\(aJ n ns).length<=100000/\
 ∀(r:Addr) (as:List Addr) (H':Hp),H r=none->eO H H'->H' r=some (.lst (as.map V.ref))->LAs H H' as (aJ n ns)->(∀ x ∈ as,H x=none/\x ≠ r)->Q (.ref r) H'
theorem aaS{x:Int}{t:List Int}{n:Nat}{p:Int}(h:p ∈ t):(aJ n (t.filter fun y=> !decide (y=p))).length<=(aJ (n+1) (x::t)).length:=by
 show _<=(t.flatMap fun p=>(aJ n (t.filter fun y=> !decide (y=p))).map fun rest=>(x,p)::rest).length;generalize ht:t=s at h ⊢
 have:∀ l:List Int,p ∈ l->(aJ n (s.filter fun y=> !decide (y=p))).length<=(l.flatMap fun p=>(aJ n (s.filter fun y=> !decide (y=p))).map fun rest=>(x,p)::rest).length:=by
  intro l
  induction l with
  | nil=>intro h;simp at h
  | cons q l ih=>
    intro h;rw[List.flatMap_cons,List.length_append,List.length_map]
    rcases List.mem_cons.mp h with e | e
    · rw[e];omega
    · have:=ih e;omega
 exact this s h
theorem TX{α β:Type}(f:α->List β)(l:List α)(i:Nat):((l.take i).flatMap f).length<=(l.flatMap f).length:=by
 have:l.flatMap f=(l.take i).flatMap f++(l.drop i).flatMap f:=by rw[<- List.flatMap_append,List.take_append_drop]
 rw[this,List.length_append];omega
theorem LAs.put{H₀ H:Hp}{F:Addr}{o:HO}{xs:List V}(hF:H F=some (.lst xs)):∀ {as:List Addr} {pss:List (List (Int × Int))},LAs H₀ H as pss->(∀ z ∈ as,z ≠ F)->LAs H₀ (upd H F o) as pss
 | _,_,.nil,_=>.nil
 | a::as,_::_,.cons r t,h=>.cons (r.put (h a (by simp)) hF) (LAs.put hF t fun z hz=>h z (List.mem_cons_of_mem _ hz))
theorem LAs.same{H₀ H H':Hp}{as:List Addr}{pss:List (List (Int × Int))}(h:LAs H₀ H as pss)(s:eO H H'):LAs H₀ H' as pss:=Paired.nU h fun _ _ r=>r.same s
theorem LAs.old{H₀ H₁ H:Hp}{as:List Addr}{pss:List (List (Int × Int))}(h:LAs H₁ H as pss)(s:∀ b,H₁ b=none->H₀ b=none):LAs H₀ H as pss:=Paired.nU h fun _ _ r=>r.old s
theorem pairs_len:∀ {n:Nat} {ns:List Int} {ps:List (Int × Int)},ps ∈ aJ n ns->ps.length<=ns.length
 | _,[],ps,h=>by
   have:ps= []:=by simpa [aJ] using h
   rw[this];simp
 | 0,_::_,ps,h=>by simp[aJ]at h
 | n+1,x::t,ps,h=>by
   obtain⟨p,hp,h⟩:=List.mem_flatMap.mp (show ps ∈ t.flatMap fun p=>(aJ n (t.filter fun y=> !decide (y=p))).map fun rest=>(x,p)::rest from h);obtain⟨r,hr,rfl⟩:=List.mem_map.mp h;have h1:=pairs_len hr;have h2:=List.length_filter_le (fun y=> !decide (y=p)) t;simp only[List.length_cons];omega
theorem Lp.CV{cl:Cn}{H₀ H H':Hp}{a:Addr}{ps:List (Int × Int)}(h:Lp H₀ H a ps)(s:cO cl H H')(t:Tb cl H):Lp H₀ H' a ps:=by
 obtain⟨bs,⟨e,r⟩,n⟩:=h;exact⟨bs,⟨s.at t (fun _ z=>by cases z) e,Paired.nU r fun _ _ q=>s.at t (fun _ z=>by cases z) q⟩,n⟩
theorem LAs.CV{cl:Cn}{H₀ H H':Hp}{as:List Addr}{pss:List (List (Int × Int))}(h:LAs H₀ H as pss)(s:cO cl H H')(t:Tb cl H):LAs H₀ H' as pss:=Paired.nU h fun _ _ r=>r.CV s t
theorem cO.put{cl:Cn}{H H':Hp}{D:Addr}{xs ys:List V}(s:cO cl H H')(t:Tb cl H')(n:H D=none)(e:H' D=some (.lst xs)):cO cl H (upd H' D (.lst ys)):=⟨fun b u q=>by
 have nb:b ≠ D:=bL q n
 rw[aB nb];exact s.1 b u q,fun _ on=>by
 obtain⟨ps,h1,h2,h3⟩:=t on;refine⟨ps,by rw[aB (fun z=>by rw[z,e]at h1;cases h1)];exact h1,h2,fun pos cv q=>?_⟩;obtain⟨c',e1,e2⟩:=h3 pos cv q
 exact⟨c',e1,by rw[aB (fun z=>by rw[z,e]at e2;cases e2)];exact e2⟩⟩
noncomputable abbrev Fi:=Nat->Option (List (Int × Int) × List Int)
noncomputable def Fj(cl:Cn)(tbl:Fi):Sp:=fun vs H Q _=>∃ m ps adds,vs= [.int (m:Nat)]/\tbl m=some (ps,adds)/\Tb cl H/\
 ∀(r a b:Addr) (bs:List Addr) (H':Hp),(a::bs ++ [b,r]).Nodup->(∀ x ∈ a::bs ++ [b,r],H x=none)->cO cl H H'->H' r=some (.tup [.ref a,.ref b])->PsA H' a bs ps->H' b=some (.lst (adds.map V.int))->Q (.ref r) H'
noncomputable def plO(n:Nat)(ps:List (Int × Int))(adds:List Int):List O:=(.lst ((List.range' (n+1) ps.length).map W.ref)::ps.map fun p=>.tup [.int p.1,.int p.2]) ++ [.lst (adds.map W.int),.tup [.ref n,.ref (n+1+ps.length)]]
noncomputable def QL:Fi
 | 7=>some ([(1,3),(2,6),(4,5)],[2,4,1])
 | 9=>some ([(1,2),(3,7),(4,6),(5,8)],[5,4,2,7])
 | 11=>some ([(1,2),(3,6),(4,8),(5,10),(7,9)],[3,9,1,4,5])
 | _=>none
noncomputable def sY(h:Hs)(os:List O):Hs:=os.foldl (fun h o=>h.push o) h
theorem An:∀(os:List O) (h:Hs),(sY h os).n=h.n+os.length/\∀ k,(sY h os).get k=if k<h.n then h.get k else if k<h.n+os.length then os[k - h.n]? else h.get k
 | [],h=>⟨rfl,fun k=>by
   show h.get k=_
   by_cases c:k<h.n
   · rw[if_pos c]
   · rw[if_neg c,if_neg (by simpa using c)]⟩
 | o::os,h=>by
   obtain⟨g1,g2⟩:=An os (h.push o);have e:sY h (o::os)=sY (h.push o) os:=rfl;rw[Hs.pJ]at g1 g2;rw[e];refine⟨by rw[g1,List.length_cons];omega,fun k=>?_⟩;rw[g2 k,Hs.mK]
   by_cases c:k<h.n
   · rw[if_pos (show k<h.n+1 by omega),if_neg (show ¬ k=h.n by omega),if_pos c]
   · rw[if_neg c]
     by_cases c2:k=h.n
     · subst c2;rw[if_pos (Nat.lt_succ_self _),if_pos rfl,if_pos (by rw[List.length_cons];omega),Nat.sub_self];rfl
     · rw[if_neg (show ¬ k<h.n+1 by omega),if_neg c2,List.length_cons]
       by_cases c3:k<h.n+1+os.length
       · rw[if_pos c3,if_pos (show k<h.n+(os.length+1) by omega),show k - h.n=(k - (h.n+1))+1 by omega];simp
       · rw[if_neg c3,if_neg (show ¬ k<h.n+(os.length+1) by omega)]
theorem KD{ρ:List Addr}:∀(xs:List Int),RWs ρ (xs.map W.int) (xs.map V.int)
 | []=>.nil
 | _::xs=>.cons (.int _) (KD xs)
noncomputable def pPl(tbl:Fi)(h:Hs)(w:W):R W:=w.onI fun i=>Int.rec (fun m=>Opt (tbl m) fun t=>.ok (.ref (h.n+t.1.length+2)) (sY h (plO h.n t.1 t.2))) (fun _=>.no) i
noncomputable def Pr.plan(tbl:Fi):Pr:=⟨fun ws h=>iD ws (pPl tbl h)⟩
variable{Pg:List Fn}{cl:Cn}{E:XK}{d:Nat}{X:Cx}
theorem aaT{tbl:Fi}:OpN cl (.plan tbl) (fun vs H Q=>Fj cl tbl vs H Q E0):=fun E ρ h H ws vs Q s r p=>by
 obtain⟨w,v,rfl,rfl,r1,p⟩:=Jk r (show Post cl ρ H E (ofW (iD ws (pPl tbl h))) (VP Q) from p);obtain⟨i,rfl,p⟩:=oI p;cases r1
 cases i with
 | negSucc _=>exact p.elim
 | ofNat m=>
   obtain⟨⟨ps,adds⟩,e,p⟩:=nZ (show Post cl ρ H E (ofW (Opt (tbl m) fun t=>.ok (.ref (h.n+t.1.length+2)) (sY h (plO h.n t.1 t.2)))) (VP Q) from p);refine⟨m,ps,adds,rfl,e,s.tb,fun r a b bs H' nd fr sm hr pa hb=>?_⟩;have bl:bs.length=ps.length:=pa.2.length;obtain⟨g1,g2⟩:=An (plO h.n ps adds) h;have ol:(plO h.n ps adds).length=ps.length+3:=by simp[plO]
   have sl:=s.len
   have gN:∀ k,(ρ++(a::bs ++ [b,r]))[h.n+k]? =(a::bs ++ [b,r])[k]?:=fun k=>by
    rw[List.getElem?_append_right (by omega)];congr 1;omega
   have B:Bt cl ρ H (ρ++(a::bs ++ [b,r])) H':=⟨List.prefix_append _ _,fun c u q n=>⟨fun z=>(List.mem_append.mp z).elim n fun z=>by
    exact absurd q (by rw[fr c z];intro y;cases y),sm.1 c u q⟩⟩
   have S:Sim cl (ρ++(a::bs ++ [b,r])) (sY h (plO h.n ps adds)) H':=by
    refine⟨?_,?_,fun k c hk=>?_,sm.2 s.tb⟩
    · rw[g1,ol,List.length_append,sl];simp[bl]
    · refine List.nodup_append.mpr ⟨s.nd,nd,fun c hc e he z=>?_⟩;subst z;obtain⟨j,hj⟩:=List.getElem?_of_mem hc;obtain⟨o,_,x⟩:=s.obj j c hj;obtain⟨u,hu⟩:=x.som;rw[fr c he]at hu;cases hu
    · by_cases c1:k<h.n
      · rw[List.getElem?_append_left (by omega)]at hk;obtain⟨o,ho,x⟩:=s.obj k c hk;refine⟨o,by rw[g2,if_pos c1];exact ho,x.keep (List.prefix_append _ _) ?_⟩;obtain⟨u,hu⟩:=x.som
        have np:cl.on=true->c ≠ cl.P:=fun on z=>by
         obtain⟨ps',h1,_⟩:=s.tb on;have y:=x.pl;rw[z,h1]at y;exact y.elim
        rw[hu];exact(sm.1 c u hu).1 np
      · obtain⟨j,rfl⟩:∃ j,k=h.n+j:=⟨k - h.n,by omega⟩;rw[gN]at hk
        have hj:j<ps.length+3:=by
         have:=(bu hk).1;simp[bl]at this;omega
        rw[g2,if_neg c1,if_pos (by omega),Nat.add_sub_cancel_left]
        cases j with
        | zero=>
          have:a=c:=by simpa using hk
          subst this;refine⟨_,rfl,bs.map V.ref,?_,pa.1⟩
          have:=KC (ρ++(a::bs ++ [b,r])) bs (h.n+1) fun i b' e=>by
           rw[show h.n+1+i=h.n+(i+1) by omega,gN,List.cons_append,List.getElem?_cons_succ,List.getElem?_append_left (bu e).1];exact e
          rw[bl]at this
          exact this
        | succ j=>
          rw[List.cons_append,List.getElem?_cons_succ]at hk;have e0:(plO h.n ps adds)[j+1]? =((ps.map fun p=>O.tup [.int p.1,.int p.2]) ++ [.lst (adds.map W.int),.tup [.ref h.n,.ref (h.n+1+ps.length)]])[j]?:=rfl;rw[e0]
          by_cases c2:j<ps.length
          · rw[List.getElem?_append_left (by omega)]at hk;rw[List.getElem?_append_left (by simpa using c2)];have q:=Paired.Fg pa.2 hk (List.getElem?_eq_getElem c2);refine⟨.tup [.int ps[j].1,.int ps[j].2],by simp[c2],_,.cons (.int _) (.cons (.int _) .nil),q⟩
          · rw[List.getElem?_append_right (by omega),bl]at hk;rw[List.getElem?_append_right (by simpa using c2),List.length_map]
            obtain hz | hz:j - ps.length=0\/j - ps.length=1:=by omega
            · rw[hz]at hk ⊢;have:b=c:=by simpa using hk
              subst this;exact⟨_,rfl,adds.map V.int,KD adds,hb⟩
            · rw[hz]at hk ⊢;have:r=c:=by simpa using hk
              subst this;refine⟨_,rfl,_,.cons (.ref ?_) (.cons (.ref ?_) .nil),hr⟩
              · rw[<- Nat.add_zero h.n,gN];rfl
              · rw[show h.n+1+ps.length=h.n+(ps.length+1) by omega,gN,List.cons_append,List.getElem?_cons_succ,List.getElem?_append_right (by omega),bl,Nat.sub_self];rfl
   obtain⟨w,e2,q⟩:=p _ _ B S;cases e2;refine q _ (.ref ?_);show(ρ++(a::bs ++ [b,r]))[h.n+ps.length+2]? =some r;rw[show h.n+ps.length+2=h.n+(ps.length+1+1) by omega,gN,List.cons_append,List.getElem?_cons_succ,List.getElem?_append_right (by omega),bl,show ps.length+1 - ps.length=1 by omega];rfl
theorem Yp{k:Nat}{fa:Addr}{fd:FuncData}{ps:List Str}{x:Str}{e:Expr}{es:List Expr}{y:Ev.X}{ys:List Ev.X}{p pos:Pos}{tbl:Fi}(F:bB X.prog X.w X.K X.mg X.base CX0 k fa fd ps (Fj cl tbl))(hr:bD k X.A)(hg:Gl X x)(hm:X.mg x=some (.ref fa))(hk:PySem.W.keepIn X.K (.ref fa)=true)(hb:Binds X.K fd ps [])
 (ha:PA X (e::es) (tA Pg cl E d (y::ys))) (hdb:(x==("__debug__":Str))=false:=by decide) (he:starEach (e::es) X.env=(false,eval e X.env)::starEach es X.env:=by rfl) (hpl:(backTo pos (starEach es X.env)).any (·.1)=false:=by rfl):
 PE X (.Call (.Name x p) (e::es) [] pos) (tE Pg cl E d (.pr (.plan tbl) (y::ys))):=PE.of (vf F hr hg hm hk hb .nil ug ha hdb he hpl) fun σ H Q z=>by
 have o:OpN cl (.plan tbl) (fun vs H Q=>Fj cl tbl (vs ++ []) H Q E0):=fun E ρ h H ws vs Q s r p=>by
  show Fj cl tbl (vs ++ []) H Q E0;rw[List.append_nil];exact aaT E ρ h H ws vs Q s r p
 exact Ez o z
end Ev
namespace Ev
open PySem L2
section
variable{Pg:List Fn}{cl:Cn}{E:XK}{d:Nat}{X:Cx}{σ0:L2.St}
theorem fsc{N P:List Str}{sc:Scope}(h4:N.Nodup:=by decide +kernel)(h6:∀ x ∈ P,sc.names.lookup x=some .local\/sc.names.lookup x=some .cell:=by decide +kernel)(h7:∀ y ∈ sc.names,y.2 ≠ .free:=by decide +kernel)(h1:sc.kind= .function:=by rfl)(h2:sc.isCoroutine=false:=by rfl)(h3:sc.isGenerator=false:=by rfl)(h5:N.take P.length=P:=by rfl):aD N P sc:=⟨h1,h2,h3,h4,h5,h6,h7⟩
theorem dv(i:Nat){x:Str}{pos:Pos}(hN:X.N[i]? =some x:=by rfl)(hv:Vis X.env.scope x:=by first | exact Or.inl rfl | exact Or.inr (Or.inl rfl) | exact Or.inr (Or.inr rfl))(hd:(x==("__debug__":Str))=false:=by decide)
 (hcd:(x==("__classdict__":Str))=false:=by decide):PE X (.Name x pos) (tE Pg cl E d (.var i)):=aas hN hv hd hcd
theorem aP(i:Nat){x:Str}{pos:Pos}(hN:X.N.Nodup)(hi:X.N[i]? =some x:=by rfl)(hx:Loc X.env.scope x:=by first | exact Or.inl rfl | exact Or.inr rfl)(hf:X.fn x=true\/X.env.scope.names.lookup x=some .local:=by first | exact .inl rfl | exact .inr rfl | assumption):PG X (.Name x pos) (tG cl (.nm i)):=X8 hN hi hx hf
theorem cj(i:Nat){x:Str}{e:Expr}{y:Ev.X}{pos pos':Pos}(hN:X.N.Nodup)(he:PE X e (tE Pg cl E d y))(hi:X.N[i]? =some x:=by rfl)(hx:Loc X.env.scope x:=by first | exact Or.inl rfl | exact Or.inr rfl)(hs:swapsWith e (some (.Name x pos')) pos.line X.env=pure false:=by rfl)(hf:X.fn x=true\/X.env.scope.names.lookup x=some .local:=by first | exact .inl rfl | exact .inr rfl | assumption):
 PS X (.Assign [.Name x pos'] e pos) (tS Pg cl E d σ0 (.asg (.nm i) y)):=Te hN hi hx he hs hf
theorem gM{k k' f:Nat}{fa:Addr}{fd:FuncData}{ps:List Str}{x:Str}{st:Stmt}{e:Expr}{es:List Expr}{y:Ev.X}{ys:List Ev.X}{p pos:Pos}(F:bB X.prog X.w X.K X.mg X.base (CXE X.prog X.w) k fa fd ps (spF Pg cl d f))(D:Df X.K X.mg x st ps fa fd)(hr:bD k' X.A)
 (hx:Passes (CXE X.prog X.w) X E) (ha:PA X (e::es) (tA Pg cl E d (y::ys))) (hk:k<=k':=by omega) (hg:Gl X x:=by rfl) (hdb:(x==("__debug__":Str))=false:=by decide) (he:starEach (e::es) X.env=(false,eval e X.env)::starEach es X.env:=by rfl) (hpl:(backTo pos (starEach es X.env)).any (·.1)=false:=by rfl):
 PE X (.Call (.Name x p) (e::es) [] pos) (tE Pg cl E d (.call f (y::ys))):=vC F (hr.mono hk) hg D.mg D.fn.kp D.bd hx ha hdb he hpl
end
noncomputable def Qn(ps:List Str)(P:List Value->Prop):Prop:=match ps with
 | []=>P []
 | _::ps=>∀ v,Qn ps fun us=>P (v::us)
theorem TY:∀ {ps:List Str} {P:List Value->Prop},Qn ps P->∀ us:List Value,us.length=ps.length->P us
 | [],_,h,[],_=>h
 | [],_,_,_::_,e=>by simp at e
 | _::_,_,_,[],e=>by simp at e
 | _::_,_,h,v::us,e=>TY (h v) us (by simpa using e)
section
variable{K:ak}{x q m:Str}{st:Stmt}{f C:Addr}{fd:FuncData}{ps:List Str}{h:Heap}{mg:Str->Option Value}
theorem fbn(F:Fun K x q st f fd)(b:∀ kV doc pm an cdv ct,Qn ps fun us=>bindArgs (PySem.W.fnOf x q (iw st) (bA st) (aj st) .none kV doc pm an cdv ct) ⟨us,[]⟩ =pure (ps.zip us):=by(repeat intro _);exact rfl):Binds K fd ps []:=
 F.binds fun kV doc pm an cdv ct us hl=>TY (b kV doc pm an cdv ct) us hl
structure DK (K:ak)(x:Str)(st:Stmt)(f:Addr)(fd:FuncData):Prop where
 F:Fun K x x st f fd
 a:PySem.W.nsIn K mainGlobals x=some (some (.ref f))
theorem DK.df(D:DK K x st f fd)(X:K.In h)(G:h.Ns mainGlobals mg)(b:∀ kV doc pm an cdv ct,Qn ps fun us=>bindArgs (PySem.W.fnOf x x (iw st) (bA st) (aj st) .none kV doc pm an cdv ct) ⟨us,[]⟩ =pure (ps.zip us):=by(repeat intro _);exact rfl):Df K mg x st ps f fd:=⟨D.F,fbn D.F b,PySem.W.mg_of X G D.a⟩
theorem cP{oc:Value}{od an:Option Addr}{osl:Array (Option Value)}{kV doc pm cdv ct:Value}(a:PySem.W.nsIn K mainGlobals x=some (some (.ref f)))(l:K.lookup f=some ⟨oc,od,.func (PySem.W.fnOf x x (iw st) (bA st) (aj st) .none kV doc pm an cdv ct),osl⟩)
 (c:PySem.W.codeIn K cdv x=true) (k:PySem.W.keepIn K (.ref f)=true):∃ fd,DK K x st f fd:=⟨_,Cp l c k,a⟩
structure MK (K:ak)(C:Addr)(m q:Str)(st:Stmt)(f:Addr)(fd:FuncData):Prop where
 F:Fun K m q st f fd
 a:PySem.W.findIn K (.ref C) m=some (some (.ref f))
 n:PySem.W.isFn K (.ref f)=true
theorem MK.mt(D:MK K C m q st f fd):Meth K C m f:=⟨D.a,D.n,D.F.kp⟩
theorem pN{oc:Value}{od an:Option Addr}{osl:Array (Option Value)}{kV doc pm cdv ct:Value}(a:PySem.W.findIn K (.ref C) m=some (some (.ref f)))(l:K.lookup f=some ⟨oc,od,.func (PySem.W.fnOf m q (iw st) (bA st) (aj st) .none kV doc pm an cdv ct),osl⟩)
 (c:PySem.W.codeIn K cdv q=true) (k:PySem.W.keepIn K (.ref f)=true) (n:PySem.W.isFn K (.ref f)=true):∃ fd,MK K C m q st f fd:=⟨_,Cp l c k,a,n⟩
structure IK (K:ak)(C:Addr)(m q:Str)(st:Stmt)(f:Addr)(fd:FuncData):Prop where
 F:Fun K m q st f fd
 a:PySem.W.findIn K (.ref C) m=some (some (.ref f))
 n:PySem.W.typeIn K (.ref f)=some (.type "function")
theorem zT{oc:Value}{od an:Option Addr}{osl:Array (Option Value)}{kV doc pm cdv ct:Value}(a:PySem.W.findIn K (.ref C) m=some (some (.ref f)))(l:K.lookup f=some ⟨oc,od,.func (PySem.W.fnOf m q (iw st) (bA st) (aj st) .none kV doc pm an cdv ct),osl⟩)
 (c:PySem.W.codeIn K cdv q=true) (k:PySem.W.keepIn K (.ref f)=true) (n:PySem.W.typeIn K (.ref f)=some (.type "function")):∃ fd,IK K C m q st f fd:=⟨_,Cp l c k,a,n⟩
section
variable{n q':Str}{N S:Addr}{bs sub:List Value}{sn:List Str}{ab:Bool}{col:Option Bool}{dd:Option Addr}{k0 k1 k2 k3 k5:Option Value}
theorem ach(o:K.lookup C=some (excClassObj n q' C N bs bmV true sn sub ab col dd k0 k1 k2 k3 k5 "ValueError.__new__"))(a:PySem.W.findIn K (.ref C) "__setattr__" =some (some (.builtin "object.__setattr__")))(g:PySem.W.findIn K (.ref C) "__getattribute__" =some (some (.builtin "BaseException.__getattribute__")))(e:PySem.W.findIn K (.ref C) "__getattr__" =some none):jJ K C:=
 ⟨⟨n,q',N,bs,[],sn,sub,ab,col,dd,k0,k1,k2,k3,k5,o⟩,a,g,e⟩
structure XK1 (K:ak)(C S:Addr):Prop where
 X:jJ K C
 k:PySem.W.keepIn K (.ref C)=true
 w:cL K C "word"
 s:uF K C S
theorem CW{cd:ClassData}(o:K.lookup C=some (excClassObj n q' C N bs (.ref S::bmV) true sn sub ab col dd k0 k1 k2 k3 k5 "ValueError.__new__"))(a:PySem.W.findIn K (.ref C) "__setattr__" =some (some (.builtin "object.__setattr__")))(g:PySem.W.findIn K (.ref C) "__getattribute__" =some (some (.builtin "BaseException.__getattribute__")))(e:PySem.W.findIn K (.ref C) "__getattr__" =some none)
 (k:PySem.W.keepIn K (.ref C)=true) (w:PySem.W.findIn K (.ref C) "word" =some none) (i:PySem.W.clsIn K C=some cd) (j:cd.mro.contains (.ref S)=true):XK1 K C S:=
 ⟨⟨⟨n,q',N,bs,[S],sn,sub,ab,col,dd,k0,k1,k2,k3,k5,o⟩,a,g,e⟩,k,w,cd,i,j⟩
end
end
end Ev
namespace Ev
open PySem PyProof.Rows L2
noncomputable section
noncomputable def adv(i:Int)(xs:List Int):Nat:=List.rec 0 (fun x _ r=>ifB (ieq x i) (r+1) r) xs
noncomputable def aaU(h:Hs)(a b:W):R W:=h.at a fun _ o=>o.onL fun xs=>Opt (lX xs) fun ns=>b.onI fun i=>.ok (.int (.ofNat (adv i ns))) h
noncomputable def Pr.count:Pr:=⟨fun ws h=>h_ ws (aaU h)⟩
end
end Ev
namespace Ev
open PySem PySem.Spec PySem.SeqAt PyProof.Rows L2
section
variable{Pg:List Fn}{cl:Cn}{E:XK}{d:Nat}{X:Cx}{σ σ0:L2.St}{H H0:Hp}{ρ:List Addr}{h:Hs}
noncomputable def Far(r:Addr)(H0 H:Hp)(ρ:List Addr):Prop:=∀ a u,a ≠ r->(∀ ps,u ≠ .tbl ps)->H0 a=some u->a ∉ ρ/\H a=some u
structure CT (cl:Cn)(n i:Nat)(kv:List (Nat × W))(os:List O)(r:Addr)(row:List V)(σ0:L2.St)(H0:Hp)(σ:L2.St)(H:Hp):Prop where
 len:σ.length=n
 z:σ[0]? =σ0[0]?
 at_:σ[i]? =some (some (.ref r))
 row:H r=some (.lst row)
 sim:∃ ρ,Sim cl ρ (heapOf os) H/\RS ρ (frm n kv) σ/\r ∉ ρ/\Far r H0 H ρ
theorem CT.in{n i:Nat}{kv:List (Nat × W)}{os:List O}{r:Addr}{row:List Int}(c:CT cl n i kv os r (row.map V.int) σ0 H0 σ H):∃ ρ,Sim cl (ρ ++ [r]) (heapOf (os ++ [.lst (row.map W.int)])) H/\RS (ρ ++ [r]) (frm n ((i,.ref os.length)::kv)) σ/\(ρ ++ [r])[os.length]? =some r/\Far r H0 H (ρ ++ [r]):=by
 obtain⟨ρ,s,rs,nr,fa⟩:=c.sim;have s2:=s.adopt (o:=.lst (row.map W.int)) nr ⟨_,rw_ints _ row,c.row⟩;rw[<- Am]at s2;have hl:ρ.length=os.length:=by rw[s.len,(qD os).1]
 have g:(ρ ++ [r])[os.length]? =some r:=by rw[<- hl,List.getElem?_append_right (aA _),Nat.sub_self];rfl
 have z:=(rs.mono (List.prefix_append ρ [r])).set (w:=.ref os.length) (v:=.ref r) (.ref g) i;rw[VR c.at_]at z;refine⟨ρ,s2,z,g,fun a u na nu eu=>?_⟩;obtain⟨n1,q⟩:=fa a u na nu eu;exact⟨fun y=>(List.mem_append.mp y).elim n1 fun y=>na (by simpa using y),q⟩
end
section
variable{Pg:List Fn}{cl:Cn}{E:XK}{d:Nat}{X:Cx}{σ σ0:L2.St}{H H':Hp}{ρ ρ' ρ2:List Addr}{h h2:Hs}
noncomputable def KVs(ρ:List Addr)(kv:List (Nat × W))(σ:L2.St):Prop:=∀ j w,(j,w) ∈ kv->∃ v,σ[j]? =some (some v)/\RW ρ w v
structure C2 (cl:Cn)(n i:Nat)(kv:List (Nat × W))(os:List O)(kw:List (Nat × W))(ot:List O)(r:Addr)(row:List V)(σ:L2.St)(H:Hp):Prop where
 len:σ.length=n
 at_:σ[i]? =some (some (.ref r))
 row:H r=some (.lst row)
 sim:∃ ρ ρ2,Sim cl ρ (heapOf os) H/\KVs ρ kv σ/\r ∉ ρ/\Sim cl ρ2 (heapOf ot) H/\KVs ρ2 kw σ/\r ∉ ρ2/\∀ a ∈ ρ2,a ∉ ρ
end
section
variable{Pg:List Fn}{cl:Cn}{E:XK}{d:Nat}{X:Cx}{σ:L2.St}{H:Hp}{ρ:List Addr}
noncomputable abbrev adw(Pg:List Fn)(cl:Cn)(E:XK)(d:Nat)(cs:List (List Nat))(es:List Ev.X):List (TE × TE):=List.zipWith (fun c e=>(tE Pg cl E d (.cst (.str c)),tE Pg cl E d e)) cs es
end
end Ev
namespace Ev
open PySem L2
section
variable{Pg:List Fn}{cl:Cn}{E:XK}{d:Nat}{X:Cx}
structure QPs (X:Cx)(pos:Pos)(keys:List (Option Expr))(values:List Expr)(Pg:List Fn)(cl:Cn)(E:XK)(d:Nat)(cs:List (List Nat))(es:List Ev.X):Prop where
 h:PPs X pos keys values (adw Pg cl E d cs es)
end
end Ev
namespace L2
open PySem PySem.Spec PySem.SeqAt PyProof.Rows
noncomputable def KH(X:Cx)(N':List Str)(sc:Scope)(y:Str)(C:Addr)(s₀:Shared)(H₀:Hp)(fp:List Addr):Cx:=
 { X with N:=N',s₀:=s₀,H₀:=H₀,env:=compEnvC sc ((y,C+1)::i_ X.env.cells sc.names []) C X.env,outer:=X.stack,ex:=fp,fn:=fun x=>x==y,pn:=[],xe:=fun _ _=>False }
structure adY (X:Cx)(N':List Str)(sc:Scope)(nt:Nat)(idx:List Nat)(y:Str):Prop where
 kind:sc.kind= .function
 cf:∀ n acc,cellsFrom n sc.names acc=(y,n)::acc
 pc:∀ h,pushCells h sc.names=h.push { cls:=.type "cell",data:=.cell none }
 nc:∀ z ∈ sc.names,z.2= .cell->z.1=y
 nf:∀ z ∈ sc.names,z.2= .free->z.1 ≠ y
 loc:∀ y ∈ sc.names,y.2= .local->sc.names.lookup y.1=some .local
 fr:∀ y ∈ sc.names,y.2= .free->X.env.kindOf y.1=some .cell\/X.env.kindOf y.1=some .free
 len:nt+idx.length=N'.length
 ix:∀ p ∈ idx.zip (N'.drop nt),X.N[p.1]? =some p.2/\sc.names.lookup p.2=some .free
section
variable{X:Cx}{N':List Str}{sc:Scope}{yc:Str}{nt:Nat}{idx:List Nat}{elt tg iter:Expr}{ifs:List Expr}{gs:List Comprehension}{pos:Pos}{wi:TI}{g:TG}{tif:TT}{tin:Addr->TN}
structure adV (X:Cx)(N':List Str)(sc:Scope)(yc:Str)(elt tg iter:Expr)(ifs:List Expr)(gs:List Comprehension)(pos:Pos)(g:TG)(tif:TT)(tin:Addr->TN):Prop where
 ok:∀(C:Addr) (s₀:Shared) (H₀:Hp) (fp:List Addr) (D it:Addr),∃ inner:Sem Unit,
  compTurn (.ListComp elt (⟨tg,iter,ifs,0⟩::gs) sc pos) 0 (.ref it) (.ref D) (KH X N' sc yc C s₀ H₀ fp).env=mH (.ListComp elt (⟨tg,iter,ifs,0⟩::gs) sc pos) 0 (.ref it) (.ref D) (KH X N' sc yc C s₀ H₀ fp).env tg ifs iter.pos inner/\
  PG (KH X N' sc yc C s₀ H₀ fp) tg g/\PTs (KH X N' sc yc C s₀ H₀ fp) ifs tif/\PN (KH X N' sc yc C s₀ H₀ fp) inner (tin D)
end
end L2
namespace Ev
noncomputable section
noncomputable def okQ{α:Type}(r:R α)(Q:α->Hs->Prop):Prop:=R.rec Q (fun _ _ _=>False) False r
noncomputable def aW(Q:W->Hs->Prop)(a:A)(h:Hs):Prop:=A.rec (fun w=>Q w h) (fun _=>False) (fun _=>False) (fun _=>False) False a
noncomputable def aL(Q:List W->Hs->Prop)(a:A)(h:Hs):Prop:=A.rec (fun _=>False) (fun w=>Q w h) (fun _=>False) (fun _=>False) False a
noncomputable def aV(Q:Iv->Hs->Prop)(a:A)(h:Hs):Prop:=A.rec (fun _=>False) (fun _=>False) (fun w=>Q w h) (fun _=>False) False a
noncomputable def aF(Q:Fl->Hs->Prop)(a:A)(h:Hs):Prop:=A.rec (fun _=>False) (fun _=>False) (fun _=>False) (fun w=>Q w h) False a
noncomputable def wX(e:X)(K:Ks)(n:Nat)(τ:Sg)(h:Hs)(Q:W->Hs->Prop):Prop:=okQ (e.f K n τ h) (aW Q)
noncomputable def wA(es:List X)(K:Ks)(n:Nat)(τ:Sg)(h:Hs)(Q:List W->Hs->Prop):Prop:=okQ (goA es K n τ h) (aL Q)
noncomputable def wI(e:I)(K:Ks)(n:Nat)(τ:Sg)(h:Hs)(Q:Iv->Hs->Prop):Prop:=okQ (e.f K n τ h) (aV Q)
noncomputable def w1(s:S)(K:Ks)(n:Nat)(τ:Sg)(h:Hs)(Q:Fl->Hs->Prop):Prop:=okQ (s.f K n τ h) (aF Q)
noncomputable def wS(s:List S)(K:Ks)(n:Nat)(τ:Sg)(h:Hs)(Q:Fl->Hs->Prop):Prop:=okQ (fH s K n τ h) (aF Q)
noncomputable def wP(p:Pr)(ws:List W)(h:Hs)(Q:W->Hs->Prop):Prop:=okQ (p.f ws h) Q
noncomputable def wC(f:Nat)(ws:List W)(K:Ks)(n:Nat)(h:Hs)(Q:W->Hs->Prop):Prop:=okQ (bJ f ws K n h) (aW Q)
noncomputable def QM(ss:List S)(K:Ks)(n:Nat)(h:Hs)(Q:Fl->Hs->Prop)(f:Fl):Prop:=Fl.rec (fun τ=>wS ss K n τ h Q) (fun w=>Q (.rt w) h) (fun τ=>Q (.bk τ) h) (fun τ=>Q (.ct τ) h) f
noncomputable def V5(Q:W->Hs->Prop)(f:Fl)(h:Hs):Prop:=Fl.rec (fun _=>Q .non h) (fun w=>Q w h) (fun _=>False) (fun _=>False) f
noncomputable def bW(w:W)(t f:Prop):Prop:=W.rec False (fun b=>Bool.rec f t b) (fun _=>False) (fun _=>False) (fun _=>False) w
end
section
variable{K:Ks}{n:Nat}{τ:Sg}{h:Hs}
theorem sZ{α:Type}{r:R α}{Q Q':α->Hs->Prop}(x:okQ r Q)(f:∀ a h,Q a h->Q' a h):okQ r Q':=by
 cases r with
 | ok a h=>exact f a h x
 | _=>exact x
theorem Yq{Q Q':W->Hs->Prop}(f:∀ w h,Q w h->Q' w h):∀ a h,aW Q a h->aW Q' a h:=fun a h x=>by
 cases a with
 | w w=>exact f w h x
 | _=>exact x
theorem vG{e:X}{Q Q':W->Hs->Prop}(x:wX e K n τ h Q)(f:∀ w h,Q w h->Q' w h):wX e K n τ h Q':=sZ x (Yq f)
theorem j0{e:X}{Q:W->Hs->Prop}(x:wX e K n τ h Q):∃ w h',e.f K n τ h= .ok (.w w) h'/\Q w h':=by
 unfold wX at x;generalize e.f K n τ h=r at x
 cases r with
 | ok a h'=>cases a with
   | w w=>exact⟨w,h',rfl,x⟩
   | _=>exact x.elim
 | _=>exact x.elim
theorem aci{f:Nat}{ws:List W}{Q:W->Hs->Prop}(x:wC f ws K n h Q):∃ w h',bJ f ws K n h= .ok (.w w) h'/\Q w h':=by
 unfold wC at x;generalize bJ f ws K n h=r at x
 cases r with
 | ok a h'=>cases a with
   | w w=>exact⟨w,h',rfl,x⟩
   | _=>exact x.elim
 | _=>exact x.elim
theorem acj{s:List S}{Q:Fl->Hs->Prop}(x:wS s K n τ h Q):∃ w h',fH s K n τ h= .ok (.fl w) h'/\Q w h':=by
 unfold wS at x;generalize fH s K n τ h=r at x
 cases r with
 | ok a h'=>cases a with
   | fl w=>exact⟨w,h',rfl,x⟩
   | _=>exact x.elim
 | _=>exact x.elim
theorem aaV{i:Nat}{w:W}{Q:W->Hs->Prop}(e:cN τ i=some w):wX (.var i) K n τ h Q ↔ Q w h:=by
 show okQ (Option.rec (motive:=fun _=>R A) .no (fun w=>.ok (.w w) h) (cN τ i)) _ ↔ _;rw[e];exact Iff.rfl
theorem yz{w:W}{Q:W->Hs->Prop}:wX (.cst w) K n τ h Q ↔ Q w h:=Iff.rfl
theorem b_{Q:List W->Hs->Prop}:wA [] K n τ h Q ↔ Q [] h:=Iff.rfl
theorem aH{e:X}{es:List X}{Q:List W->Hs->Prop}:wA (e::es) K n τ h Q ↔ wX e K n τ h fun w h=>wA es K n τ h fun ws h=>Q (w::ws) h:=by
 show okQ (R.rec (motive:=fun _=>R A) (fun r h=>A.rec (motive:=fun _=>R A) (fun w=>R.rec (motive:=fun _=>R A) (fun r h=>A.rec (motive:=fun _=>R A) (fun _=>.no) (fun ws=>.ok (.ws (w::ws)) h) (fun _=>.no) (fun _=>.no) .no r) (fun C fs h=>.ex C fs h) .no (goA es K n τ h)) (fun _=>.no) (fun _=>.no) (fun _=>.no) .no r) (fun C fs h=>.ex C fs h) .no (e.f K n τ h)) _ ↔ okQ (e.f K n τ h) _;generalize e.f K n τ h=r
 cases r with
 | ok a h1=>cases a with
   | w w=>
     show okQ (R.rec (motive:=fun _=>R A) (fun r h=>A.rec (motive:=fun _=>R A) (fun _=>.no) (fun ws=>.ok (.ws (w::ws)) h) (fun _=>.no) (fun _=>.no) .no r) (fun C fs h=>.ex C fs h) .no (goA es K n τ h1)) _ ↔ okQ (goA es K n τ h1) _;generalize goA es K n τ h1=r
     cases r with
     | ok a h2=>cases a <;> exact Iff.rfl
     | _=>exact Iff.rfl
   | _=>exact Iff.rfl
 | _=>exact Iff.rfl
theorem dm{p:Pr}{es:List X}{Q:W->Hs->Prop}:wX (.pr p es) K n τ h Q ↔ wA es K n τ h fun ws h=>wP p ws h Q:=by
 show okQ (R.rec (motive:=fun _=>R A) (fun r h=>A.rec (motive:=fun _=>R A) (fun _=>.no) (fun ws=>R.rec (motive:=fun _=>R A) (fun w h=>.ok (.w w) h) (fun C f h=>.ex C f h) .no (p.f ws h)) (fun _=>.no) (fun _=>.no) .no r) (fun C fs h=>.ex C fs h) .no (goA es K n τ h)) _ ↔ okQ (goA es K n τ h) _;generalize goA es K n τ h=r
 cases r with
 | ok a h1=>cases a with
   | ws ws=>
     show okQ (R.rec (motive:=fun _=>R A) (fun w h=>.ok (.w w) h) (fun C f h=>.ex C f h) .no (p.f ws h1)) _ ↔ okQ (p.f ws h1) Q;generalize p.f ws h1=r
     cases r <;> exact Iff.rfl
   | _=>exact Iff.rfl
 | _=>exact Iff.rfl
theorem vH{f:Nat}{es:List X}{Q:W->Hs->Prop}:wX (.call f es) K n τ h Q ↔ wA es K n τ h fun ws h=>wC f ws K n h Q:=by
 show okQ ((goA es K n τ h).bind fun a h=>a.toL fun ws=>bJ f ws K n h) _ ↔ okQ (goA es K n τ h) _;generalize goA es K n τ h=r
 cases r with
 | ok a h1=>cases a <;> exact Iff.rfl
 | _=>exact Iff.rfl
theorem KJ{c a b:X}{Q:W->Hs->Prop}:wX (.ite c a b) K n τ h Q ↔ wX c K n τ h fun w h=>bW w (wX a K n τ h Q) (wX b K n τ h Q):=by
 show okQ ((c.f K n τ h).bind fun r h=>r.toW fun w=>w.onB (b.f K n τ h) (a.f K n τ h)) _ ↔ okQ (c.f K n τ h) _;generalize c.f K n τ h=r
 cases r with
 | ok x h1=>cases x with
   | w w=>cases w with
     | bl k=>cases k <;> exact Iff.rfl
     | _=>exact Iff.rfl
   | _=>exact Iff.rfl
 | _=>exact Iff.rfl
theorem T3{a b:X}{Q:W->Hs->Prop}:wX (.and a b) K n τ h Q ↔ wX a K n τ h fun w h=>bW w (wX b K n τ h Q) (Q (.bl false) h):=by
 show okQ ((a.f K n τ h).bind fun r h=>r.toW fun w=>w.onB (.ok (.w (.bl false)) h) (b.f K n τ h)) _ ↔ okQ (a.f K n τ h) _;generalize a.f K n τ h=r
 cases r with
 | ok x h1=>cases x with
   | w w=>cases w with
     | bl k=>cases k <;> exact Iff.rfl
     | _=>exact Iff.rfl
   | _=>exact Iff.rfl
 | _=>exact Iff.rfl
theorem CZ{a b:X}{Q:W->Hs->Prop}:wX (.or a b) K n τ h Q ↔ wX a K n τ h fun w h=>bW w (Q (.bl true) h) (wX b K n τ h Q):=by
 show okQ ((a.f K n τ h).bind fun r h=>r.toW fun w=>w.onB (b.f K n τ h) (.ok (.w (.bl true)) h)) _ ↔ okQ (a.f K n τ h) _;generalize a.f K n τ h=r
 cases r with
 | ok x h1=>cases x with
   | w w=>cases w with
     | bl k=>cases k <;> exact Iff.rfl
     | _=>exact Iff.rfl
   | _=>exact Iff.rfl
 | _=>exact Iff.rfl
theorem pO{Q:Fl->Hs->Prop}:wS [] K n τ h Q ↔ Q (.nx τ) h:=Iff.rfl
theorem aM{s:S}{ss:List S}{Q:Fl->Hs->Prop}:wS (s::ss) K n τ h Q ↔ w1 s K n τ h fun f h=>QM ss K n h Q f:=by
 show okQ ((s.f K n τ h).bind fun r h=>r.toF fun f=>Fl.rec (motive:=fun _=>R A) (fun τ=>fH ss K n τ h) (fun w=>.ok (.fl (.rt w)) h) (fun τ=>.ok (.fl (.bk τ)) h) (fun τ=>.ok (.fl (.ct τ)) h) f) _ ↔ okQ (s.f K n τ h) _;generalize s.f K n τ h=r
 cases r with
 | ok x h1=>cases x with
   | fl f=>cases f <;> exact Iff.rfl
   | _=>exact Iff.rfl
 | _=>exact Iff.rfl
theorem jN{i:Nat}{e:X}{Q:Fl->Hs->Prop}:w1 (.asg (.nm i) e) K n τ h Q ↔ wX e K n τ h fun w h=>Q (.nx (setAt τ (some w) i)) h:=by
 show okQ ((e.f K n τ h).bind fun r h=>r.toW fun w=>R.ok (A.fl (.nx (setAt τ (some w) i))) h) (aF Q) ↔ okQ (e.f K n τ h) _;generalize e.f K n τ h=r
 cases r with
 | ok x h1=>cases x <;> exact Iff.rfl
 | _=>exact Iff.rfl
theorem kI{e:X}{Q:Fl->Hs->Prop}:w1 (.ret e) K n τ h Q ↔ wX e K n τ h fun w h=>Q (.rt w) h:=by
 show okQ ((e.f K n τ h).bind fun r h=>r.toW fun w=>R.ok (A.fl (.rt w)) h) (aF Q) ↔ okQ (e.f K n τ h) _;generalize e.f K n τ h=r
 cases r with
 | ok x h1=>cases x <;> exact Iff.rfl
 | _=>exact Iff.rfl
theorem qu{e:X}{Q:Fl->Hs->Prop}:w1 (.expr e) K n τ h Q ↔ wX e K n τ h fun w h=>Q (.nx τ) h:=by
 show okQ ((e.f K n τ h).bind fun r h=>r.toW fun w=>R.ok (A.fl (.nx τ)) h) (aF Q) ↔ okQ (e.f K n τ h) _;generalize e.f K n τ h=r
 cases r with
 | ok x h1=>cases x <;> exact Iff.rfl
 | _=>exact Iff.rfl
theorem pP{c:X}{a b:List S}{Q:Fl->Hs->Prop}:w1 (.ife c a b) K n τ h Q ↔ wX c K n τ h fun w h=>bW w (wS a K n τ h Q) (wS b K n τ h Q):=by
 show okQ ((c.f K n τ h).bind fun r h=>r.toW fun w=>w.onB (fH b K n τ h) (fH a K n τ h)) _ ↔ okQ (c.f K n τ h) _;generalize c.f K n τ h=r
 cases r with
 | ok x h1=>cases x with
   | w w=>cases w with
     | bl k=>cases k <;> exact Iff.rfl
     | _=>exact Iff.rfl
   | _=>exact Iff.rfl
 | _=>exact Iff.rfl
theorem fD{Pg:List Fn}{d f np k:Nat}{b:List S}{ws:List W}{Q:W->Hs->Prop}(e:nth Pg f=some (.mk np k b))(l:Nat.beq (len ws) np=true):wC f ws (a_ Pg (d+1)) (n+1) h Q ↔ wS b (a_ Pg d) n (frame k ws) h (V5 Q):=by
 show okQ (Opt (nth Pg f) (Qt (a_ Pg d) n h ws)) _ ↔ _;rw[e];show okQ (ifB (Nat.beq (len ws) np) ((fH b (a_ Pg d) n (frame k ws) h).bind fun r h=>r.toF fun f=>zJ h f) .no) _ ↔ okQ (fH b (a_ Pg d) n (frame k ws) h) _;rw[l];generalize fH b (a_ Pg d) n (frame k ws) h=r
 cases r with
 | ok x h1=>cases x with
   | fl f=>cases f <;> exact Iff.rfl
   | _=>exact Iff.rfl
 | _=>exact Iff.rfl
end
noncomputable def Ext(h h':Hs):Prop:=h.n<=h'.n/\∀ k,k<h.n->h'.get k=h.get k
theorem Ext.refl{h:Hs}:Ext h h:=⟨aA _,fun _ _=>rfl⟩
theorem Ext.trans{a b c:Hs}(x:Ext a b)(y:Ext b c):Ext a c:=⟨Nat.le_trans x.1 y.1,fun k l=>(y.2 k (bH l x.1)).trans (x.2 k l)⟩
theorem Ext.push{h:Hs}{o:O}:Ext h (h.push o):=⟨by rw[Hs.pJ];omega,fun k l=>by rw[Hs.mK,if_neg (by omega)]⟩
theorem Ext.set{h h':Hs}{k:Nat}{o:O}(x:Ext h h')(l:h.n<=k):Ext h (h'.set k o):=⟨by rw[Hs.pK];exact x.1,fun j g=>by rw[Hs.get_set,if_neg (by omega)];exact x.2 j g⟩
theorem Ext.get{h h':Hs}{k:Nat}{o:O}(x:Ext h h')(l:k<h.n)(e:h.get k=some o):h'.get k=some o:=(x.2 k l).trans e
theorem aZ{h:Hs}{o:O}:(h.push o).get h.n=some o:=by rw[Hs.mK,if_pos rfl]
theorem cu{h:Hs}{o:O}:h.n<(h.push o).n:=by rw[Hs.pJ];omega
mutual
noncomputable def Rd(h:Hs)(A:Nat->Prop):D->W->Prop
 | .non,w=>w= .non
 | .bl b,w=>w= .bl b
 | .int i,w=>w= .int i
 | .str c,w=>w= .str c
 | .lst ds,w=>∃ p ws,w= .ref p/\p<h.n/\A p/\h.get p=some (.lst ws)/\Rds h A ds ws
 | .tup ds,w=>∃ p ws,w= .ref p/\p<h.n/\A p/\h.get p=some (.tup ws)/\Rds h A ds ws
noncomputable def Rds(h:Hs)(A:Nat->Prop):List D->List W->Prop
 | [],ws=>ws= []
 | d::ds,ws=>∃ w r,ws=w::r/\Rd h A d w/\Rds h A ds r
end
mutual
theorem Rd.to{h h':Hs}{A A':Nat->Prop}(n:h.n<=h'.n)(x:∀ k,k<h.n->A k->h'.get k=h.get k/\A' k):∀(d:D) (w:W),Rd h A d w->Rd h' A' d w
 | .non,_,z | .bl _,_,z | .int _,_,z | .str _,_,z=>by simpa [Rd] using z
 | .lst ds,w,z=>by
   simp only[Rd]at z ⊢;obtain⟨p,ws,e,l,a,g,r⟩:=z
   exact⟨p,ws,e,bH l n,(x p l a).2,(x p l a).1.trans g,Rds.to n x ds ws r⟩
 | .tup ds,w,z=>by
   simp only[Rd]at z ⊢;obtain⟨p,ws,e,l,a,g,r⟩:=z;exact⟨p,ws,e,bH l n,(x p l a).2,(x p l a).1.trans g,Rds.to n x ds ws r⟩
theorem Rds.to{h h':Hs}{A A':Nat->Prop}(n:h.n<=h'.n)(x:∀ k,k<h.n->A k->h'.get k=h.get k/\A' k):∀(ds:List D) (ws:List W),Rds h A ds ws->Rds h' A' ds ws
 | [],_,z=>by simpa [Rds] using z
 | d::ds,ws,z=>by
   simp only[Rds]at z ⊢;obtain⟨w,r,e,a,b⟩:=z;exact⟨w,r,e,Rd.to n x d w a,Rds.to n x ds r b⟩
end
theorem Rds.ext{h h':Hs}{A:Nat->Prop}{d:List D}{w:List W}(z:Rds h A d w)(x:Ext h h'):Rds h' A d w:=Rds.to x.1 (fun k l a=>⟨x.2 k l,a⟩) d w z
theorem Rd.imp{h:Hs}{A A':Nat->Prop}{d:D}{w:W}(z:Rd h A d w)(x:∀ k,k<h.n->A k->A' k):Rd h A' d w:=Rd.to (aA _) (fun k l a=>⟨rfl,x k l a⟩) d w z
theorem Rds.imp{h:Hs}{A A':Nat->Prop}{d:List D}{w:List W}(z:Rds h A d w)(x:∀ k,k<h.n->A k->A' k):Rds h A' d w:=Rds.to (aA _) (fun k l a=>⟨rfl,x k l a⟩) d w z
theorem Rds.length{h:Hs}{A:Nat->Prop}:∀ {ds:List D} {ws:List W},Rds h A ds ws->ws.length=ds.length
 | [],_,z=>by simp only[Rds]at z;subst z;rfl
 | d::ds,ws,z=>by
   simp only[Rds]at z;obtain⟨w,r,rfl,a,b⟩:=z;simp[Rds.length b]
theorem Rds.get{h:Hs}{A:Nat->Prop}:∀ {ds:List D} {ws:List W} {i:Nat} {d:D},Rds h A ds ws->ds[i]? =some d->∃ w,ws[i]? =some w/\Rd h A d w
 | [],_,i,d,z,e=>by simp at e
 | d::ds,ws,i,d',z,e=>by
   simp only[Rds]at z;obtain⟨w,r,rfl,a,b⟩:=z
   cases i with
   | zero=>simp at e;subst e;exact⟨w,rfl,a⟩
   | succ i=>simpa using Rds.get b (by simpa using e)
theorem Rds.snoc{h:Hs}{A:Nat->Prop}:∀ {ds:List D} {ws:List W} {d:D} {w:W},Rds h A ds ws->Rd h A d w->Rds h A (ds ++ [d]) (ws ++ [w])
 | [],_,d,w,z,e=>by simp only[Rds]at z;subst z;simp only[List.nil_append,Rds];exact⟨w,[],rfl,e,rfl⟩
 | d::ds,ws,d',w',z,e=>by
   simp only[Rds]at z;obtain⟨w,r,rfl,a,b⟩:=z;simp only[List.cons_append,Rds];exact⟨w,r ++ [w'],rfl,a,b.snoc e⟩
theorem Rds.append{h:Hs}{A:Nat->Prop}:∀ {ds:List D} {ws:List W} {ds':List D} {ws':List W},Rds h A ds ws->Rds h A ds' ws'->Rds h A (ds++ds') (ws++ws')
 | [],_,ds',ws',z,e=>by simp only[Rds]at z;subst z;exact e
 | d::ds,ws,ds',ws',z,e=>by
   simp only[Rds]at z;obtain⟨w,r,rfl,a,b⟩:=z;simp only[List.cons_append,Rds];exact⟨w,r++ws',rfl,a,b.append e⟩
theorem Rds.ints{h:Hs}{A:Nat->Prop}:∀ {ns:List Int} {ws:List W},Rds h A (ns.map D.int) ws ↔ ws=ns.map W.int
 | [],ws=>by simp only[List.map_nil,Rds]
 | n::ns,ws=>by
   simp only[List.map_cons,Rds,Rd]
   constructor
   · rintro⟨w,r,rfl,rfl,b⟩;rw[Rds.ints.mp b]
   · rintro rfl;exact⟨_,_,rfl,rfl,Rds.ints.mpr rfl⟩
mutual
noncomputable def j6:D->Nat
 | .lst ds | .tup ds=>uq ds+1
 | _=>1
noncomputable def uq:List D->Nat
 | []=>0
 | d::ds=>max (j6 d) (uq ds)
end
noncomputable section
mutual
noncomputable def okD:D->Bool
 | .str c=>okC c
 | .lst ds | .tup ds=>yC ds
 | _=>true
noncomputable def yC:List D->Bool
 | []=>true
 | d::ds=>okD d&&yC ds
end
end
mutual
theorem T4{h:Hs}{A:Nat->Prop}:∀(d:D) (w:W) (k:Nat),Rd h A d w->j6 d<=k->okD d=true->toD h k w=some d
 | .non,w,0,z,l,_ | .bl _,w,0,z,l,_ | .int _,w,0,z,l,_ | .str _,w,0,z,l,_=>by simp[j6]at l
 | .lst _,w,0,z,l,_ | .tup _,w,0,z,l,_=>by simp[j6]at l
 | .non,w,k+1,z,_,_=>by simp only[Rd]at z;subst z;rfl
 | .bl _,w,k+1,z,_,_=>by simp only[Rd]at z;subst z;rfl
 | .int _,w,k+1,z,_,_=>by simp only[Rd]at z;subst z;rfl
 | .str c,w,k+1,z,_,o=>by
   simp only[Rd]at z;subst z;have o:okC c=true:=by simpa [okD] using o
   show ifB (okC c) (some (D.str c)) none=_
   rw[o];rfl
 | .lst ds,w,k+1,z,l,o=>by
   simp only[Rd]at z;obtain⟨p,ws,rfl,_,_,g,r⟩:=z;have e:=Fo ds ws k r (by simpa [j6] using l) (by simpa [okD] using o);show Option.rec (motive:=fun _=>Option D) none (fun o=>O.rec (motive:=fun _=>Option D) (fun xs=>Option.rec (motive:=fun _=>Option D) none (fun ds=>some (D.tup ds)) (lM (toD h k) xs)) (fun xs=>Option.rec (motive:=fun _=>Option D) none (fun ds=>some (D.lst ds)) (lM (toD h k) xs)) (fun _ _=>none) (fun _=>none) (fun _=>none) (fun _=>none) o) (h.get p)=_;rw[g];show Option.rec (motive:=fun _=>Option D) none (fun ds=>some (D.lst ds)) (lM (toD h k) ws)=_
   rw[e]
 | .tup ds,w,k+1,z,l,o=>by
   simp only[Rd]at z;obtain⟨p,ws,rfl,_,_,g,r⟩:=z;have e:=Fo ds ws k r (by simpa [j6] using l) (by simpa [okD] using o);show Option.rec (motive:=fun _=>Option D) none (fun o=>O.rec (motive:=fun _=>Option D) (fun xs=>Option.rec (motive:=fun _=>Option D) none (fun ds=>some (D.tup ds)) (lM (toD h k) xs)) (fun xs=>Option.rec (motive:=fun _=>Option D) none (fun ds=>some (D.lst ds)) (lM (toD h k) xs)) (fun _ _=>none) (fun _=>none) (fun _=>none) (fun _=>none) o) (h.get p)=_;rw[g];show Option.rec (motive:=fun _=>Option D) none (fun ds=>some (D.tup ds)) (lM (toD h k) ws)=_;rw[e]
theorem Fo{h:Hs}{A:Nat->Prop}:∀(ds:List D) (ws:List W) (k:Nat),Rds h A ds ws->uq ds<=k->yC ds=true->lM (toD h k) ws=some ds
 | [],ws,k,z,_,_=>by simp only[Rds]at z;subst z;rfl
 | d::ds,ws,k,z,l,o=>by
   simp only[Rds]at z;obtain⟨w,r,rfl,a,b⟩:=z;simp only[uq,yC,Bool.and_eq_true]at l o;have e1:=T4 d w k a (by omega) o.1;have e2:=Fo ds r k b (by omega) o.2;show Option.rec (motive:=fun _=>Option (List D)) none (fun d=>Option.rec (motive:=fun _=>Option (List D)) none (fun ds=>some (d::ds)) (lM (toD h k) r)) (toD h k w)=_;rw[e1];show Option.rec (motive:=fun _=>Option (List D)) none (fun ds=>some (d::ds)) (lM (toD h k) r)=_;rw[e2]
end
mutual
theorem Hf:∀ d:D,cR d d=true
 | .non=>by simp[cR]
 | .bl b=>by simp[cR]
 | .int i=>by simp[cR,jn]
 | .str c=>by simp[cR,cG.mpr]
 | .lst ds=>by simp[cR,yD ds]
 | .tup ds=>by simp[cR,yD ds]
theorem yD:∀ ds:List D,sH ds ds=true
 | []=>by simp[sH]
 | d::ds=>by simp[sH,Hf d,yD ds]
end
mutual
theorem QT:∀ d:D,jC d d=true
 | .non=>by simp[jC]
 | .bl b=>by simp[jC]
 | .int i=>by simp[jC,jn]
 | .str c=>by simp[jC,cG.mpr]
 | .lst ds=>by simp[jC,uG ds]
 | .tup ds=>by simp[jC,uG ds]
theorem uG:∀ ds:List D,ou ds ds=true
 | []=>by simp[ou]
 | d::ds=>by simp[ou,QT d,uG ds]
end
section
variable{K:Ks}{n:Nat}{τ:Sg}{h:Hs}
noncomputable def Its(v:Iv)(ws:List W)(h:Hs):Prop:=(∃ p,v= .lst p/\h.get p=some (.lst ws))\/(∃ p,v= .tup p/\h.get p=some (.tup ws))\/(∃ lo:Int,v= .rng lo ws.length/\∀ i,i<ws.length->ws[i]? =some (.int (lo+Int.ofNat i)))
theorem Its.next{v:Iv}{ws:List W}{β:Type}{i:Nat}{fin:R β}{go:W->Hs->R β}(x:Its v ws h):v.next i h fin go=Option.rec fin (fun w=>go w h) (ws[i]?):=by
 rcases x with ⟨p,rfl,g⟩ | ⟨p,rfl,g⟩ | ⟨lo,rfl,g⟩
 · show Opt (h.get p) (fun o=>o.onS fun xs=>Option.rec fin (fun w=>go w h) (nth xs i))=_;rw[g,<- oA];rfl
 · show Opt (h.get p) (fun o=>o.onT fun xs=>Option.rec fin (fun w=>go w h) (nth xs i))=_;rw[g,<- oA];rfl
 · show Bool.rec (motive:=fun _=>R β) fin (go (.int (lo + .ofNat i)) h) (Nat.ble (i+1) ws.length)=_
   by_cases l:i<ws.length
   · rw[g i l,ble_eq,decide_eq_true (show i+1<=ws.length from l)]
   · rw[List.getElem?_eq_none (by omega),ble_eq,decide_eq_false (show ¬ i+1<=ws.length from by omega)]
noncomputable def lpQ(I:Sg->Hs->Prop)(Q:Fl->Hs->Prop)(f:Fl)(h:Hs):Prop:=Fl.rec (fun τ=>I τ h) (fun w=>Q (.rt w) h) (fun τ=>Q (.nx τ) h) (fun τ=>I τ h) f
theorem QV{v:Iv}{t:Tg}{b:List S}{ws:List W}{Q:Fl->Hs->Prop}(I:Nat->Sg->Hs->Prop)(its:∀ i τ h,I i τ h->Its v ws h)
 (turn:∀ i w τ h m,ws[i]? =some w->n<=m+ws.length->I i τ h->∃ τ1,bx h 9 t w τ=some τ1/\wS b K m τ1 h (lpQ (I (i+1)) Q)) (fin:∀ τ h,I ws.length τ h->Q (.nx τ) h):
 ∀(k i m:Nat) (τ:Sg) (h:Hs),i+k=ws.length->k<m->n+i<=m+ws.length+i->n<=m+i->I i τ h->okQ (yt v t b K m i τ h) (aF Q)
 | k,i,0,τ,h,e,l,_,_,x=>absurd l (by omega)
 | k,i,m+1,τ,h,e,l,l1,l2,x=>by
   have u:yt v t b K (m+1) i τ h=v.next i h (.ok (.fl (.nx τ)) h) fun w h=>Opt (bx h 9 t w τ) fun τ=>(fH b K m τ h).bind fun r h=>r.toF fun f=>v_ h f fun τ=>yt v t b K m (i+1) τ h:=rfl;rw[u,(its i τ h x).next]
   cases k with
   | zero=>
     rw[List.getElem?_eq_none (by omega)];rw[Nat.add_zero]at e;subst e
     exact fin τ h x
   | succ k=>
     have li:i<ws.length:=by omega
     rw[List.getElem?_eq_getElem li];obtain⟨τ1,e1,y⟩:=turn i ws[i] τ h m (List.getElem?_eq_getElem li) (by omega) x;show okQ (Opt (bx h 9 t ws[i] τ) fun τ=>(fH b K m τ h).bind fun r h=>r.toF fun f=>v_ h f fun τ=>yt v t b K m (i+1) τ h) (aF Q);rw[e1];show okQ ((fH b K m τ1 h).bind fun r h=>r.toF fun f=>v_ h f fun τ=>yt v t b K m (i+1) τ h) (aF Q);obtain⟨f,h',z,q⟩:=acj y;rw[z]
     cases f with
     | nx τ2=>exact QV I its turn fin k (i+1) m τ2 h' (by omega) (by omega) (by omega) (by omega) q
     | ct τ2=>exact QV I its turn fin k (i+1) m τ2 h' (by omega) (by omega) (by omega) (by omega) q
     | rt w=>exact q
     | bk τ2=>exact q
theorem yE{i:I}{t:Tg}{b:List S}{Q:Fl->Hs->Prop}(x:wI i K n τ h fun v h1=>∃(ws:List W) (J:Nat->Sg->Hs->Prop),(∀ i τ h,J i τ h->Its v ws h)/\ws.length<n/\J 0 τ h1/\
 (∀ i w τ h m,ws[i]? =some w->n<=m+ws.length->J i τ h->∃ τ1,bx h 9 t w τ=some τ1/\wS b K m τ1 h (lpQ (J (i+1)) Q))/\∀ τ h,J ws.length τ h->Q (.nx τ) h):w1 (.for_ i t b) K n τ h Q:=by
 show okQ ((i.f K n τ h).bind fun r h=>r.toV fun v=>yt v t b K n 0 τ h) (aF Q);unfold wI at x;generalize i.f K n τ h=r at x
 cases r with
 | ok a h1=>cases a with
   | iv v=>
     obtain⟨ws,J,its,l,s,turn,fin⟩:=x
     exact QV J its turn fin ws.length 0 n τ h1 (by omega) l (by omega) (by omega) s
   | _=>exact x.elim
 | _=>exact x.elim
theorem Yr{D:Nat}{w:W}{acc:List W}{k:Hs->R A}(g:h.get D=some (.lst acc))(l:acc.length<=16777215):emit h D w k=k (h.set D (.lst (acc ++ [w]))):=by
 show R.bind (Opt (h.get D) fun o=>o.onL fun xs=>size xs (.ok W.non (h.set D (.lst (app xs [w]))))) (fun _ h=>k h)=_;rw[g];show R.bind (ifB (Nat.ble (len acc) 16777215) (.ok W.non (h.set D (.lst (app acc [w])))) .no) (fun _ h=>k h)=_;rw[len_eq,ble_eq,decide_eq_true l,kE];rfl
noncomputable def W6(c:Option X)(e:X)(K:Ks)(m:Nat)(τ:Sg)(h:Hs)(no:Hs->Prop)(yes:W->Hs->Prop):Prop:=Option.rec (wX e K m τ h yes) (fun c=>wX c K m τ h fun w h=>bW w (wX e K m τ h yes) (no h)) c
theorem QW{v:Iv}{t:Tg}{c:Option X}{e:X}{D:Nat}{ws:List W}{Q:A->Hs->Prop}(b:Nat)(J:Nat->List W->Hs->Prop)(its:∀ i acc h,J i acc h->Its v ws h/\h.get D=some (.lst acc)/\acc.length<=b+i)(lw:b+ws.length<=16777215)
 (turn:∀ i w acc h m,ws[i]? =some w->n<=m+ws.length->J i acc h->∃ τ1,bx h 9 t w τ=some τ1/\W6 c e K m τ1 h (fun h=>J (i+1) acc h) (fun w h=>h.get D=some (.lst acc)/\J (i+1) (acc ++ [w]) (h.set D (.lst (acc ++ [w]))))) (fin:∀ acc h,J ws.length acc h->Q .u h):
 ∀(k i m:Nat) (acc:List W) (h:Hs),i+k=ws.length->k<m->n<=m+i->J i acc h->okQ (nY v t c none e D K m i τ h) Q
 | k,i,0,acc,h,_,l,_,_=>absurd l (by omega)
 | k,i,m+1,acc,h,ek,l,l2,x=>by
   have u:nY v t c none e D K (m+1) i τ h=v.next i h (.ok .u h) fun w h=>Opt (bx h 9 t w τ) fun τ1=>test K m τ1 h c (fun h=>nY v t c none e D K m (i+1) τ h) (fun h=>inner K m τ1 h e D none fun h=>nY v t c none e D K m (i+1) τ h):=rfl;obtain⟨it,gD,la⟩:=its i acc h x;rw[u,it.next]
   cases k with
   | zero=>
     rw[List.getElem?_eq_none (by omega)];rw[Nat.add_zero]at ek;subst ek
     exact fin acc h x
   | succ k=>
     have li:i<ws.length:=by omega
     rw[List.getElem?_eq_getElem li];obtain⟨τ1,e1,y⟩:=turn i ws[i] acc h m (List.getElem?_eq_getElem li) (by omega) x;show okQ (Opt (bx h 9 t ws[i] τ) fun τ1=>test K m τ1 h c (fun h=>nY v t c none e D K m (i+1) τ h) (fun h=>inner K m τ1 h e D none fun h=>nY v t c none e D K m (i+1) τ h)) Q;rw[e1]
     have yes:∀ h2,wX e K m τ1 h2 (fun w h=>h.get D=some (.lst acc)/\J (i+1) (acc ++ [w]) (h.set D (.lst (acc ++ [w]))))->okQ (inner K m τ1 h2 e D none fun h=>nY v t c none e D K m (i+1) τ h) Q:=fun h2 z=>by
      obtain⟨w,h3,ez,g3,j3⟩:=j0 z;show okQ ((e.f K m τ1 h2).bind fun r h=>r.toW fun w=>emit h D w fun h=>nY v t c none e D K m (i+1) τ h) Q;rw[ez];show okQ (emit h3 D w fun h=>nY v t c none e D K m (i+1) τ h) Q;rw[Yr g3 (by omega)];exact QW b J its lw turn fin k (i+1) m (acc ++ [w]) _ (by omega) (by omega) (by omega) j3
     cases c with
     | none=>exact yes h y
     | some c=>
       obtain⟨w,h2,ez,q⟩:=j0 (show wX c K m τ1 h _ from y);show okQ ((c.f K m τ1 h).bind fun r h=>r.toW fun w=>w.onB (nY v t (some c) none e D K m (i+1) τ h) (inner K m τ1 h e D none fun h=>nY v t (some c) none e D K m (i+1) τ h)) Q;rw[ez]
       cases w with
       | bl bb=>cases bb with
         | false=>exact QW b J its lw turn fin k (i+1) m acc h2 (by omega) (by omega) (by omega) q
         | true=>exact yes h2 q
       | _=>exact q.elim
theorem Fp{nt:Nat}{idx:List Nat}{it:I}{t:Tg}{c:Option X}{e:X}{Q:W->Hs->Prop}(x:wI it K n τ h fun v h1=>∃(ws:List W) (J:Nat->List W->Hs->Prop),(∀ i acc h,J i acc h->Its v ws h/\h.get h1.n=some (.lst acc)/\acc.length<=i)/\ws.length<=16777215/\ws.length<n/\J 0 [] (h1.push (.lst []))/\
 (∀ i w acc h m,ws[i]? =some w->n<=m+ws.length->J i acc h->∃ τ1,bx h 9 t w (lN nt idx τ)=some τ1/\W6 c e K m τ1 h (fun h=>J (i+1) acc h) (fun w h=>h.get h1.n=some (.lst acc)/\J (i+1) (acc ++ [w]) (h.set h1.n (.lst (acc ++ [w])))))/\∀ acc h,J ws.length acc h->Q (.ref h1.n) h):wX (.comp nt idx it t c none e) K n τ h Q:=by
 show okQ ((it.f K n τ h).bind fun r h=>r.toV fun v=>(nY v t c none e h.n K n 0 (lN nt idx τ) (h.push (.lst []))).nox.bind fun _ h'=>.ok (.w (.ref h.n)) h') (aW Q);unfold wI at x;generalize it.f K n τ h=r at x
 cases r with
 | ok a h1=>cases a with
   | iv v=>
     obtain⟨ws,J,its,lw,l,s,turn,fin⟩:=x;have z:=QW (Q:=fun a h=>a= .u/\Q (.ref h1.n) h) 0 J (fun i acc h j=>by rw[Nat.zero_add];exact its i acc h j) (by rw[Nat.zero_add];exact lw) turn (fun acc h j=>⟨rfl,fin acc h j⟩) ws.length 0 n [] (h1.push (.lst [])) (by omega) l (by omega) s;show okQ ((nY v t c none e h1.n K n 0 (lN nt idx τ) (h1.push (.lst []))).nox.bind fun _ h'=>.ok (.w (.ref h1.n)) h') (aW Q);generalize nY v t c none e h1.n K n 0 (lN nt idx τ) (h1.push (.lst []))=r at z
     cases r with
     | ok a h'=>exact z.2
     | _=>exact z.elim
   | _=>exact x.elim
 | _=>exact x.elim
theorem comp_map{nt:Nat}{idx:List Nat}{it:I}{t:Tg}{e:X}{Q:W->Hs->Prop}(x:wI it K n τ h fun v h1=>Ext h h1/\∃(ws:List W) (ds:List D) (B:Nat->Prop),(∀ h2,Ext h1 h2->Its v ws h2)/\(∀ p,B p->p<h1.n)/\ws.length=ds.length/\ws.length<=16777215/\ws.length<n/\
 (∀(i:Nat) w d h2 m,ws[i]? =some w->ds[i]? =some d->n<=m+ws.length->Ext h1 h2->h1.n<h2.n->∃ τ1,bx h2 9 t w (lN nt idx τ)=some τ1/\wX e K m τ1 h2 (fun w h3=>Ext h2 h3/\Rd h3 (fun p=>B p\/h2.n<=p) d w))/\
 ∀ h3,Ext h1 h3->Rd h3 (fun p=>B p\/h1.n<=p) (.lst ds) (.ref h1.n)->Q (.ref h1.n) h3):wX (.comp nt idx it t none none e) K n τ h Q:=by
 refine Fp ?_;refine sZ x fun a h1 z=>?_
 cases a with
 | iv v=>
   obtain⟨x1,ws,ds,B,its,hB,le,l1,l2,turn,fin⟩:=z;refine⟨ws,fun i acc h2=>Ext h1 h2/\h1.n<h2.n/\h2.get h1.n=some (.lst acc)/\acc.length=i/\Rds h2 (fun p=>p ≠ h1.n/\(B p\/h1.n<=p)) (ds.take i) acc,fun i acc h2 j=>⟨its h2 j.1,j.2.2.1,by omega⟩,l1,l2,⟨.push,cu,aZ,rfl,by simp[Rds]⟩,?_,?_⟩
   · rintro i w acc h2 m ei lm ⟨j1,j2,j3,j4,j5⟩;have li:i<ws.length:=(bu ei).1;have ed:ds[i]? =some (ds[i]'(by omega)):=List.getElem?_eq_getElem (by omega);obtain⟨τ1,eb,y⟩:=turn i w _ h2 m ei ed lm j1 j2;refine⟨τ1,eb,?_⟩;refine vG y fun w' h3 ⟨y1,y2⟩=>?_;have g3:h3.get h1.n=some (.lst acc):=y1.get j2 j3;refine⟨g3,(j1.trans y1).set (aA _),by rw[Hs.pK];exact bH j2 y1.1,by rw[Hs.get_set,if_pos rfl],by simp[j4],?_⟩;rw[List.take_add_one,ed]
     have z1:Rds h3 (fun p=>p ≠ h1.n/\(B p\/h1.n<=p)) (ds.take i++(some (ds[i]'(by omega))).toList) (acc ++ [w']):=(j5.ext y1).snoc (y2.imp fun p _ q=>by
      rcases q with q | q
      · have:=hB p q;exact⟨by omega,.inl q⟩
      · exact⟨by omega,.inr (by omega)⟩)
     exact Rds.to (by rw[Hs.pK];exact aA _) (fun k _ a=>⟨by rw[Hs.get_set,if_neg a.1],a⟩) _ _ z1
   · rintro acc h2 ⟨j1,j2,j3,j4,j5⟩;refine fin h2 j1 ?_;rw[le,List.take_length]at j5;simp only[Rd]
     exact⟨_,acc,rfl,j2,.inr (aA _),j3,j5.imp fun p _ q=>q.2⟩
 | _=>exact z.elim
theorem MN{nt:Nat}{idx:List Nat}{it:I}{t:Tg}{c e:X}{Q:W->Hs->Prop}(x:wI it K n τ h fun v h1=>Ext h h1/\∃(ws:List W) (P:W->Bool),(∀ h2,Ext h1 h2->Its v ws h2)/\ws.length<=16777215/\ws.length<n/\
 (∀(i:Nat) w h2 m,ws[i]? =some w->n<=m+ws.length->Ext h1 h2->h1.n<h2.n->∃ τ1,bx h2 9 t w (lN nt idx τ)=some τ1/\wX c K m τ1 h2 (fun u h3=>u= .bl (P w)/\Ext h2 h3/\(P w=true->wX e K m τ1 h3 fun w' h4=>w'=w/\Ext h3 h4)))/\
 ∀ h3,Ext h1 h3->h1.n<h3.n->h3.get h1.n=some (.lst (ws.filter P))->Q (.ref h1.n) h3):wX (.comp nt idx it t (some c) none e) K n τ h Q:=by
 refine Fp ?_;refine sZ x fun a h1 z=>?_
 cases a with
 | iv v=>
   obtain⟨x1,ws,P,its,l1,l2,turn,fin⟩:=z;refine⟨ws,fun i acc h2=>Ext h1 h2/\h1.n<h2.n/\h2.get h1.n=some (.lst acc)/\acc=(ws.take i).filter P,fun i acc h2 j=>⟨its h2 j.1,j.2.2.1,by rw[j.2.2.2];exact Nat.le_trans (List.length_filter_le _ _) (by rw[List.length_take];omega)⟩,l1,l2,⟨.push,cu,aZ,by simp⟩,?_,?_⟩
   · rintro i w acc h2 m ei lm ⟨j1,j2,j3,j4⟩;obtain⟨τ1,eb,y⟩:=turn i w h2 m ei lm j1 j2;refine⟨τ1,eb,?_⟩;refine vG y fun u h3 ⟨y0,y1,y2⟩=>?_;subst y0
     have tk:(ws.take (i+1)).filter P=(ws.take i).filter P++if P w then [w] else []:=by
      rw[List.take_add_one,ei,List.filter_append];simp only[Option.toList,List.filter_cons,List.filter_nil]
     cases hp:P w with
     | false=>exact⟨j1.trans y1,bH j2 y1.1,y1.get j2 j3,by rw[tk,hp,j4];simp⟩
     | true=>
       refine vG (y2 hp) fun w' h4 ⟨e4,x4⟩=>?_;subst e4;have x24:=y1.trans x4;refine⟨x24.get j2 j3,(j1.trans x24).set (aA _),by rw[Hs.pK];exact bH j2 x24.1,by rw[Hs.get_set,if_pos rfl],by rw[tk,hp,j4];simp⟩
   · rintro acc h2 ⟨j1,j2,j3,j4⟩
     exact fin h2 j1 j2 (by rw[j3,j4,List.take_length])
 | _=>exact z.elim
end
section
variable{K:Ks}{n:Nat}{τ:Sg}{h:Hs}{Q:W->Hs->Prop}{i j:Int}{p q:Nat}{xs ys:List W}{ns:List Int}{A B:Nat->Prop}{d d':D}{w w':W}
theorem p_add(z:Q (.int (i+j)) h):wP .add [.int i,.int j] h Q:=by show Q (.int (JV i j)) h;rw[NP];exact z
theorem ack(z:Q (.int (i - j)) h):wP .sub [.int i,.int j] h Q:=by show Q (.int (Qm i j)) h;rw[NQ];exact z
theorem acn(z:Q (.int (-i)) h):wP .neg [.int i] h Q:=z
theorem fj{β:Type}{b:Bool}{t f:β}(e:b=true):ifB b t f=t:=by subst e;rfl
theorem KN(l:i.natAbs<2 ^ 64):Sml i=true:=by
 have b:(2:Nat) ^ 64<=2 ^ 4000:=Nat.pow_le_pow_right (by decide) (by decide)
 cases i with
 | ofNat a=>
   show Nat.ble (a+1) (2 ^ 4000)=true;have:a<2 ^ 64:=l
   exact Nat.ble_eq_true_of_le (Nat.le_trans this b)
 | negSucc a=>
   show Nat.ble (a+2) (2 ^ 4000)=true;have:a+1<2 ^ 64:=l;exact Nat.ble_eq_true_of_le (Nat.le_trans (by omega) b)
theorem aco(a:i.natAbs<2 ^ 64)(b:j.natAbs<2 ^ 64)(z:Q (.int (i*j)) h):wP .mul [.int i,.int j] h Q:=by
 show okQ (ifB (Sml i) (ifB (Sml j) (.ok (.int (i*j)) h) .no) .no) Q;rw[fj (KN a),fj (KN b)];exact z
theorem acp(a:0<j)(z:Q (.int (i % j)) h):wP .mod [.int i,.int j] h Q:=by
 show okQ (ifB (ilt 0 j) (.ok (.int (fmod i j)) h) .no) Q;rw[fj (by rw[cD];exact decide_eq_true a),fmod_eq];exact z
theorem aaW(a:0<j)(b:j.natAbs<2 ^ 64)(z:Q (.int (i.fdiv j)) h):wP .fdiv [.int i,.int j] h Q:=by
 show okQ (ifB (ilt 0 j) (ifB (Sml j) (.ok (.int (i.fdiv j)) h) .no) .no) Q;rw[fj (by rw[cD];exact decide_eq_true a),fj (KN b)];exact z
theorem adx(z:Q (.bl (decide (i<j))) h):wP .lt [.int i,.int j] h Q:=by show Q (.bl (ilt i j)) h;rw[cD];exact z
theorem aaX(z:Q (.bl (decide (j<=i))) h):wP .ge [.int i,.int j] h Q:=by
 show Q (.bl (!ilt i j)) h;rw[cD,show(!decide (i<j))=decide (j<=i) by rw[Bool.eq_iff_iff];simp];exact z
theorem acq(z:Q (.bl (decide (i=j))) h):wP .eq [.int i,.int j] h Q:=by
 show Q (.bl (cR (.int i) (.int j))) h;rw[show cR (.int i) (.int j)=decide (i=j) by simp[cR,jn]];exact z
theorem zU{f:D->R W}(a:Rd h A d w)(l:j6 d<=12:=by decide)(o:okD d=true:=by rfl):wD h w f=f d:=by
 show Opt (toD h 12 w) f=_;rw[T4 d w 12 a l o];rfl
theorem acr(a:Rd h A d w)(b:Rd h B d' w')(l:j6 d<=12)(l':j6 d'<=12)(o:okD d=true)(o':okD d'=true)(z:Q (.bl (cR d d')) h):wP .eq [w,w'] h Q:=by
 show okQ (wD h w fun x=>wD h w' fun y=>.yes (id (cR x y)) h) Q;rw[zU a l o,zU b l' o'];exact z
theorem acs(a:Rd h A d w)(b:Rd h B d' w')(l:j6 d<=12)(l':j6 d'<=12)(o:okD d=true)(o':okD d'=true)(z:Q (.bl (!cR d d')) h):wP .ne [w,w'] h Q:=by
 show okQ (wD h w fun x=>wD h w' fun y=>.yes (not (cR x y)) h) Q;rw[zU a l o,zU b l' o'];exact z
theorem lY{β:Type}{f:Nat->O->R β}{o:O}(e:h.get p=some o):h.at (.ref p) f=f p o:=by
 show Opt (h.get p) (f p)=_;rw[e];rfl
theorem W7(e:h.get p=some (.lst xs))(z:Q (.int xs.length) h):wP .len [.ref p] h Q:=by
 show okQ (h.at (.ref p) fun _ o=>o.items fun xs=>.ok (.int (.ofNat (len xs))) h) Q;rw[lY e,show len=List.length from funext fun _=>len_eq _]at *;exact z
theorem KQ(e:h.get p=some (.lst xs))(e2:xs[q]? =some w)(z:Q w h):wP .ix [.ref p,.int (Int.ofNat q)] h Q:=by
 show okQ (h.at (.ref p) fun _ o=>o.items fun xs=>Opt (nth xs q) fun w=>.ok w h) Q;rw[lY e];show okQ (Opt (nth xs q) fun w=>.ok w h) Q;rw[oA,e2];exact z
theorem W8(e:h.get p=some (.lst xs))(l:0<=i)(e2:xs[i.toNat]? =some w)(z:Q w h):wP .ix [.ref p,.int i] h Q:=by
 rw[show i=Int.ofNat i.toNat by show i=((i.toNat:Nat):Int);omega];exact KQ e e2 z
theorem W9(l:xs.length<=16777215)(z:Q (.ref h.n) (h.push (.lst xs))):wP .lst xs h Q:=by
 show okQ (ifB (Nat.ble (len xs) 16777215) (.alloc h (.lst xs)) .no) Q;rw[len_eq,ble_eq,fj (decide_eq_true l)];exact z
theorem QX(l:xs.length<=16777215)(z:Q (.ref h.n) (h.push (.tup xs))):wP .tup xs h Q:=by
 show okQ (ifB (Nat.ble (len xs) 16777215) (.alloc h (.tup xs)) .no) Q;rw[len_eq,ble_eq,fj (decide_eq_true l)];exact z
theorem aaY(e:h.get p=some (.lst xs))(z:Q (.ref h.n) (h.push (.lst xs))):wP .list [.ref p] h Q:=by
 show okQ (h.at (.ref p) fun _ o=>o.items fun xs=>.alloc h (.lst xs)) Q;rw[lY e];exact z
theorem acu(e:h.get p=some (.lst xs))(e2:h.get q=some (.lst ys))(l:xs.length+ys.length<=16777215)(z:Q (.ref h.n) (h.push (.lst (xs++ys)))):wP .add [.ref p,.ref q] h Q:=by
 show okQ (h.at (.ref p) fun _ x=>h.at (.ref q) fun _ y=>O.casesOn x (fun _=>.no) (fun xs=>y.onL fun ys=>size (app xs ys) (.alloc h (.lst (app xs ys)))) (fun _ _=>.no) (fun _=>.no) (fun _=>.no) (fun _=>.no)) Q;rw[lY e,lY e2];show okQ (ifB (Nat.ble (len (app xs ys)) 16777215) (.alloc h (.lst (app xs ys))) .no) Q;rw[len_eq,kE,ble_eq,fj (decide_eq_true (by rw[List.length_append];exact l))];exact z
theorem Hg:∀ ns:List Int,lX (ns.map W.int)=some ns
 | []=>rfl
 | n::ns=>by
   show Option.rec (motive:=fun _=>Option (List Int)) none (fun r=>some (n::r)) (lX (ns.map W.int))=_;rw[Hg ns]
theorem aaZ{b:Bool}(z:Q (.bl (!b)) h):wP .v9 [.bl b] h Q:=by cases b <;> exact z
theorem V6{b:Bool}(z:Q (.bl b) h):wP .truth [.bl b] h Q:=z
theorem Jm{e:X}{Q:Iv->Hs->Prop}(x:wX e K n τ h fun w h1=>∃ p ws,w= .ref p/\((h1.get p=some (.lst ws)/\Q (.lst p) h1)\/(h1.get p=some (.tup ws)/\Q (.tup p) h1))):wI (.seq e) K n τ h Q:=by
 show okQ ((e.f K n τ h).bind fun r h=>r.toW fun w=>h.at w fun n o=>O.casesOn o (fun _=>.ok (.iv (.tup n)) h) (fun _=>.ok (.iv (.lst n)) h) (fun _ _=>.no) (fun _=>.no) (fun _=>.no) (fun _=>.no)) (aV Q);obtain⟨w,h1,ea,p,ws,rfl,g⟩:=j0 x;rw[ea];show okQ (h1.at (.ref p) fun n o=>O.casesOn o (fun _=>.ok (.iv (.tup n)) h1) (fun _=>.ok (.iv (.lst n)) h1) (fun _ _=>.no) (fun _=>.no) (fun _=>.no) (fun _=>.no)) (aV Q)
 rcases g with ⟨g,q⟩ | ⟨g,q⟩ <;> rw[lY g] <;> exact q
theorem T5{k:R Ev.A}(a:j<1000000000)(b: -1000000000<j):within j k=k:=by
 show ifB (ilt j 1000000000) (ifB (ilt (-1000000000) j) k .no) .no=_;rw[cD,cD,fj (decide_eq_true a),fj (decide_eq_true b)]
theorem C_{e:X}{Q:Iv->Hs->Prop}(x:wX e K n τ h fun w h1=>∃ j:Int,w= .int j/\j<1000000000/\-1000000000<j/\Q (.rng 0 j.toNat) h1):wI (.o5 [e]) K n τ h Q:=by
 show okQ ((goA [e] K n τ h).bind fun r h=>r.toL fun ws=>JW ws fun w=>w.onI fun j=>within j (.ok (.iv (.rng 0 j.toNat)) h)) (aV Q);obtain⟨w,h1,ea,j,rfl,l1,l2,q⟩:=j0 x
 have:goA [e] K n τ h= .ok (.ws [.int j]) h1:=by
  show R.rec (motive:=fun _=>R Ev.A) (fun r h=>A.rec (motive:=fun _=>R Ev.A) (fun w=>R.rec (motive:=fun _=>R Ev.A) (fun r h=>A.rec (motive:=fun _=>R Ev.A) (fun _=>.no) (fun ws=>.ok (.ws (w::ws)) h) (fun _=>.no) (fun _=>.no) .no r) (fun C fs h=>.ex C fs h) .no (goA [] K n τ h)) (fun _=>.no) (fun _=>.no) (fun _=>.no) .no r) (fun C fs h=>.ex C fs h) .no (e.f K n τ h)=_;rw[ea];rfl
 rw[this];show okQ (within j (.ok (.iv (.rng 0 j.toNat)) h1)) (aV Q);rw[T5 l1 l2];exact q
noncomputable def wz(lo:Int)(m:Nat):List W:=(List.range m).map fun k=>.int (lo+Int.ofNat k)
theorem cT{lo:Int}{m:Nat}:(wz lo m).length=m:=by simp[wz]
theorem tu{lo:Int}{m k:Nat}(l:k<m):(wz lo m)[k]? =some (.int (lo+Int.ofNat k)):=by simp[wz,l]
theorem zV{lo:Int}{m:Nat}{h:Hs}:Its (.rng lo m) (wz lo m) h:=.inr (.inr ⟨lo,by rw[cT],fun i l=>tu (by rw[cT]at l;exact l)⟩)
theorem Ol{h1 h2:Hs}(e:h1.get p=some (.lst xs))(l:p<h1.n)(x:Ext h1 h2):Its (.lst p) xs h2:=.inl ⟨p,rfl,x.get l e⟩
end
section
variable{K:Ks}{n:Nat}{τ:Sg}{h:Hs}{ss:List S}
theorem aN{i:Nat}{w:W}{Q:W->Hs->Prop}(e:cN τ i=some w)(q:Q w h):wX (.var i) K n τ h Q:=(aaV e).mpr q
theorem Dc{A:Nat->Prop}{i:Int}:Rd h A (.int i) (.int i):=by simp only[Rd]
theorem bC{Q:Fl->Hs->Prop}(x:wS ss K n τ h Q):QM ss K n h Q (.nx τ):=x
theorem Ys{w:W}{Q:Fl->Hs->Prop}(x:Q (.rt w) h):QM ss K n h Q (.rt w):=x
theorem aa0{w:W}{Q:W->Hs->Prop}(x:Q w h):V5 Q (.rt w) h:=x
theorem aa1{Q:W->Hs->Prop}(x:Q .non h):V5 Q (.nx τ) h:=x
theorem Jo{J:Sg->Hs->Prop}{Q:Fl->Hs->Prop}(x:J τ h):lpQ J Q (.nx τ) h:=x
theorem Fv{t f:Prop}(x:t):bW (.bl true) t f:=x
theorem yF{t f:Prop}(x:f):bW (.bl false) t f:=x
theorem W_{t f:Prop}(x:f):bW (.bl (!true)) t f:=x
theorem acv{t f:Prop}(x:t):bW (.bl (!false)) t f:=x
theorem V7{c:Prop}[Decidable c]{t f:Prop}(x:c->t)(y:¬ c->f):bW (.bl (decide c)) t f:=by
 by_cases z:c
 · rw[decide_eq_true z];exact x z
 · rw[decide_eq_false z];exact y z
theorem zW{b:Bool}{t f:Prop}(e:b=false)(y:f):bW (.bl b) t f:=by subst e;exact y
theorem vI{l:List Int}{k:Nat}(z:k<l.length):(l.map W.int)[k]? =some (.int (l.getD k 0)):=by
 rw[List.getElem?_map,List.getElem?_eq_getElem z];simp[List.getD,List.getElem?_eq_getElem z]
theorem Hh:∀ {row ls:List Int},L2.Drawn row ls->row.length=ls.length
 | _,_,.nil=>rfl
 | _,_,.cons _ t=>by simp[Hh t]
theorem wB:∀ {row ls:List Int} {k:Nat},L2.Drawn row ls->k<ls.length->0<=row.getD k 0/\row.getD k 0<ls.getD k 0
 | _,_,k,.nil,l=>by simp at l
 | _,_,0,.cons a _,_=>by simpa using a
 | _,_,k+1,.cons _ t,l=>by simpa using wB (k:=k) t (by simpa using l)
end
section
variable{K:Ks}{n:Nat}{τ:Sg}{h:Hs}{Q:W->Hs->Prop}{i j:Int}{p q:Nat}{xs ys:List W}{A B:Nat->Prop}
theorem Yt(z:Q (.bl true) h):wP (.isi 0) [.int i] h Q:=z
theorem Yu(z:Q (.bl false) h):wP (.isi 1) [.int i] h Q:=z
noncomputable abbrev Dp(a b:Int):D:=.tup [.int a,.int b]
theorem V8{a b:Int}{w:W}:Rd h A (Dp a b) w ↔ ∃ p,w= .ref p/\p<h.n/\A p/\h.get p=some (.tup [.int a,.int b]):=by
 have e:[D.int a,D.int b] = [a,b].map D.int:=rfl;simp only[Dp,Rd,e,Rds.ints]
 constructor
 · rintro⟨p,ws,e,l,a,g,rfl⟩;exact⟨p,e,l,a,g⟩
 · rintro⟨p,e,l,a,g⟩;exact⟨p,_,e,l,a,g,rfl⟩
theorem KY{ds:List D}{w:W}:Rd h A (.lst ds) w ↔ ∃ p ws,w= .ref p/\p<h.n/\A p/\h.get p=some (.lst ws)/\Rds h A ds ws:=by simp only[Rd]
end
section
variable{K:Ks}{n:Nat}{τ:Sg}{h:Hs}{Q:W->Hs->Prop}{i j:Int}{p q:Nat}{xs ys:List W}{ns:List Int}{A B:Nat->Prop}
theorem Xa{a b:Int}(ha:0<a/\a<1000)(hb:0<b/\b<1000)(z:Q (.int (a ^ b.toNat)) h):wP .pow [.int a,.int b] h Q:=by
 show okQ (ifB (ilt a 1000) (ifB (ilt 0 a) (ifB (ilt 0 b) (ifB (ilt b 1000) (.ok (.int (a ^ b.toNat)) h) .no) .no) .no) .no) Q;rw[cD,cD,cD,cD,fj (decide_eq_true ha.2),fj (decide_eq_true ha.1),fj (decide_eq_true hb.1),fj (decide_eq_true hb.2)];exact z
theorem acw{w:W}(z:Q (.bl (um w)) h):wP .isN [w] h Q:=z
end
section
variable{K:Ks}{n:Nat}{τ:Sg}{h:Hs}{Q:W->Hs->Prop}
theorem aa2{nx:Nat}{idx:List Nat}{e:X}{c1 c2:Nat->Nat->List W->Hs->R A}{C:Nat}{fs:Fs}{h1:Hs}{w:W}(z:e.f K n (lN 0 idx τ) h= .ex C fs h1)(l:C<nx)(g:fget fs jE=some w)(q:Q (.ref h1.n) (h1.push (.tup [.str noT,w]))):wX (.told nx idx e) (c1::c2::K) n τ h Q:=by
 show okQ (R.rec (motive:=fun _=>R A) (fun r h=>r.toW fun w=>ofW (.alloc h (.tup [.str zK,w]))) (fun C fs h=>ifB (Nat.ble (C+1) nx) (Opt (fget fs jE) fun w=>ofW (.alloc h (.tup [.str noT,w]))) .no) .no (e.f K n (lN 0 idx τ) h)) (aW Q);rw[z];show okQ (ifB (Nat.ble (C+1) nx) (Opt (fget fs jE) fun w=>ofW (.alloc h1 (.tup [.str noT,w]))) .no) (aW Q);rw[fj (Nat.ble_eq_true_of_le l),g];exact q
theorem QZ{es:List X}{Q:List W->Hs->Prop}(x:wA es K n τ h Q):∃ w h',goA es K n τ h= .ok (.ws w) h'/\Q w h':=by
 unfold wA at x;generalize goA es K n τ h=r at x
 cases r with
 | ok a h'=>cases a with
   | ws w=>exact⟨w,h',rfl,x⟩
   | _=>exact x.elim
 | _=>exact x.elim
theorem Fw{i j:Nat}{e:X}{Q:Fl->Hs->Prop}(x:wX e K n τ h fun w h1=>∃ p u v,w= .ref p/\h1.get p=some (.tup [u,v])/\Q (.nx (setAt (setAt τ (some u) i) (some v) j)) h1):w1 (.asg (.tup [.nm i,.nm j]) e) K n τ h Q:=by
 obtain⟨w,h1,e1,p,u,v,rfl,g,q⟩:=j0 x;show okQ ((e.f K n τ h).bind fun r h=>r.toW fun w=>Opt (bx h 9 (.tup [.nm i,.nm j]) w τ) fun τ=>.ok (.fl (.nx τ)) h) (aF Q);rw[e1];show okQ (Opt (Option.rec (motive:=fun _=>Option Sg) none (fun o=>O.rec (motive:=fun _=>Option Sg) (fun xs=>bindL (bx h1 8) [.nm i,.nm j] xs τ) (fun _=>none) (fun _ _=>none) (fun _=>none) (fun _=>none) (fun _=>none) o) (h1.get p)) fun τ=>.ok (.fl (.nx τ)) h1) (aF Q);rw[g];exact q
theorem Yv{f:Nat}{es:List X}{ws:List W}{h1 h2:Hs}{C:Nat}{fs:Fs}(e:goA es K n τ h= .ok (.ws ws) h1)(z:bJ f ws K n h1= .ex C fs h2):(X.call f es).f K n τ h= .ex C fs h2:=by
 show(goA es K n τ h).bind (fun a h=>a.toL fun ws=>bJ f ws K n h)=_;rw[e];exact z
end
section
variable{K:Ks}{n:Nat}{τ:Sg}{h:Hs}{Q:W->Hs->Prop}{p q:Nat}{xs ys:List W}{A B:Nat->Prop}
theorem Rds.aa3{α:Type}{f:α->D}{P:W->Bool}{P':α->Bool}:∀ {l:List α} {ws:List W},(∀ a w,Rd h A (f a) w->P w=P' a)->Rds h A (l.map f) ws->Rds h A ((l.filter P').map f) (ws.filter P)
 | [],ws,_,r=>by simp only[List.map_nil,Rds]at r;subst r;simp[Rds]
 | a::l,ws,hp,r=>by
   simp only[List.map_cons,Rds]at r;obtain⟨w,r',rfl,x,y⟩:=r;have e:=hp a w x;have ih:=Rds.aa3 hp y
   by_cases c:P' a=true
   · rw[List.filter_cons_of_pos c,List.filter_cons_of_pos (by rw[e];exact c)];simp only[List.map_cons,Rds];exact⟨_,_,rfl,x,ih⟩
   · rw[List.filter_cons_of_neg c,List.filter_cons_of_neg (by rw[e];exact c)];exact ih
theorem Rds.at{ds:List D}{ws:List W}{i:Nat}{w:W}(r:Rds h A ds ws)(e:ws[i]? =some w):∃ d,ds[i]? =some d/\Rd h A d w:=by
 have l:i<ds.length:=by have:=(bu e).1;rw[r.length]at this;exact this
 obtain⟨w',e',x⟩:=r.get (List.getElem?_eq_getElem l);rw[e]at e';cases e';exact⟨_,List.getElem?_eq_getElem l,x⟩
end
end Ev
namespace L2
open PySem PySem.Spec PySem.SeqAt PyProof.Rows
noncomputable def hitsD(h:Heap)(dx:PyData)(w:Value):Bool:= @decide (∃ d as,Reads h w d as/\PyData.eqv d dx=true) (Classical.propDecidable _)
theorem KZ{h:Heap}{dx d:PyData}{w:Value}{as:List Addr}(r:Reads h w d as)(c:d.canLay0=true):hitsD h dx w=PyData.eqv d dx:=by
 unfold hitsD
 by_cases e:PyData.eqv d dx=true
 · rw[e];exact @decide_eq_true _ (Classical.propDecidable _) ⟨d,as,r,e⟩
 · rw[(Bool.not_eq_true _).mp e];refine @decide_eq_false _ (Classical.propDecidable _) ?_;rintro⟨d',as',r',e'⟩;rw[<- Reads.unique d d' w as as' c r r']at e';exact e e'
theorem Hi{h:Heap}{dx:PyData}:∀ {us:List Value} {ds:List PyData} {as:List Addr},ReadsAll h us ds as->PyData.canLayAll0 ds=true->us.any (hitsD h dx)=ds.any (fun d=>PyData.eqv d dx)/\∀ u ∈ us,∃ d bs,Reads h u d bs/\d.canLay0=true
 | _,_,_,.nil,_=>⟨rfl,fun u hu=>by cases hu⟩
 | _,_,_,.cons r t,c=>by
   simp only[PyData.canLayAll0,Bool.and_eq_true]at c;obtain⟨h1,h2⟩:=Hi (dx:=dx) t c.2;refine⟨by rw[List.any_cons,List.any_cons,KZ r c.1,h1],fun u hu=>?_⟩
   rcases List.mem_cons.mp hu with rfl | hu
   · exact⟨_,_,r,c.1⟩
   · exact h2 u hu
section
variable{X:Cx}
noncomputable def aa4:R2:=fun x y H Q=>∃ dx ds,Rep H x dx/\Rep H y (.list ds)/\dx.canLay0=true/\dx.depth<=12/\PyData.canLayAll0 ds=true/\Q (.bl (ds.any fun d=>PyData.eqv d dx)) H
theorem aa5(hu:X.A.units+64<cLine):OpR X (compareOp .In) aa4:=by
 intro pins s σ H x y v u Q I rx ry h;obtain⟨dx,ds,hx,hy,cx,px,cs,q⟩:=h;obtain⟨as,ra⟩:=hx.reads I.hok rx;obtain⟨bs,rb⟩:=hy.reads I.hok ry
 cases rb with
 | list ho hc hd rr=>
   rename_i a o vs n bs;obtain⟨h1,h2⟩:=Hi (dx:=dx) rr cs;refine SeqAt.in_listAt (hitsD s.heap dx) ⟨_,ho,hc,_,hd⟩ (fun w hw=>?_) ⟨.bl _,H,I,rfl,?_⟩
   · obtain⟨d,bs',r,c⟩:=h2 w (by simpa using hw);rw[KZ r c];exact SeqAt.eqAt_reads d dx X.A.in1 s w v _ _ r ra c cx (by have:=Nat.min_le_right d.depth dx.depth;show X.A.units+1+_<_;omega)
   · rw[show vs.any (hitsD s.heap dx)=vs.toList.any (hitsD s.heap dx) by simp,h1];exact q
end
end L2
namespace Ev
open PySem PySem.Spec PySem.SeqAt PyProof.Rows L2
noncomputable section
noncomputable def Bu(x:D)(ds:List D):Bool:=List.rec false (fun d _ r=>ifB (cR d x) true r) ds
noncomputable def aa6(h:Hs)(a b:W):R W:=wD h a fun x=>wD h b fun y=>D.casesOn y .no (fun _=>.no) (fun _=>.no) (fun _=>.no) (fun ds=>.yes (Bu x ds) h) (fun _=>.no)
noncomputable def Pr.inD:Pr:=⟨fun ws h=>h_ ws (aa6 h)⟩
end
section
variable{X:Cx}{Pg:List Fn}{cl:Cn}{E:XK}{d:Nat}
theorem Om{x:D}:∀ ds:List D,(pds ds).any (fun d=>PyData.eqv d (pd x))=Bu x ds
 | []=>by simp only[pds];rfl
 | d::ds=>by
   simp only[pds,List.any_cons];rw[Om ds,Ke];show _=ifB (cR d x) true (Bu x ds);cases cR d x <;> rfl
theorem acy:Op2 cl .inD aa4:=fun E ρ h H w1 w2 v1 v2 Q s r1 r2 p=>by
 obtain⟨x,ex,p⟩:=nZ (show Post cl ρ H E (ofW (aa6 h w1 w2)) (VP Q) from p);obtain⟨y,ey,p⟩:=nZ p;obtain⟨a1,a2,a3⟩:=vz s 12 r1 ex;obtain⟨b1,b2,b3⟩:=vz s 12 r2 ey
 cases y with
 | lst ds=>exact⟨_,pds ds,a1,by simpa only[pd] using b1,a2,a3,by simpa only[pd,PyData.canLay0] using b2,Post.yes s p (by rw[Om])⟩
 | _=>exact absurd p id
end
noncomputable section
noncomputable def W.onS{β:Type}(w:W)(f:List Nat->R β):R β:=W.rec .no (fun _=>.no) (fun _=>.no) f (fun _=>.no) w
noncomputable def acz(xs:List W):Option (List (List Nat)):=List.rec (some []) (fun x _ r=>W.elim x none (fun _=>none) (fun _=>none) (fun c=>Option.rec none (fun cs=>some (c::cs)) r) (fun _=>none)) xs
noncomputable def aa7(cs:List (List Nat)):Nat:=List.rec 0 (fun c _ r=>len c+r) cs
noncomputable def acA(z:List Nat)(cs:List (List Nat)):List Nat:=(PySem.Txt.join (nm z) (cs.map nm)).cps.toList
noncomputable def acB(z:List Nat)(h:Hs)(a:W):R W:=h.at a fun _ o=>o.onL fun xs=>Opt (acz xs) fun cs=>ifB (Nat.ble (aa7 cs+len cs*len z) 16777216) (.ok (.str (acA z cs)) h) .no
noncomputable def Pr.join(z:List Nat):Pr:=⟨fun ws h=>iD ws (acB z h)⟩
end
section
variable{h:Hs}{Q:W->Hs->Prop}{K:Ks}{n:Nat}{τ:Sg}{A:Nat->Prop}
theorem yG{c:List Nat}:Rd h A (.str c) (.str c):=by simp only[Rd]
end
section
variable{K:Ks}{n:Nat}{τ:Sg}{h:Hs}{Q:W->Hs->Prop}{p q:Nat}{xs ys:List W}{A B:Nat->Prop}
theorem Oo{x:D}:∀ ds:List D,Bu x ds=ds.any fun d=>cR d x
 | []=>rfl
 | d::ds=>by
   show ifB (cR d x) true (Bu x ds)=_;rw[List.any_cons,Oo ds];cases cR d x <;> rfl
theorem acC{w w':W}{d:D}{ds:List D}(a:Rd h A d w)(b:Rd h B (.lst ds) w')(l:j6 d<=12)(l':j6 (.lst ds)<=12)(o:okD d=true)(o':okD (.lst ds)=true)(z:Q (.bl (ds.any fun e=>cR e d)) h):wP .inD [w,w'] h Q:=by
 show okQ (wD h w fun x=>wD h w' fun y=>D.casesOn y .no (fun _=>.no) (fun _=>.no) (fun _=>.no) (fun ds=>.yes (Bu x ds) h) (fun _=>.no)) Q;rw[zU a l o,zU b l' o'];show okQ (.yes (Bu d ds) h) Q;rw[Oo];generalize (ds.any fun e=>cR e d)=b at z;cases b <;> exact z
variable{kvs:List (List W × W)}{ks:List W}
end
section
variable{h:Hs}{Q:W->Hs->Prop}{K:Ks}{n:Nat}{τ:Sg}{A:Nat->Prop}
theorem Hj{a hi:X}(x:wX a K n τ h fun w h1=>wX hi K n τ h1 fun u h3=>∃(p:Nat) (xs:List W) (j:Nat),w= .ref p/\u= .int (Int.ofNat j)/\j<xs.length/\h3.get p=some (.tup xs)/\Q (.ref h3.n) (h3.push (.tup (xs.take j)))):wX (.slice a none (some hi)) K n τ h Q:=by
 obtain⟨w,h1,e1,x⟩:=j0 x;obtain⟨u,h3,e2,p,xs,j,rfl,rfl,lj,g,q⟩:=j0 x
 have si:sIx (len xs) (len xs) (some (Int.ofNat j))=j:=by
  show ifB (Nat.ble j (len xs)) j (len xs)=j;rw[len_eq,ble_eq,fj (decide_eq_true (Nat.le_of_lt lj))]
 show okQ ((a.f K n τ h).bind fun r h=>r.toW fun w=>Bf K n none τ h fun l h=>Bf K n (some hi) τ h fun u h=>h.at w fun _ o=>
  O.rec (fun xs=>ifB (ifB (Nat.beq (sIx (len xs) 0 l) 0) (Nat.beq (sIx (len xs) (len xs) u) (len xs)) false) .no (ofW (.alloc h (.tup (tak (drp xs (sIx (len xs) 0 l)) (sIx (len xs) (len xs) u - sIx (len xs) 0 l)))))) (fun xs=>ofW (.alloc h (.lst (tak (drp xs (sIx (len xs) 0 l)) (sIx (len xs) (len xs) u - sIx (len xs) 0 l))))) (fun _ _=>.no) (fun _=>.no) (fun _=>.no) (fun _=>.no) o) (aW Q)
 rw[e1]
 show okQ ((hi.f K n τ h1).bind fun r h=>r.toW fun w=>w.onI fun u=>h.at (.ref p) fun _ o=>
  O.rec (fun xs=>ifB (ifB (Nat.beq (sIx (len xs) 0 none) 0) (Nat.beq (sIx (len xs) (len xs) (some u)) (len xs)) false) .no (ofW (.alloc h (.tup (tak (drp xs (sIx (len xs) 0 none)) (sIx (len xs) (len xs) (some u) - sIx (len xs) 0 none)))))) (fun xs=>ofW (.alloc h (.lst (tak (drp xs (sIx (len xs) 0 none)) (sIx (len xs) (len xs) (some u) - sIx (len xs) 0 none))))) (fun _ _=>.no) (fun _=>.no) (fun _=>.no) (fun _=>.no) o) (aW Q)
 rw[e2];show okQ (h3.at (.ref p) fun _ o=>O.rec (fun xs=>ifB (ifB (Nat.beq (sIx (len xs) 0 none) 0) (Nat.beq (sIx (len xs) (len xs) (some (Int.ofNat j))) (len xs)) false) .no (ofW (.alloc h3 (.tup (tak (drp xs (sIx (len xs) 0 none)) (sIx (len xs) (len xs) (some (Int.ofNat j)) - sIx (len xs) 0 none)))))) (fun xs=>ofW (.alloc h3 (.lst (tak (drp xs (sIx (len xs) 0 none)) (sIx (len xs) (len xs) (some (Int.ofNat j)) - sIx (len xs) 0 none))))) (fun _ _=>.no) (fun _=>.no) (fun _=>.no) (fun _=>.no) o) (aW Q);rw[lY g];show okQ (ifB (ifB (Nat.beq 0 0) (Nat.beq (sIx (len xs) (len xs) (some (Int.ofNat j))) (len xs)) false) .no (ofW (.alloc h3 (.tup (tak (drp xs 0) (sIx (len xs) (len xs) (some (Int.ofNat j)) - 0)))))) (aW Q);rw[si]
 have nb:Nat.beq j (len xs)=false:=by rw[len_eq];cases z:Nat.beq j xs.length with
  | false=>rfl
  | true=>have:=Nat.eq_of_beq_eq_true z;omega
 show okQ (ifB (Nat.beq j (len xs)) .no (ofW (.alloc h3 (.tup (tak (drp xs 0) (j - 0)))))) (aW Q);rw[nb];show Q (.ref h3.n) (h3.push (.tup (tak (drp xs 0) (j - 0))));rw[J6,J0,List.drop_zero,Nat.sub_zero];exact q
noncomputable abbrev D3(t:Int × Int × Int):D:=.tup [.int t.1,.int t.2.1,.int t.2.2]
theorem V9{t:Int × Int × Int}{w:W}:Rd h A (D3 t) w ↔ ∃ p,w= .ref p/\p<h.n/\A p/\h.get p=some (.tup [.int t.1,.int t.2.1,.int t.2.2]):=by
 have e:[D.int t.1,D.int t.2.1,D.int t.2.2] = [t.1,t.2.1,t.2.2].map D.int:=rfl;simp only[D3,Rd,e,Rds.ints]
 constructor
 · rintro⟨p,ws,e,l,a,g,rfl⟩;exact⟨p,e,l,a,g⟩
 · rintro⟨p,e,l,a,g⟩;exact⟨p,_,e,l,a,g,rfl⟩
theorem K3{i j k:Nat}{e:X}{Q:Fl->Hs->Prop}(x:wX e K n τ h fun w h1=>∃ p u v z,w= .ref p/\h1.get p=some (.tup [u,v,z])/\Q (.nx (setAt (setAt (setAt τ (some u) i) (some v) j) (some z) k)) h1):w1 (.asg (.tup [.nm i,.nm j,.nm k]) e) K n τ h Q:=by
 obtain⟨w,h1,e1,p,u,v,z,rfl,g,q⟩:=j0 x;show okQ ((e.f K n τ h).bind fun r h=>r.toW fun w=>Opt (bx h 9 (.tup [.nm i,.nm j,.nm k]) w τ) fun τ=>.ok (.fl (.nx τ)) h) (aF Q);rw[e1]
 have eb:bx h1 9 (.tup [.nm i,.nm j,.nm k]) (.ref p) τ=some (setAt (setAt (setAt τ (some u) i) (some v) j) (some z) k):=by
  show Option.rec (motive:=fun _=>Option Sg) _ _ (h1.get p)=_;rw[g];rfl
 show okQ (Opt (bx h1 9 (.tup [.nm i,.nm j,.nm k]) (.ref p) τ) fun τ=>.ok (.fl (.nx τ)) h1) (aF Q);rw[eb];exact q
theorem Yw{nt:Nat}{idx:List Nat}{it:I}{t:Tg}{c e:X}{Q:W->Hs->Prop}(x:wI it K n τ h fun v h1=>Ext h h1/\∃(ws:List W) (ds:List (Bool × D)),(∀ h2,Ext h1 h2->Its v ws h2)/\ws.length=ds.length/\ws.length<=16777215/\ws.length<n/\
 (∀(i:Nat) w b d h2 m,ws[i]? =some w->ds[i]? =some (b,d)->n<=m+ws.length->Ext h1 h2->h1.n<h2.n->∃ τ1,bx h2 9 t w (lN nt idx τ)=some τ1/\wX c K m τ1 h2 (fun u h3=>u= .bl b/\Ext h2 h3/\(b=true->wX e K m τ1 h3 fun w' h4=>Ext h3 h4/\Ev.Rd h4 (fun p=>h2.n<=p) d w')))/\
 ∀ us h3,Ext h1 h3->h1.n<h3.n->h3.get h1.n=some (.lst us)->Rds h3 (fun p=>h1.n<=p/\p ≠ h1.n) ((ds.filter fun x=>x.1).map fun x=>x.2) us->Q (.ref h1.n) h3):wX (.comp nt idx it t (some c) none e) K n τ h Q:=by
 refine Fp ?_;refine sZ x fun a h1 z=>?_
 cases a with
 | iv v=>
   obtain⟨x1,ws,ds,its,le,l1,l2,turn,fin⟩:=z;refine⟨ws,fun i acc h2=>Ext h1 h2/\h1.n<h2.n/\h2.get h1.n=some (.lst acc)/\acc.length<=i/\Rds h2 (fun p=>h1.n<=p/\p ≠ h1.n) (((ds.take i).filter fun x=>x.1).map fun x=>x.2) acc,fun i acc h2 j=>⟨its h2 j.1,j.2.2.1,j.2.2.2.1⟩,l1,l2,⟨.push,cu,aZ,aA _,by simp[Rds]⟩,?_,?_⟩
   · rintro i w acc h2 m ei lm ⟨j1,j2,j3,j4,j5⟩;have li:i<ws.length:=(bu ei).1;have ed:ds[i]? =some ((ds[i]'(by omega)).1,(ds[i]'(by omega)).2):=List.getElem?_eq_getElem (by omega);obtain⟨τ1,eb,y⟩:=turn i w _ _ h2 m ei ed lm j1 j2;refine⟨τ1,eb,?_⟩;refine vG y fun u h3 ⟨y0,y1,y2⟩=>?_;subst y0
     have tk:((ds.take (i+1)).filter fun x=>x.1).map (fun x=>x.2)=(((ds.take i).filter fun x=>x.1).map fun x=>x.2)++if(ds[i]'(by omega)).1 then [(ds[i]'(by omega)).2] else []:=by
      rw[List.take_add_one,ed,List.filter_append,List.map_append];congr 1
      cases hb:(ds[i]'(by omega)).1 <;> simp[hb]
     cases hp:(ds[i]'(by omega)).1 with
     | false=>
       rw[hp]at tk
       exact⟨j1.trans y1,bH j2 y1.1,y1.get j2 j3,by omega,by rw[tk];simpa using j5.ext y1⟩
     | true=>
       rw[hp]at tk;refine vG (y2 hp) fun w' h4 ⟨x4,r4⟩=>?_;have x24:=y1.trans x4;refine⟨x24.get j2 j3,(j1.trans x24).set (aA _),by rw[Hs.pK];exact bH j2 x24.1,by rw[Hs.get_set,if_pos rfl],by simp;omega,?_⟩;rw[tk];have z1:=(j5.ext x24).snoc (r4.imp (A':=fun p=>h1.n<=p/\p ≠ h1.n) fun p _ q=>⟨by omega,by omega⟩);exact Rds.to (by rw[Hs.pK];exact aA _) (fun k _ a=>⟨by rw[Hs.get_set,if_neg a.2],a⟩) _ _ z1
   · rintro acc h2 ⟨j1,j2,j3,j4,j5⟩;rw[le,List.take_length]at j5
     exact fin acc h2 j1 j2 j3 j5
 | _=>exact z.elim
end
noncomputable section
noncomputable def O.onC{β:Type}(o:O)(f:List Int->R β):R β:=O.rec (fun _=>.no) (fun _=>.no) (fun _ _=>.no) (fun _=>.no) (fun _=>.no) f o
noncomputable def rG(ns:List Int)(k:Int):Int:=if k<(ns.length:Int) then ns.getD k.toNat 0 else if ns.length=0 then 7919*k else ns.getD (k % (ns.length:Int)).toNat 0+104729*k
noncomputable def Xb(h:Hs)(a b:W):R W:=h.at a fun _ o=>o.onC fun ns=>b.onI fun k=>ifB (ilt (-1) k) (ifB (Nat.ble (len ns) 63) (.ok (.int (rG ns k)) h) .no) .no
noncomputable def Pr.cell:Pr:=⟨fun ws h=>h_ ws (Xb h)⟩
noncomputable def K4(s k:Int):Int:=(s*s % 2147483647*(s % 65521+3)+k*7919+131) % 2147483647
noncomputable def pQ:Int->Int->Nat->List Int->List Int
 | _,_,_,[]=>[]
 | rest,seed,i,z::ls=>if 0<rest then rest % z::pQ (rest.fdiv z) seed (i+1) ls else(K4 seed i).fdiv 61 % z::pQ rest (K4 seed i) (i+1) ls
noncomputable def jq(c:Int)(ls:List Int):List Int:=pQ (if(10:Int) ^ (18:Int).toNat<=c then c else 0) (((if c<0 then -c else c)*2654435+40503) % 2147483647) 0 ls
noncomputable def wF(ls:List Int):Bool:=List.rec true (fun z _ r=>ifB (ilt 0 z) (ifB (ilt z 1000000) r false) false) ls
noncomputable def Xc(h:Hs)(a b:W):R W:=a.onI fun c=>h.at b fun _ o=>o.onL fun xs=>Opt (lX xs) fun ls=>ifB (Nat.ble (len ls) 63) (ifB (wF ls) (.alloc h (.lst ((jq c ls).map W.int))) .no) .no
noncomputable def Pr.draw:Pr:=⟨fun ws h=>h_ ws (Xc h)⟩
end
theorem Bv:∀ {ls:List Int},wF ls=true ↔ ∀ z ∈ ls,0<z/\z<1000000
 | []=>by simp[wF]
 | z::ls=>by
   show ifB (ilt 0 z) (ifB (ilt z 1000000) (wF ls) false) false=true ↔ _;rw[cD,cD]
   by_cases a:0<z
   · by_cases b:z<1000000
     · rw[decide_eq_true a,decide_eq_true b];show wF ls=true ↔ _;rw[Bv];simp[a,b]
     · rw[decide_eq_true a,decide_eq_false b]
       constructor
       · intro x;cases x
       · intro x;exact absurd (x z (List.mem_cons_self ..)).2 b
   · rw[decide_eq_false a]
     constructor
     · intro x;cases x
     · intro x;exact absurd (x z (List.mem_cons_self ..)).1 a
theorem Bw:∀(ls:List Int) (rest seed:Int) (i:Nat),(∀ z ∈ ls,0<z)->Drawn (pQ rest seed i ls) ls
 | [],_,_,_,_=>.nil
 | z::ls,rest,seed,i,h=>by
   have z0:=h z (List.mem_cons_self ..);have hl:∀ z ∈ ls,0<z:=fun z hz=>h z (List.mem_cons_of_mem _ hz);unfold pQ
   split
   · exact .cons ⟨Int.emod_nonneg _ (by omega),Int.emod_lt_of_pos _ z0⟩ (Bw ls _ _ _ hl)
   · exact .cons ⟨Int.emod_nonneg _ (by omega),Int.emod_lt_of_pos _ z0⟩ (Bw ls _ _ _ hl)
theorem Yx(c:Int){ls:List Int}(h:∀ z ∈ ls,0<z):Drawn (jq c ls) ls:=Bw ls _ _ _ h
section
variable{Pg:List Fn}{cl:Cn}{E:XK}{d:Nat}{X:Cx}{σ:L2.St}{H:Hp}
noncomputable def aa8:Sp:=fun vs H Q _=>∃ a k:Int,vs= [.int a,.int k]/\0<=a/\a<2147483647/\Q (.int (K4 a k)) H
noncomputable def Oq:Sp:=fun vs H Q _=>∃(c:Int) (l:Addr) (ls:List Int),vs= [.int c,.ref l]/\H l=some (.lst (ls.map V.int))/\ls.length<=63/\(∀ z ∈ ls,0<z/\L2.Sml z)/\∀(r:Addr) (H':Hp),H r=none->eO H H'->H' r=some (.lst ((jq c ls).map V.int))->Q (.ref r) H'
noncomputable def Ot(K:ak):Sp:=fun vs H Q _=>∃(a:Addr) (ns:List Int) (k:Int),vs= [.ref a,.int k]/\SqL K H a (ns.map V.int)/\ns.length<=63/\0<=k/\Q (.int (rG ns k)) H
theorem oCl{ρ:List Addr}{o:O}{f:List Int->R W}{P:A->Hs->List Addr->Hp->Prop}(p:Post cl ρ H E (ofW (o.onC f)) P):∃ xs,o= .scr xs/\Post cl ρ H E (ofW (f xs)) P:=by
 cases o with
 | scr xs=>exact⟨xs,rfl,p⟩
 | _=>exact p.elim
theorem aa9{K:ak}:OpN cl .cell (fun vs H Q=>Ot K vs H Q E0):=fun E ρ h H ws vs Q s r p=>by
 obtain⟨w,v,w',v',rfl,rfl,r1,r2,p1⟩:=CJ r (show Post cl ρ H E (ofW (h_ ws (Xb h))) (VP Q) from p);obtain⟨n,o,a,rfl,rfl,e1,g1,x1,p⟩:=oAt s r1 p1;obtain⟨ns,rfl,p⟩:=oCl p;obtain⟨ob,eo⟩:=x1
 cases r2 with
 | int k=>
   obtain⟨ek,p⟩:=oIf (show Post cl ρ H E (ofW (ifB (ilt (-1) k) (ifB (Nat.ble (len ns) 63) (.ok (.int (rG ns k)) h) .no) .no)) (VP Q) from p);obtain⟨el,p⟩:=oIf p;rw[cD]at ek;rw[ble_eq,len_eq]at el;have ek:=of_decide_eq_true ek
   exact⟨a,ns,k,rfl,.inl (.inr ⟨ob,eo⟩),of_decide_eq_true el,by omega,Post.gb s (show Post cl ρ H E (.ok (.w (.int (rG ns k))) h) (VP Q) from p) (.int _)⟩
 | _=>exact p.elim
theorem Hl{ρ:List Addr}:∀ {xs:List W} {vs:List V} {ls:List Int},RWs ρ xs vs->lX xs=some ls->vs=ls.map V.int/\xs=ls.map W.int
 | [],_,ls,.nil,e=>by cases e;exact⟨rfl,rfl⟩
 | x::xs,_,ls,.cons r t,e=>by
   cases x with
   | int i=>
     have e:Option.rec (motive:=fun _=>Option (List Int)) none (fun r=>some (i::r)) (lX xs)=some ls:=e
     cases q:lX xs with
     | none=>rw[q]at e;cases e
     | some l=>
       rw[q]at e;cases e;obtain⟨a,b⟩:=Hl t q
       cases r with
       | int _=>exact⟨by rw[a];rfl,by rw[b];rfl⟩
   | _=>cases e
theorem Sim.drawn{ρ:List Addr}{h:Hs}{H':Hp}{r:Addr}{ns:List Int}(s:Sim cl ρ h H)(n:H r=Option.none)(e:eO H H')(g:H' r=some (.lst (ns.map V.int))):Sim cl (ρ ++ [r]) (h.push (.lst (ns.map W.int))) H'/\Bt cl ρ H (ρ ++ [r]) H':=by
 refine⟨(s.same e).1.adopt (s.new n) ⟨ns.map V.int,?_,g⟩,List.prefix_append _ _,fun b u q nb=>⟨fun z=>?_,fun _=>e b u q,u,e b u q⟩⟩
 · exact rw_ints _ ns
 · rcases List.mem_append.mp z with z | z
   · exact nb z
   · simp at z;rw[z,n]at q;cases q
theorem aa_:OpN cl .draw (fun vs H Q=>Oq vs H Q E0):=fun E ρ h H ws vs Q s r p=>by
 obtain⟨w,v,w',v',rfl,rfl,r1,r2,p1⟩:=CJ r (show Post cl ρ H E (ofW (h_ ws (Xc h))) (VP Q) from p)
 cases r1 with
 | int c=>
   obtain⟨n,o,a,rfl,rfl,e1,g1,x1,p⟩:=oAt s r2 (show Post cl ρ H E (ofW (h.at w' fun _ o=>o.onL fun xs=>Opt (lX xs) fun ls=>ifB (Nat.ble (len ls) 63) (ifB (wF ls) (.alloc h (.lst ((jq c ls).map W.int))) .no) .no)) (VP Q) from p1);obtain⟨xs,rfl,p2⟩:=oL p;obtain⟨ls,el,p3⟩:=nZ p2;obtain⟨k1,p4⟩:=oIf p3;obtain⟨k2,p5⟩:=oIf p4;obtain⟨us,ru,eu⟩:=x1;obtain⟨rfl,rfl⟩:=Hl ru el;rw[ble_eq,len_eq]at k1;have k2:=Bv.mp k2;refine⟨c,a,ls,rfl,eu,of_decide_eq_true k1,fun z hz=>⟨(k2 z hz).1,TQ (by have:=k2 z hz;omega) (by have:=k2 z hz;omega)⟩,fun r H' hr sm g=>?_⟩;obtain⟨s',bt⟩:=s.drawn hr sm g;obtain⟨w',e',q⟩:=(show Post cl ρ H E (.ok (.w (.ref h.n)) (h.push (.lst ((jq c ls).map W.int)))) (VP Q) from p5) _ _ bt s';cases e'
   exact q _ (.ref (by rw[<- s.len,List.getElem?_append_right (aA _),Nat.sub_self];rfl))
 | _=>exact p1.elim
theorem Xd{pr:Pr}{sp:Sp}{k:Nat}{fa:Addr}{fd:FuncData}{ps:List Str}{st:Stmt}{x:Str}{e:Expr}{es:List Expr}{y:Ev.X}{ys:List Ev.X}{p pos:Pos}(z:OpN cl pr (fun vs H Q=>sp vs H Q E0))(D:Df X.K X.mg x st ps fa fd)(F:bB X.prog X.w X.K X.mg X.base CX0 k fa fd ps sp)(hr:bD k X.A)(hg:Gl X x)(ha:PA X (e::es) (tA Pg cl E d (y::ys)))(hdb:(x==("__debug__":Str))=false:=by decide)
 (he:starEach (e::es) X.env=(false,eval e X.env)::starEach es X.env:=by rfl) (hpl:(backTo pos (starEach es X.env)).any (·.1)=false:=by rfl):
 PE X (.Call (.Name x p) (e::es) [] pos) (tE Pg cl E d (.pr pr (y::ys))):=PE.of (Cq D F hr hg ha hdb he hpl) fun σ H Q q=>by
 obtain⟨ρ,τ,h,n,s,rs,z⟩:=Ez z q;exact⟨ρ,τ,h,n,s,rs,z.mono fun a h ρ H _ _ ⟨ws,e,g⟩=>⟨ws,e,fun vs rv=>by show sp (vs ++ []) H Q E0;rw[List.append_nil];exact g vs rv⟩⟩
end
noncomputable def noL(K:ak):Bool:=K.all fun p=>match p.2.cls with
 | .type n=> !(n == "list")
 | _=>true
theorem T6{K:ak}{H:Hp}{a:Addr}{xs:List V}(hO:∀ u,H a=some u->∃ o xs,u= .frz o (.lst xs))(hS:SqL K H a xs)(hl:noL K=true):∃ o,H a=some (.frz o (.lst xs)):=by
 rcases hS with (e | ⟨o,e⟩) | ⟨o,its,n,e,c,_⟩
 · obtain⟨o,xs,z⟩:=hO _ e;cases z
 · exact⟨o,e⟩
 · have m:(a,o) ∈ K:=by
    clear hl
    induction K with
    | nil=>cases e
    | cons p K ih=>
      obtain⟨b,ob⟩:=p;rw[List.lookup_cons]at e
      by_cases z:a==b
      · rw[z]at e;cases e;rw[eq_of_beq z];exact List.mem_cons_self ..
      · have z':(a==b)=false:=by simpa using z
        rw[z']at e;exact List.mem_cons_of_mem _ (ih e)
   have z:=List.all_eq_true.mp hl _ m;simp[c]at z
noncomputable def Bx(ns:List Int):Hs:=(Hs.mk 0 .lf).push (.scr ns)
section
variable{K:Ks}{n:Nat}{τ:Sg}{h:Hs}{Q:W->Hs->Prop}{p:Nat}
theorem aba{ns:List Int}{k:Int}(e:h.get p=some (.scr ns))(l:ns.length<=63)(k0:0<=k)(z:Q (.int (rG ns k)) h):wP .cell [.ref p,.int k] h Q:=by
 show okQ (h.at (.ref p) fun _ o=>o.onC fun ns=>ifB (ilt (-1) k) (ifB (Nat.ble (len ns) 63) (.ok (.int (rG ns k)) h) .no) .no) Q;rw[lY e];show okQ (ifB (ilt (-1) k) (ifB (Nat.ble (len ns) 63) (.ok (.int (rG ns k)) h) .no) .no) Q;rw[cD,decide_eq_true (show -1<k by omega),ble_eq,len_eq,decide_eq_true l];exact z
theorem abb{ls:List Int}{c:Int}(e:h.get p=some (.lst (ls.map W.int)))(l:ls.length<=63)(z0:∀ z ∈ ls,0<z/\z<1000000)(z:Drawn (jq c ls) ls->Q (.ref h.n) (h.push (.lst ((jq c ls).map W.int)))):wP .draw [.int c,.ref p] h Q:=by
 show okQ (h.at (.ref p) fun _ o=>o.onL fun xs=>Opt (lX xs) fun ls=>ifB (Nat.ble (len ls) 63) (ifB (wF ls) (.alloc h (.lst ((jq c ls).map W.int))) .no) .no) Q;rw[lY e];show okQ (Opt (lX (ls.map W.int)) fun ls=>ifB (Nat.ble (len ls) 63) (ifB (wF ls) (.alloc h (.lst ((jq c ls).map W.int))) .no) .no) Q;rw[Hg];show okQ (ifB (Nat.ble (len ls) 63) (ifB (wF ls) (.alloc h (.lst ((jq c ls).map W.int))) .no) .no) Q;rw[ble_eq,len_eq,decide_eq_true l,Bv.mpr z0];exact z (Yx c fun z hz=>(z0 z hz).1)
end
noncomputable section
noncomputable def shW(n:Nat)(w:W):W:=W.rec .non .bl .int .str (fun k=>.ref (n+k)) w
noncomputable def shO(n:Nat)(o:O):O:=O.rec (fun xs=>.tup (xs.map (shW n))) (fun xs=>.lst (xs.map (shW n))) (fun C fs=>.ins C (fs.map fun p=>(p.1,shW n p.2))) (fun kvs=>.dk (kvs.map fun p=>(p.1,shW n p.2))) (fun kvs=>.dt (kvs.map fun p=>(p.1,shW n p.2))) (fun ns=>.scr ns) o
noncomputable def yH(h g:Hs):Nat->Hs
 | 0=>h
 | m+1=>(yH h g m).push (shO h.n ((g.get m).getD (.lst [])))
noncomputable def Hs.cat(h g:Hs):Hs:=yH h g g.n
noncomputable def tD(ws:List W):Bool:=List.rec true (fun w _ r=>W.elim w r (fun _=>r) (fun _=>r) (fun _=>r) (fun _=>false)) ws
noncomputable def X.iso(N f:Nat)(es:List X):X:=⟨fun K n τ h=>(goA es K n τ h).bind fun r h=>r.toL fun ws=>ifB (tD ws) ((bJ f ws K N (.mk 0 .lf)).nox.bind fun r g=>r.toW fun w=>.ok (.w (shW h.n w)) (h.cat g)) .no⟩
end
theorem yI{h g:Hs}:∀ m,(yH h g m).n=h.n+m
 | 0=>rfl
 | m+1=>by rw[yH,Hs.pJ,yI m];omega
theorem K5{h g:Hs}{k:Nat}(l:k<h.n):∀ m,(yH h g m).get k=h.get k
 | 0=>rfl
 | m+1=>by rw[yH,Hs.mK,if_neg (by rw[yI];omega),K5 l m]
theorem K6{h g:Hs}{k:Nat}:∀ m,k<m->(yH h g m).get (h.n+k)=some (shO h.n ((g.get k).getD (.lst [])))
 | 0,l=>absurd l (by omega)
 | m+1,l=>by
   rw[yH,Hs.mK]
   by_cases e:k=m
   · subst e;rw[if_pos (by rw[yI])]
   · rw[if_neg (by rw[yI];omega)];exact K6 m (by omega)
theorem Dd{h g:Hs}:(h.cat g).n=h.n+g.n:=yI g.n
theorem Fx{h g:Hs}:Ext h (h.cat g):=⟨by rw[Dd];omega,fun k l=>K5 l g.n⟩
theorem Fy{h g:Hs}{k:Nat}{o:O}(l:k<g.n)(e:g.get k=some o):(h.cat g).get (h.n+k)=some (shO h.n o):=by
 have:=K6 (h:=h) (g:=g) g.n l;rw[e]at this;exact this
section
variable{Pg:List Fn}{cl:Cn}{E:XK}{d:Nat}{X:Cx}{σ:L2.St}{H:Hp}
theorem RW.sh{ρ ρ':List Addr}{w:W}{v:V}(r:RW ρ' w v):RW (ρ++ρ') (shW ρ.length w) v:=by
 cases r with
 | non=>exact .non
 | bl _=>exact .bl _
 | int _=>exact .int _
 | str _=>exact .str _
 | ref q=>exact .ref (by rw[List.getElem?_append_right (by omega),Nat.add_sub_cancel_left];exact q)
theorem RWs.sh{ρ ρ':List Addr}:∀ {ws:List W} {vs:List V},RWs ρ' ws vs->RWs (ρ++ρ') (ws.map (shW ρ.length)) vs
 | _,_,.nil=>.nil
 | _,_,.cons r t=>.cons r.sh (RWs.sh t)
theorem FR.sh{ρ ρ':List Addr}:∀ {fs:Fs} {gs:List (Str × V)},FR ρ' fs gs->FR (ρ++ρ') (fs.map fun p=>(p.1,shW ρ.length p.2)) gs
 | _,_,.nil=>.nil
 | _,_,.cons r t=>.cons ⟨r.1,r.2.sh⟩ (FR.sh t)
theorem OA.sh{ρ ρ':List Addr}{a:Addr}{o:O}(x:OA cl ρ' H a o):OA cl (ρ++ρ') H a (shO ρ.length o):=by
 cases o with
 | tup xs=>obtain⟨vs,r,q⟩:=x;exact⟨vs,r.sh,q⟩
 | lst xs=>obtain⟨vs,r,q⟩:=x;exact⟨vs,r.sh,q⟩
 | ins C fs=>obtain⟨dx,gs,r,q⟩:=x;exact⟨dx,gs,r.sh,q⟩
 | dk kvs=>
   obtain⟨gs,r,q⟩:=x;refine⟨gs,?_,q⟩;clear q
   induction r with
   | nil=>exact .nil
   | cons a _ ih=>exact .cons ⟨a.1,a.2.sh⟩ ih
 | dt kvs=>
   obtain⟨gs,r,q⟩:=x;refine⟨gs,?_,q⟩;clear q
   induction r with
   | nil=>exact .nil
   | cons a _ ih=>exact .cons ⟨a.1,a.2.sh⟩ ih
 | scr ns=>exact x
theorem Sim.cat{ρ ρ':List Addr}{h g:Hs}{H':Hp}(s:Sim cl ρ h H)(b:Bt cl [] H ρ' H')(s':Sim cl ρ' g H'):Sim cl (ρ++ρ') (h.cat g) H'/\Bt cl ρ H (ρ++ρ') H':=by
 have dj:∀ a ∈ ρ,a ∉ ρ':=fun a ha=>by
  obtain⟨u,hu⟩:=s.som ha;exact(b.2 a u hu (by simp)).1
 refine⟨⟨by rw[List.length_append,Dd,s.len,s'.len],List.nodup_append.mpr ⟨s.nd,s'.nd,fun a ha c hc z=>dj a ha (by rw[z];exact hc)⟩,fun n a hn=>?_,s'.tb⟩,List.prefix_append _ _,fun c u q nc=>?_⟩
 · by_cases l:n<ρ.length
   · rw[List.getElem?_append_left l]at hn;obtain⟨o,e,x⟩:=s.obj n a hn;refine⟨o,Fx.get (by rw[<- s.len];exact l) e,x.keep (List.prefix_append _ _) ?_⟩;obtain⟨u,hu⟩:=x.som;have p:=x.pl;rw[hu]at p;exact((b.2 a u hu (by simp)).2.1 (Oe s.tb hu fun ps z=>by rw[z]at p;exact p)).trans hu.symm
   · rw[List.getElem?_append_right (by omega)]at hn;obtain⟨o,e,x⟩:=s'.obj _ a hn;have lt:=(bu hn).1;refine⟨shO h.n o,?_,?_⟩
     · have:=Fy (h:=h) (by rw[<- s'.len];exact lt) e;rw[<- s.len]at this ⊢;rw[show ρ.length+(n - ρ.length)=n by omega]at this;exact this
     · rw[<- s.len];exact x.sh
 · obtain⟨a1,a2,a3⟩:=b.2 c u q (by simp);exact⟨fun z=>(List.mem_append.mp z).elim nc a1,a2,a3⟩
theorem tH{ρ:List Addr}:∀ {ws:List W} {vs:List V},tD ws=true->RWs ρ ws vs->RWs [] ws vs
 | [],_,_,.nil=>.nil
 | w::ws,_,f,.cons r t=>by
   cases r with
   | non=>exact .cons .non (tH (ws:=ws) f t)
   | bl _=>exact .cons (.bl _) (tH (ws:=ws) f t)
   | int _=>exact .cons (.int _) (tH (ws:=ws) f t)
   | str _=>exact .cons (.str _) (tH (ws:=ws) f t)
   | ref _=>cases f
theorem abd{N f:Nat}{as:List Ev.X}{Q:VK}(x:tE Pg cl E d (.iso N f as) σ H Q):zE (spF Pg cl d f) [] E (tA Pg cl E d as) σ H Q:=by
 obtain⟨ρ,τ,h,n,s,rs,q⟩:=x.step;refine ev.then s rs (show Post cl ρ H E ((evs Pg n d (.a as) τ h).bind fun a h=>a.toL fun ws=>ifB (tD ws) ((bJ f ws (a_ Pg d) N (.mk 0 .lf)).nox.bind fun r g=>r.toW fun w=>.ok (.w (shW h.n w)) (h.cat g)) .no) (VP Q) from q) fun a1 h1 ρ1 H1 b1 s1 p1=>?_;obtain⟨ws,rfl,p2⟩:=mL p1;obtain⟨fl,p3⟩:=f9 p2;refine⟨ws,rfl,fun vs rv=>⟨[],ws,.mk 0 .lf,N,Sim.none s1.tb,by rw[List.append_nil];exact tH fl rv,?_⟩⟩;show Post cl [] H1 E (bJ f ws (a_ Pg d) N (.mk 0 .lf)) (VP Q);generalize bJ f ws (a_ Pg d) N (.mk 0 .lf)=r at p3
 cases r with
 | ok a g=>
   obtain⟨w,rfl,p4⟩:=bR (show Post cl ρ1 H1 E (a.toW fun w=>.ok (.w (shW h1.n w)) (h1.cat g)) (VP Q) from p3);intro ρ2 H2 b2 s2;obtain⟨s3,b3⟩:=s1.cat b2 s2;obtain⟨w',e',z⟩:=p4 _ _ b3 s3;cases e';refine⟨w,rfl,fun v r2=>z v ?_⟩;have:=r2.sh (ρ:=ρ1);rw[s1.len]at this
   exact this
 | ex C fs g=>exact p3.elim
 | no=>exact p3.elim
theorem T7{N k k' f:Nat}{fa:Addr}{fd:FuncData}{ps:List Str}{x:Str}{st:Stmt}{e:Expr}{es:List Expr}{y:Ev.X}{ys:List Ev.X}{p pos:Pos}(F:bB X.prog X.w X.K X.mg X.base (CXE X.prog X.w) k fa fd ps (spF Pg cl d f))(D:Df X.K X.mg x st ps fa fd)(hr:bD k' X.A)
 (hx:Passes (CXE X.prog X.w) X E) (ha:PA X (e::es) (tA Pg cl E d (y::ys))) (hk:k<=k':=by omega) (hg:Gl X x:=by rfl) (hdb:(x==("__debug__":Str))=false:=by decide) (he:starEach (e::es) X.env=(false,eval e X.env)::starEach es X.env:=by rfl) (hpl:(backTo pos (starEach es X.env)).any (·.1)=false:=by rfl):
 PE X (.Call (.Name x p) (e::es) [] pos) (tE Pg cl E d (.iso N f (y::ys))):=PE.of (vf F (hr.mono hk) hg D.mg D.fn.kp D.bd .nil hx ha hdb he hpl) fun _ _ _ q=>abd q
end
section
variable{K:Ks}{n:Nat}{τ:Sg}{h:Hs}{Q:W->Hs->Prop}
theorem acD{N f:Nat}{es:List X}{ws:List W}{w:W}{g:Hs}(fl:tD ws=true)(run:bJ f ws K N (.mk 0 .lf)= .ok (.w w) g)(x:wA es K n τ h fun us h1=>us=ws/\Q (shW h1.n w) (h1.cat g)):wX (.iso N f es) K n τ h Q:=by
 obtain⟨us,h1,e,rfl,q⟩:=QZ x;show okQ ((goA es K n τ h).bind fun r h=>r.toL fun ws=>ifB (tD ws) ((bJ f ws K N (.mk 0 .lf)).nox.bind fun r g=>r.toW fun w=>.ok (.w (shW h.n w)) (h.cat g)) .no) (aW Q);rw[e];show okQ (ifB (tD us) ((bJ f us K N (.mk 0 .lf)).nox.bind fun r g=>r.toW fun w=>.ok (.w (shW h1.n w)) (h1.cat g)) .no) (aW Q);rw[fl,run];exact q
end
noncomputable section
noncomputable def qT(f:W->Option D)(xs:List W):Option (List D):=List.rec (some []) (fun x _ r=>Option.rec none (fun d=>Option.rec none (fun ds=>some (d::ds)) r) (f x)) xs
noncomputable def rdD(g:Hs)(n:Nat):W->Option D:=Nat.rec (fun _=>none) (fun _ ih w=>W.elim w (some .non) (fun b=>some (.bl b)) (fun i=>some (.int i)) (fun c=>some (.str c)) fun k=>
 ifB (Nat.ble (k+1) g.n) (Option.rec none (fun o=>O.rec (fun xs=>Option.rec none (fun ds=>some (.tup ds)) (qT ih xs)) (fun xs=>Option.rec none (fun ds=>some (.lst ds)) (qT ih xs)) (fun _ _=>none) (fun _=>none) (fun _=>none) (fun _=>none) o) (g.get k)) none) n
end
theorem Fz{h g:Hs}{f:W->Option D}(hf:∀ w d,f w=some d->Rd (h.cat g) (fun p=>h.n<=p) d (shW h.n w)):∀(xs:List W) (ds:List D),qT f xs=some ds->Rds (h.cat g) (fun p=>h.n<=p) ds (xs.map (shW h.n))
 | [],ds,e=>by cases e;simp[Rds]
 | x::xs,ds,e=>by
   have e:Option.rec (motive:=fun _=>Option (List D)) none (fun d=>Option.rec (motive:=fun _=>Option (List D)) none (fun ds=>some (d::ds)) (qT f xs)) (f x)=some ds:=e
   cases e1:f x with
   | none=>rw[e1]at e;cases e
   | some d=>
     rw[e1]at e;have e:Option.rec (motive:=fun _=>Option (List D)) none (fun ds=>some (d::ds)) (qT f xs)=some ds:=e
     cases e2:qT f xs with
     | none=>rw[e2]at e;cases e
     | some ds'=>
       rw[e2]at e;cases e;simp only[List.map_cons,Rds];exact⟨_,_,rfl,hf x d e1,Fz hf xs ds' e2⟩
theorem De{h g:Hs}:∀(n:Nat) (w:W) (d:D),rdD g n w=some d->Rd (h.cat g) (fun p=>h.n<=p) d (shW h.n w)
 | 0,w,d,e=>by cases e
 | n+1,w,d,e=>by
   cases w with
   | non=>cases e;simp[Rd,shW]
   | bl b=>cases e;simp[Rd,shW]
   | int i=>cases e;simp[Rd,shW]
   | str c=>cases e;simp[Rd,shW]
   | ref k=>
     have e:ifB (Nat.ble (k+1) g.n) (Option.rec (motive:=fun _=>Option D) none (fun o=>O.rec (motive:=fun _=>Option D) (fun xs=>Option.rec (motive:=fun _=>Option D) none (fun ds=>some (.tup ds)) (qT (rdD g n) xs)) (fun xs=>Option.rec (motive:=fun _=>Option D) none (fun ds=>some (.lst ds)) (qT (rdD g n) xs)) (fun _ _=>none) (fun _=>none) (fun _=>none) (fun _=>none) o) (g.get k)) none=some d:=e;rw[ble_eq]at e
     by_cases l:k+1<=g.n
     · rw[decide_eq_true l]at e
       cases eo:g.get k with
       | none=>rw[eo]at e;cases e
       | some o=>
         rw[eo]at e;have gc:=Fy (h:=h) l eo
         cases o with
         | tup xs=>
           have e:Option.rec (motive:=fun _=>Option D) none (fun ds=>some (.tup ds)) (qT (rdD g n) xs)=some d:=e
           cases e2:qT (rdD g n) xs with
           | none=>rw[e2]at e;cases e
           | some ds=>
             rw[e2]at e;cases e;simp only[Rd]
             exact⟨h.n+k,_,rfl,by rw[Dd];omega,by omega,gc,Fz (De n) xs ds e2⟩
         | lst xs=>
           have e:Option.rec (motive:=fun _=>Option D) none (fun ds=>some (.lst ds)) (qT (rdD g n) xs)=some d:=e
           cases e2:qT (rdD g n) xs with
           | none=>rw[e2]at e;cases e
           | some ds=>
             rw[e2]at e;cases e;simp only[Rd]
             exact⟨h.n+k,_,rfl,by rw[Dd];omega,by omega,gc,Fz (De n) xs ds e2⟩
         | _=>cases e
     · rw[decide_eq_false l]at e;cases e
noncomputable def Q0(r:R A):Option D:=match r with
 | .ok (.w w) g=>rdD g 12 w
 | _=>none
theorem T8{K:Ks}{n:Nat}{τ:Sg}{h:Hs}{Q:W->Hs->Prop}{N f:Nat}{es:List X}{ws:List W}{d:D}(fl:tD ws=true)(run:Q0 (bJ f ws K N (.mk 0 .lf))=some d)(x:wA es K n τ h fun us h1=>us=ws/\∀ w h2,Ext h1 h2->Rd h2 (fun p=>h1.n<=p) d w->Q w h2):wX (.iso N f es) K n τ h Q:=by
 unfold Q0 at run
 split at run
 · rename_i w g e;refine acD fl e (sZ x fun a h1 z=>?_)
   cases a with
   | ws us=>exact⟨z.1,z.2 _ _ Fx (De 12 w d run)⟩
   | _=>exact z.elim
 · cases run
noncomputable section
noncomputable def acE(o:Option W):Option W:=Option.rec none (fun w=>W.elim w (some w) (fun _=>some w) (fun _=>some w) (fun _=>some w) (fun _=>none)) o
noncomputable def abe(k:Nat)(idx:List Nat):Bool:=List.rec false (fun i _ r=>ifB (Nat.beq i k) true r) idx
noncomputable def ur(idx:List Nat)(τ:Sg):Nat->Sg:=List.rec (fun _=>[]) (fun o _ ih k=>ifB (abe k idx) (acE o) none::ih (Nat.succ k)) τ
noncomputable def X.K7(N:Nat)(idx:List Nat)(e:X):X:=⟨fun K n τ h=>(e.f K N (ur idx τ 0) (.mk 0 .lf)).nox.bind fun r g=>r.toW fun w=>.ok (.w (shW h.n w)) (h.cat g)⟩
end
section
variable{Pg:List Fn}{cl:Cn}{E:XK}{d:Nat}{X:Cx}{σ:L2.St}{H:Hp}
theorem Ou{ρ:List Addr}{idx:List Nat}:∀ {τ:Sg} {σ:L2.St} (k:Nat),RS ρ τ σ->RS [] (ur idx τ k) σ
 | [],_,k,.nil=>.nil
 | o::τ,v::σ,k,.cons r t=>by
   refine .cons ?_ (Ou (k+1) t)
   cases abe k idx with
   | false=>cases v <;> trivial
   | true=>
     cases o with
     | none=>cases v <;> trivial
     | some w=>cases v with
       | none=>exact(r:False).elim
       | some v=>
         have r:RW ρ w v:=r
         cases r with
         | non=>exact .non
         | bl _=>exact .bl _
         | int _=>exact .int _
         | str _=>exact .str _
         | ref _=>trivial
theorem Yy{N:Nat}{idx:List Nat}{a:Ev.X}{Q:VK}(x:tE Pg cl E d (.K7 N idx a) σ H Q):tE Pg cl E d a σ H Q:=by
 obtain⟨ρ,τ,h,n,s,rs,q⟩:=x.step;refine⟨[],ur idx τ 0,.mk 0 .lf,N,Sim.none s.tb,Ou 0 rs,?_⟩;have q:Post cl ρ H E ((a.f (a_ Pg d) N (ur idx τ 0) (.mk 0 .lf)).nox.bind fun r g=>r.toW fun w=>.ok (.w (shW h.n w)) (h.cat g)) (VP Q):=q;show Post cl [] H E (a.f (a_ Pg d) N (ur idx τ 0) (.mk 0 .lf)) (VP Q);generalize a.f (a_ Pg d) N (ur idx τ 0) (.mk 0 .lf)=r at q
 cases r with
 | ok a g=>
   obtain⟨w,rfl,p4⟩:=bR (show Post cl ρ H E (a.toW fun w=>.ok (.w (shW h.n w)) (h.cat g)) (VP Q) from q);intro ρ2 H2 b2 s2;obtain⟨s3,b3⟩:=s.cat b2 s2;obtain⟨w',e',z⟩:=p4 _ _ b3 s3;cases e';refine⟨w,rfl,fun v r2=>z v ?_⟩;have:=r2.sh (ρ:=ρ);rw[s.len]at this
   exact this
 | ex C fs g=>exact q.elim
 | no=>exact q.elim
theorem Yz{N:Nat}{idx:List Nat}{e:Expr}{y:Ev.X}(h:PE X e (tE Pg cl E d y)):PE X e (tE Pg cl E d (.K7 N idx y)):=PE.of h fun _ _ _ q=>Yy q
end
section
variable{K:Ks}{n:Nat}{τ:Sg}{h:Hs}{Q:W->Hs->Prop}
theorem abf{N:Nat}{idx:List Nat}{e:X}{w:W}{g:Hs}(run:e.f K N (ur idx τ 0) (.mk 0 .lf)= .ok (.w w) g)(q:Q (shW h.n w) (h.cat g)):wX (.K7 N idx e) K n τ h Q:=by
 show okQ ((e.f K N (ur idx τ 0) (.mk 0 .lf)).nox.bind fun r g=>r.toW fun w=>.ok (.w (shW h.n w)) (h.cat g)) (aW Q);rw[run];exact q
end
section
variable{Pg:List Fn}{cl:Cn}{d:Nat}
theorem abg{P:Program}{w:World}{K:ak}{mg:Str->Option Value}{base:Heap}{k i:Nat}{f:Addr}{name qual:Str}{params:Arguments}{body:List Stmt}{scope:Scope}{dV kV doc pm cdv ct oc:Value}{an od:Option Addr}{osl:Array (Option Value)}{N ps:List Str}{b:List S}
 (lk:K.lookup f=some ⟨oc,od,.func (PySem.W.fnOf name qual params body scope dV kV doc pm an cdv ct),osl⟩) (hcd:PySem.W.codeIn K cdv qual=true) (Sc:aD N ps scope) (hp:Pg[i]? =some (.mk ps.length N.length b))
 (hbody:∀(σ0:L2.St) (A:Around) (outer:List Env) (s:Shared) (H:Hp) (E:XK),bD k (A.deeper (envOfC qual scope s.heap.objs.size f cdv))->Passes (CXE P w) (cB (CXE P w) P w K mg base N qual scope f cdv A outer s H E) E->
   QSs (cB (CXE P w) P w K mg base N qual scope f cdv A outer s H E) body (tSs Pg cl E d σ0 b)):bB P w K mg base (CXE P w) (k+1) f (PySem.W.fnOf name qual params body scope dV kV doc pm an cdv ct) ps (spF Pg cl (d+1) i):=by
 have VG:∀ vs H Q E,spF Pg cl (d+1) i vs H Q E->vs.length=ps.length:=fun vs H Q E ⟨ρ,ws,h,n,s,r,p⟩=>by
  obtain⟨n',d',F',e1,e2,q⟩:=sV p;rw[hp]at e2;cases e2;rw[<- r.length];exact(zO q).1
 refine PJ lk hcd Sc VG fun A outer s H vs Q E hr hsp=>?_;obtain⟨ρ,ws,h,n,s1,r,p⟩:=hsp;obtain⟨n',d',F',e1,e2,q⟩:=sV p;rw[hp]at e2;cases e2;cases e1;obtain⟨_,q2⟩:=zO q;refine⟨_,(hbody (L2.start N vs) A outer s H E hr (Be ⟨rfl,rfl,rfl⟩ rfl (fun _ _ _ z=>z))).h,ρ,frame N.length ws,h,n',s1,Km r N,fun _ _=>rfl,q2.bind.mono fun a h1 ρ1 H1 b1 s2 p2=>?_⟩;obtain⟨fl,rfl,p3⟩:=yu p2;refine⟨fl,rfl,?_⟩
 cases fl with
 | nx τ=>exact fun σ' _ _=>Post.gb s2 (show Post cl ρ1 H1 E (.ok (.w .non) h1) (VP Q) from p3) .non
 | rt w=>exact fun v rv=>Post.gb s2 (show Post cl ρ1 H1 E (.ok (.w w) h1) (VP Q) from p3) rv
 | bk τ=>exact p3.elim
 | ct τ=>exact p3.elim
end
theorem YB{K:ak}{H:Hp}{a T:Addr}{xs:List V}(hO:zQ T H)(hS:SqL K H a xs)(hl:noL K=true):∃ o,H a=some (.frz o (.lst xs)):=by
 by_cases e:a=T
 · subst e
   rcases hS with (e | ⟨o,e⟩) | h
   · rw[hO.1]at e;cases e
   · exact⟨o,e⟩
   · exact T6 (H:=fun _=>none) (fun u z=>by cases z) (.inr h) hl |>.elim fun o z=>by cases z
 · exact T6 (fun u z=>(hO.2 a e).elim (fun z'=>by rw[z']at z;cases z) fun⟨o,ys,z'⟩=>⟨o,ys,Option.some.inj (z.symm.trans z')⟩) hS hl
noncomputable def vJ(T:Addr):Sp:=fun vs H Q _=>∃(a:Addr) (ns:List Int),vs= [.ref a]/\zQ T H/\(∃ o,H a=some (.frz o (.lst (ns.map V.int))))/\ns.length<=63/\∀ H',Q (.bl true) H'
theorem YC{Pg:List Fn}{cl:Cn}{D i n:Nat}{T:Addr}(eT:cl.P=T)(run:∀ ns:List Int,ns.length<=63->wC i [.ref 0] (a_ Pg D) n (Bx ns) fun w _=>w= .bl true):∀ vs H Q E,vJ T vs H Q E->spF Pg cl D i vs H Q E:=by
 rintro vs H Q E ⟨a,ns,rfl,hO,⟨o,e⟩,l,q⟩;obtain⟨w,h',z,rfl⟩:=aci (run ns l);refine⟨[a],[.ref 0],Bx ns,n,(Sim.none (Yk hO eT)).adopt (o:=.scr ns) (by simp) ⟨o,e⟩,.cons (.ref rfl) .nil,?_⟩;show Post cl [a] H E (bJ i [.ref 0] (a_ Pg D) n (Bx ns)) (VP Q);rw[z];exact fun ρ' H' _ _=>⟨_,rfl,fun v rv=>by cases rv;exact q H'⟩
theorem abh{l:PySem.W.OpenLaw}{q:Program}{loose:List Str}{XP:(Str->Option Value)->Heap->Prop}{YP:World->Heap->Prop}{d:DefRec}{K:Params->ak}{tbl c:Addr}{k:Nat}(hn:l.most=some 63)(hdf:d.params.defaults= [])(hr:bD k callerA)
 (hY:∀(w:World) (h:Heap),YP w h->(K w.params).In h/\h.get? tbl=some (PySem.W.tabObj #[])) (hK:∀ P:Params,(K P).lookup tbl=none/\PySem.W.codeHdIn (K P) c tbl=true) (hL:∀ P:Params,noL (K P)=true)
 (F:∀(w:World) (mg:Str->Option Value) (fa:Addr) (h:Heap),(K w.params).In h->h.Ns mainGlobals mg->mg d.name=some (.ref fa)->
   ∃ fd:FuncData,(∀(s:Shared) (u:Value),BindsTo s fd ⟨[u],[]⟩ [("_law_script",u)])/\∀ base:Heap,(K w.params).In base->base.Ns mainGlobals mg->base.BuiltinsAt mg tbl->bB l.prog w (K w.params) mg base (CXE l.prog w) k fa fd ["_law_script"] (vJ tbl)):
 PySem.W.WalkO q loose XP YP l.row.toRowW d [] (fun f vs=>PySem.call f vs):=
 ace (n:=63) (k:=k) (x:="_law_script") (CX:=fun w=>CXE l.prog w) (sp:=fun _=>vJ tbl) hn (by decide) hdf hr hY hK F (fun w H a ns hl hO hS=>⟨a,ns,rfl,hO,YB hO hS (hL w.params),hl,fun _=>rfl⟩) fun _ _ _ _ _ z=>v5 z
end Ev
namespace Ev
theorem keq_eq:∀ {a b:W},keq a b=true->a=b:=by
 intro a b h
 cases a with
 | int i=>cases b with
   | int j=>
     have h:ieq i j=true:=h;rw[jn]at h
     simp at h;rw[h]
   | _=>cases h
 | str x=>cases b with
   | str y=>
     have h:codes x y=true:=h
     rw[cG.mp h]
   | _=>cases h
 | _=>cases h
theorem V_{a:W}(h:mJ a=true):keq a a=true:=by
 cases a with
 | int i=>show ieq i i=true;rw[jn];simp
 | str x=>show codes x x=true;exact cG.mpr rfl
 | _=>cases h
theorem ig(p:W × W)(kvs:List (W × W))(k:W):bM (p::kvs) k=ifB (keq p.1 k) (some p.2) (bM kvs k):=rfl
theorem abi(kvs:List (W × W))(k v k':W):bM (kvs ++ [(k,v)]) k'=(bM kvs k').or (ifB (keq k k') (some v) none):=by
 induction kvs with
 | nil=>show ifB (keq k k') (some v) none=_;rfl
 | cons p kvs ih=>
   rw[List.cons_append,ig,ig,ih];cases keq p.1 k' <;> rfl
theorem Ao(k v:W):∀ kvs:List (W × W),isS (bM kvs k)=true->bM (jD kvs k v) k=some v
 | [],h=>by cases h
 | p::kvs,h=>by
   rw[ig]at h;show bM (ifB (keq p.1 k) (p.1,v) p::jD kvs k v) k=_
   cases e:keq p.1 k with
   | true=>show bM ((p.1,v)::jD kvs k v) k=_;rw[ig,e];rfl
   | false=>
     rw[e]at h;show bM (p::jD kvs k v) k=_;rw[ig,e];exact Ao k v kvs h
theorem Ho{k v k':W}(ne:k ≠ k'):∀ kvs:List (W × W),bM (jD kvs k v) k'=bM kvs k'
 | []=>rfl
 | p::kvs=>by
   show bM (ifB (keq p.1 k) (p.1,v) p::jD kvs k v) k'=_;have ih:=Ho (v:=v) ne kvs
   cases e:keq p.1 k with
   | true=>
     show bM ((p.1,v)::jD kvs k v) k'=_;have e1:=keq_eq e
     have e2:keq p.1 k'=false:=by
      cases z:keq p.1 k' with
      | false=>rfl
      | true=>exact absurd (e1.symm.trans (keq_eq z)) ne
     rw[ig,ig,e2,ih];rfl
   | false=>show bM (p::jD kvs k v) k'=_;rw[ig,ig,ih]
theorem K8{kvs:List (W × W)}{k v k':W}(hk:mJ k=true):bM (dY kvs k v) k'=if k=k' then some v else bM kvs k':=by
 unfold dY
 cases e:isS (bM kvs k) with
 | true=>
   show bM (jD kvs k v) k'=_
   by_cases z:k=k'
   · subst z;rw[if_pos rfl];exact Ao k v kvs e
   · rw[if_neg z];exact Ho z kvs
 | false=>
   show bM (app kvs [(k,v)]) k'=_;rw[kE,abi]
   by_cases z:k=k'
   · subst z;rw[if_pos rfl,V_ hk]
     cases q:bM kvs k with
     | none=>rfl
     | some w=>rw[q]at e;cases e
   · rw[if_neg z]
     have e2:keq k k'=false:=by
      cases q:keq k k' with
      | false=>rfl
      | true=>exact absurd (keq_eq q) z
     rw[e2];cases bM kvs k' <;> rfl
theorem Hq(k v:W):∀ kvs:List (W × W),(jD kvs k v).length=kvs.length
 | []=>rfl
 | p::kvs=>by show(_::jD kvs k v).length=_;rw[List.length_cons,Hq k v kvs,List.length_cons]
theorem Hr(kvs:List (W × W))(k v:W):(dY kvs k v).length<=kvs.length+1:=by
 unfold dY
 cases isS (bM kvs k) with
 | true=>show(jD kvs k v).length<=_;rw[Hq];omega
 | false=>show(app kvs [(k,v)]).length<=_;rw[kE];simp
section
variable{K:Ks}{n:Nat}{τ:Sg}{h:Hs}{Q:W->Hs->Prop}
theorem zX{a b:List Nat}(oa:okC a=true)(ob:okC b=true)(z:Q (.bl (codes a b)) h):wP .eq [.str a,.str b] h Q:=by
 refine acr (d:=.str a) (d':=.str b) (A:=fun _=>True) (B:=fun _=>True) yG yG (by simp[j6]) (by simp[j6]) (by simp only[okD];exact oa) (by simp only[okD];exact ob) ?_;rw[show cR (.str a) (.str b)=codes a b by simp only[cR]];exact z
theorem oR{C:Nat}{o:X}{f:List Nat}(x:wX o K n τ h fun w h1=>∃ p fs v,w= .ref p/\h1.get p=some (.ins C fs)/\fget fs f=some v/\Q v h1):wX (.fld C o f) K n τ h Q:=by
 obtain⟨w,h1,e1,p,fs,v,rfl,g,ef,q⟩:=j0 x;show okQ ((o.f K n τ h).bind fun r h=>r.toW fun w=>h.at w fun _ o=>o.onI fun C' fs=>ifB (Nat.beq C C') (Opt (fget fs f) fun w=>.ok (.w w) h) .no) (aW Q);rw[e1];show okQ (h1.at (.ref p) fun _ o=>o.onI fun C' fs=>ifB (Nat.beq C C') (Opt (fget fs f) fun w=>.ok (.w w) h1) .no) (aW Q);rw[lY g];show okQ (ifB (Nat.beq C C) (Opt (fget fs f) fun w=>.ok (.w w) h1) .no) (aW Q);rw[ie.mpr rfl,ef];exact q
theorem gY{C:Nat}{m:List Nat}{f:Nat}{o:X}{as:List X}(x:wX o K n τ h fun w h1=>∃ p fs,w= .ref p/\h1.get p=some (.ins C fs)/\fget fs m=none/\wA as K n τ h1 fun ws h2=>wC f (.ref p::ws) K n h2 Q):wX (.meth C m f o as) K n τ h Q:=by
 obtain⟨w,h1,e1,p,fs,rfl,g,ef,x⟩:=j0 x;obtain⟨ws,h2,e2,q⟩:=QZ x;show okQ ((o.f K n τ h).bind fun r h=>r.toW fun w=>h.at w fun _ o=>o.onI fun C' fs=>ifB (Nat.beq C C') (Option.rec ((goA as K n τ h).bind fun a h=>a.toL fun ws=>bJ f (w::ws) K n h) (fun _=>.no) (fget fs m)) .no) (aW Q);rw[e1];show okQ (h1.at (.ref p) fun _ o=>o.onI fun C' fs=>ifB (Nat.beq C C') (Option.rec ((goA as K n τ h1).bind fun a h=>a.toL fun ws=>bJ f (.ref p::ws) K n h) (fun _=>.no) (fget fs m)) .no) (aW Q);rw[lY g];show okQ (ifB (Nat.beq C C) (Option.rec ((goA as K n τ h1).bind fun a h=>a.toL fun ws=>bJ f (.ref p::ws) K n h) (fun _=>.no) (fget fs m)) .no) (aW Q);rw[ie.mpr rfl,ef,e2];exact q
theorem abj(z:Q (.ref h.n) (h.push (.dk []))):wP .Vs [] h Q:=z
theorem abk{p:Nat}{kvs:List (W × W)}{k v:W}(e:h.get p=some (.dk kvs))(hk:mJ k=true)(e2:bM kvs k=some v)(z:Q v h):wP .Qs [.ref p,k] h Q:=by
 show okQ (h.at (.ref p) fun _ o=>o.onD fun kvs=>ifB (mJ k) (Opt (bM kvs k) fun w=>.ok w h) .no) Q;rw[lY e];show okQ (ifB (mJ k) (Opt (bM kvs k) fun w=>.ok w h) .no) Q;rw[hk,e2];exact z
theorem Ov{o k v:X}{Q:Fl->Hs->Prop}(x:wX v K n τ h fun w h1=>wX o K n τ h1 fun a h2=>wX k K n τ h2 fun b h3=>∃ p kvs,a= .ref p/\h3.get p=some (.dk kvs)/\mJ b=true/\kvs.length<=1000000/\Q (.nx τ) (h3.set p (.dk (dY kvs b w)))):w1 (.dput o k v) K n τ h Q:=by
 obtain⟨w,h1,e1,x⟩:=j0 x;obtain⟨a,h2,e2,x⟩:=j0 x;obtain⟨b,h3,e3,p,kvs,rfl,g,kb,l,q⟩:=j0 x;show okQ ((v.f K n τ h).bind fun r h=>r.toW fun w=>(o.f K n τ h).bind fun r h=>r.toW fun a=>(k.f K n τ h).bind fun r h=>r.toW fun b=>h.at a fun n o=>o.onD fun kvs=>ifB (mJ b) (ifB (Nat.ble (len kvs) 1000000) (.ok (.fl (.nx τ)) (h.set n (.dk (dY kvs b w)))) .no) .no) (aF Q);rw[e1];show okQ ((o.f K n τ h1).bind fun r h=>r.toW fun a=>(k.f K n τ h).bind fun r h=>r.toW fun b=>h.at a fun n o=>o.onD fun kvs=>ifB (mJ b) (ifB (Nat.ble (len kvs) 1000000) (.ok (.fl (.nx τ)) (h.set n (.dk (dY kvs b w)))) .no) .no) (aF Q);rw[e2];show okQ ((k.f K n τ h2).bind fun r h=>r.toW fun b=>h.at (.ref p) fun n o=>o.onD fun kvs=>ifB (mJ b) (ifB (Nat.ble (len kvs) 1000000) (.ok (.fl (.nx τ)) (h.set n (.dk (dY kvs b w)))) .no) .no) (aF Q);rw[e3];show okQ (h3.at (.ref p) fun n o=>o.onD fun kvs=>ifB (mJ b) (ifB (Nat.ble (len kvs) 1000000) (.ok (.fl (.nx τ)) (h3.set n (.dk (dY kvs b w)))) .no) .no) (aF Q);rw[lY g];show okQ (ifB (mJ b) (ifB (Nat.ble (len kvs) 1000000) (.ok (.fl (.nx τ)) (h3.set p (.dk (dY kvs b w)))) .no) .no) (aF Q);rw[kb,ble_eq,len_eq,decide_eq_true l];exact q
end
section
variable{K:Ks}{n:Nat}{τ:Sg}{h h':Hs}{C:Nat}{fs:Fs}
theorem abl{Pg:List Fn}{d f np k:Nat}{b:List S}{ws:List W}(e:nth Pg f=some (.mk np k b))(l:Nat.beq (len ws) np=true)(z:fH b (a_ Pg d) n (frame k ws) h= .ex C fs h'):bJ f ws (a_ Pg (d+1)) (n+1) h= .ex C fs h':=by
 show Opt (nth Pg f) (Qt (a_ Pg d) n h ws)=_;rw[e];show ifB (Nat.beq (len ws) np) ((fH b (a_ Pg d) n (frame k ws) h).bind fun r h=>r.toF fun f=>zJ h f) .no=_;rw[l,z];rfl
theorem Q3{s:S}{ss:List S}(z:s.f K n τ h= .ex C fs h'):fH (s::ss) K n τ h= .ex C fs h':=by
 show(s.f K n τ h).bind _=_;rw[z];rfl
theorem acF{s:S}{Q:Fl->Hs->Prop}(x:w1 s K n τ h Q):∃ w h',s.f K n τ h= .ok (.fl w) h'/\Q w h':=by
 unfold w1 at x;generalize s.f K n τ h=r at x
 cases r with
 | ok a h'=>cases a with
   | fl w=>exact⟨w,h',rfl,x⟩
   | _=>exact x.elim
 | _=>exact x.elim
theorem acG{s:S}{ss:List S}(x:w1 s K n τ h fun f h1=>∃ τ1,f= .nx τ1/\fH ss K n τ1 h1= .ex C fs h'):fH (s::ss) K n τ h= .ex C fs h':=by
 obtain⟨f,h1,e,τ1,rfl,z⟩:=acF x;show(s.f K n τ h).bind (fun r h=>r.toF fun f=>Fl.rec (motive:=fun _=>R A) (fun τ=>fH ss K n τ h) (fun w=>.ok (.fl (.rt w)) h) (fun τ=>.ok (.fl (.bk τ)) h) (fun τ=>.ok (.fl (.ct τ)) h) f)=_;rw[e];exact z
theorem Ow{e:X}(z:e.f K n τ h= .ex C fs h'):(S.expr e).f K n τ h= .ex C fs h':=by
 show(e.f K n τ h).bind _=_;rw[z];rfl
theorem abm{c:X}{a b:List S}(x:wX c K n τ h fun w h1=>∃ k:Bool,w= .bl k/\fH (if k then a else b) K n τ h1= .ex C fs h'):(S.ife c a b).f K n τ h= .ex C fs h':=by
 obtain⟨w,h1,e,k,rfl,z⟩:=j0 x;show(c.f K n τ h).bind (fun r h=>r.toW fun w=>w.onB (fH b K n τ h) (fH a K n τ h))=_;rw[e]
 cases k with
 | true=>exact z
 | false=>exact z
theorem Ox{C0:Nat}{m:List Nat}{f:Nat}{o:X}{as:List X}(x:wX o K n τ h fun w h1=>∃ p gs,w= .ref p/\h1.get p=some (.ins C0 gs)/\fget gs m=none/\wA as K n τ h1 fun ws h2=>bJ f (.ref p::ws) K n h2= .ex C fs h'):(X.meth C0 m f o as).f K n τ h= .ex C fs h':=by
 obtain⟨w,h1,e1,p,gs,rfl,g,ef,x⟩:=j0 x;obtain⟨ws,h2,e2,q⟩:=QZ x;show((o.f K n τ h).bind (fun r h=>r.toW fun w=>h.at w fun _ o=>o.onI fun C' fs=>ifB (Nat.beq C0 C') (Option.rec (motive:=fun _=>R A) ((goA as K n τ h).bind fun a h=>a.toL fun ws=>bJ f (w::ws) K n h) (fun _=>.no) (fget fs m)) .no):R A)=_;rw[e1];show(h1.at (.ref p) (fun _ o=>o.onI fun C' fs=>ifB (Nat.beq C0 C') (Option.rec (motive:=fun _=>R A) ((goA as K n τ h1).bind fun a h=>a.toL fun ws=>bJ f (.ref p::ws) K n h) (fun _=>.no) (fget fs m)) .no):R A)=_;rw[lY g];show(ifB (Nat.beq C0 C0) (Option.rec (motive:=fun _=>R A) ((goA as K n τ h1).bind fun a h=>a.toL fun ws=>bJ f (.ref p::ws) K n h) (fun _=>.no) (fget gs m)) .no:R A)=_;rw[ie.mpr rfl,ef,e2];exact q
end
end Ev
namespace My
open PySem L2 PyProof.Rows
noncomputable def top(i:Nat):Stmt:=PySem.Challenge.pw_byestand_k20_who_meets_whom.main.body.getD i (.Pass ⟨0,0,0,0⟩)
section
open Ev
noncomputable abbrev wG:Stmt:=top 10
theorem oE:aD ["plan","at","found","table","first","second"] ["plan","at"] (aj wG):=fsc
noncomputable abbrev yJ:Stmt:=top 11
theorem j7:aD ["plan","at","pair","table","side","first","second","number","other"] ["plan","at","pair"] (aj yJ):=fsc
noncomputable abbrev zY:Stmt:=top 12
theorem Wa:aD ["plan","pair"] ["plan","pair"] (aj zY):=fsc
noncomputable abbrev zZ:Stmt:=top 14
theorem Wb:aD ["plan","one","other"] ["plan","one","other"] (aj zZ):=fsc
noncomputable abbrev uH:Stmt:=top 18
theorem K9:aD ["m"] ["m"] (aj uH):=fsc
noncomputable abbrev tK:Stmt:=top 19
theorem HB:aD ["numbers"] ["numbers"] (aj tK):=fsc
noncomputable abbrev tL:Stmt:=top 20
theorem Ht:aD ["m","pairs","ways"] ["m","pairs"] (aj tL):=fsc
noncomputable abbrev rH:Stmt:=top 21
theorem oG:aD ["numbers","found","partner","others","rest"] ["numbers"] (aj rH):=fsc
noncomputable abbrev rJ:Stmt:=top 22
theorem MP:aD ["m"] ["m"] (aj rJ):=fsc
noncomputable abbrev Dg:Stmt:=top 23
theorem Oz:aD ["m","pairs","adds","places"] ["m","pairs","adds"] (aj Dg):=fsc
noncomputable abbrev tM:Stmt:=top 24
theorem oU:aD ["m","pairs","adds","b","longer","found"] ["m","pairs","adds"] (aj tM):=fsc
noncomputable abbrev qU:Stmt:=top 25
theorem FJ:aD ["m","pairs"] ["m","pairs"] (aj qU):=fsc
noncomputable abbrev yK:Stmt:=top 26
theorem wH:aD ["m","pairs","adds"] ["m"] (aj yK):=fsc
noncomputable abbrev rK:Stmt:=top 29
theorem uI:aD ["kind","tables","pairs","adds"] ["kind","tables"] (aj rK):=fsc
noncomputable abbrev tQ:Stmt:=top 32
theorem xg:aD ["_law_seed","_law_k","_law_square"] ["_law_seed","_law_k"] (aj tQ):=fsc
noncomputable abbrev uJ:Stmt:=top 33
theorem iJ:aD ["_law_cell_here","_law_limits","_law_rest","_law_seed","_law_found","_law_limit"] ["_law_cell_here","_law_limits"] (aj uJ):=fsc
noncomputable abbrev uK:Stmt:=top 34
theorem K_:aD ["_law_script","_law_k"] ["_law_script","_law_k"] (aj uK):=fsc
noncomputable abbrev wJ:Stmt:=top 35
theorem MT:aD ["_law_found"] ["_law_found"] (aj wJ):=fsc
noncomputable abbrev qF:Stmt:=top 36
theorem La:aD ["_law_found","_law_due"] ["_law_found","_law_due"] (aj qF):=fsc
noncomputable abbrev uL:Stmt:=top 37
theorem Lb:aD ["_law_asked","e"] ["_law_asked"] (aj uL):=fsc
noncomputable abbrev uM:Stmt:=top 38
theorem Ld:aD ["_law_m","_law_x","_law_y"] ["_law_m","_law_x","_law_y"] (aj uM):=fsc
noncomputable abbrev eY:Stmt:=top 39
theorem bU:aD ["_law_m","_law_rows_here","_law_turn","_law_fresh","_law_row","_law_used","_law_left","_law_other","_law_steps"] ["_law_m"] (aj eY):=fsc
noncomputable abbrev pR:Stmt:=top 40
theorem jd:aD ["_law_m","_law_pairs","_law_rows_here","_law_row","_law_found","_law_k"] ["_law_m","_law_pairs"] (aj pR):=fsc
noncomputable abbrev qw:Stmt:=top 41
theorem pU:aD ["_law_m","_law_pairs","_law_adds"] ["_law_m"] (aj qw):=fsc
noncomputable abbrev bK:Stmt:=top 42
theorem n6:aD ["_law_number","_law_some"] ["_law_number"] (aj bK):=fsc
noncomputable abbrev o6:Stmt:=top 43
theorem cI:aD ["_law_t","_law_m","_law_pairs","_law_adds","_law_rows_here","_law_at","_law_row","_law_k"] ["_law_t"] (aj o6):=fsc
noncomputable abbrev uN:Stmt:=top 44
theorem iK:aD ["_law_kind","_law_t","_law_rows_here","_law_at","_law_back","_law_row","_law_table","_law_more"] ["_law_kind","_law_t"] (aj uN):=fsc
noncomputable abbrev qW:Stmt:=top 45
theorem FN:aD ["_law_number","_law_most"] ["_law_number","_law_most"] (aj qW):=fsc
noncomputable abbrev qX:Stmt:=top 46
theorem m9:aD ["_law_rows_here","_law_found","_law_row"] ["_law_rows_here"] (aj qX):=fsc
noncomputable abbrev bz:Stmt:=top 47
theorem kJ:aD ["_law_script","_law_row","_law_kind","_law_t","_law_plan","_law_seats","_law_one","_law_other","_law_due","_law_bad"] ["_law_script"] (aj bz):=fsc
noncomputable abbrev o7:Stmt:=inClass (top 30) 0
theorem Aa:aD ["self","kind","tables"] ["self","kind","tables"] (aj o7):=fsc
noncomputable abbrev qx:Stmt:=inClass (top 30) 1
theorem Dh:aD ["self"] ["self"] (aj qx):=fsc
noncomputable abbrev tR:Stmt:=inClass (top 30) 2
theorem HD:aD ["self"] ["self"] (aj tR):=fsc
noncomputable abbrev qY:Stmt:=inClass (top 30) 3
theorem FQ:aD ["self"] ["self"] (aj qY):=fsc
noncomputable abbrev mQ:Stmt:=inClass (top 30) 4
theorem xJ:aD ["self","at"] ["self","at"] (aj mQ):=fsc
noncomputable abbrev mR:Stmt:=inClass (top 30) 5
theorem xK:aD ["self","table"] ["self","table"] (aj mR):=fsc
noncomputable abbrev n8:Stmt:=inClass (top 30) 6
theorem yL:aD ["self","pair"] ["self","pair"] (aj n8):=fsc
noncomputable abbrev qZ:Stmt:=inClass (top 30) 8
theorem FT:aD ["self","pair"] ["self","pair"] (aj qZ):=fsc
noncomputable abbrev tU:Stmt:=inClass (top 30) 9
theorem HF:aD ["self","at","table"] ["self","at","table"] (aj tU):=fsc
noncomputable abbrev jy:Stmt:=inClass (top 30) 10
theorem cZ:aD ["self","at","table","m","x","y","b"] ["self","at","table"] (aj jy):=fsc
noncomputable abbrev jz:Stmt:=inClass (top 30) 11
theorem c7:aD ["self","at","table","t","half","back","ahead"] ["self","at","table"] (aj jz):=fsc
noncomputable abbrev jA:Stmt:=inClass (top 2) 0
theorem t6:aD ["self","word"] ["self","word"] (aj jA):=fsc
noncomputable abbrev lQ:Stmt:=inClass (top 3) 0
theorem wK:aD ["self"] ["self"] (aj lQ):=fsc
noncomputable abbrev lR:Stmt:=inClass (top 5) 0
theorem wL:aD ["self"] ["self"] (aj lR):=fsc
noncomputable abbrev lU:Stmt:=inClass (top 6) 0
theorem wM:aD ["self"] ["self"] (aj lU):=fsc
noncomputable abbrev lV:Stmt:=inClass (top 7) 0
theorem wN:aD ["self"] ["self"] (aj lV):=fsc
noncomputable abbrev mU:Stmt:=inClass (top 8) 0
theorem xM:aD ["self"] ["self"] (aj mU):=fsc
noncomputable abbrev tV:List (List Nat × List Int):=[([115,116,114,97,105,103,104,116],[3,5,7,9]),([115,107,105,112],[4,6,8]),([115,104,97,114,101,100],[4,6,8]),([114,105,110,103],[2,3,4,5,6])]
noncomputable def Di:List S:=[(.asg (.nm 2) (.pr .Vs [])),
 (.for_ (.o5 [(.fld 50 (.var 0) [116,97,98,108,101,115])]) (.nm 3) [(.asg (.tup [(.nm 4),(.nm 5)]) (.slice (.meth 50 [115,101,97,116] 19 (.var 0) [(.var 1),(.var 3)]) none (some (.cst (.int 2))))),
 (.dput (.var 2) (.var 4) (.pr .tup [(.var 3),(.cst (.str [102,105,114,115,116]))])),
 (.dput (.var 2) (.var 5) (.pr .tup [(.var 3),(.cst (.str [115,101,99,111,110,100]))]))]),
 (.ret (.var 2))]
noncomputable def Hu:List S:=[(.asg (.tup [(.nm 3),(.nm 4)]) (.pr .Qs [(.call 0 [(.var 0),(.var 1)]),(.var 2)])),
 (.asg (.tup [(.nm 5),(.nm 6),(.nm 7)]) (.meth 50 [115,101,97,116] 19 (.var 0) [(.var 1),(.var 3)])),
 (.asg (.nm 8) (.ite (.pr .eq [(.var 4),(.cst (.str [102,105,114,115,116]))]) (.var 6) (.var 5))),
 (.ret (.pr .tup [(.var 3),(.var 4),(.var 8),(.var 7)]))]
noncomputable def OD:List S:=[(.expr (.meth 50 [110,101,101,100,95,112,97,105,114] 17 (.var 0) [(.var 1)])),
 (.ret (.comp 1 [0,1] (.o5 [(.meth 50 [114,111,117,110,100,115] 12 (.var 0) [])]) (.nm 0) none none (.call 1 [(.var 1),(.var 0),(.var 2)])))]
noncomputable def FW:List S:=[(.expr (.meth 50 [110,101,101,100,95,112,97,105,114] 17 (.var 0) [(.var 1)])),
 (.expr (.meth 50 [110,101,101,100,95,112,97,105,114] 17 (.var 0) [(.var 2)])),
 (.ret (.pr .len [(.comp 4 [2] (.seq (.call 2 [(.var 0),(.var 1)])) (.tup [(.nm 0),(.nm 1),(.nm 2),(.nm 3)]) (some (.pr .eq [(.var 2),(.var 4)])) none (.var 2))]))]
noncomputable def M3:List S:=[(.ife (.or (.pr .lt [(.var 0),(.cst (.int 3))]) (.or (.pr .gt [(.var 0),(.cst (.int 11))]) (.pr .eq [(.pr .mod [(.var 0),(.cst (.int 2))]),(.cst (.int 0))]))) [(.raise 0 [98,97,100,32,114,105,110,103])] [])]
noncomputable def Le:List S:=[(.ret (.pr .eq [(.pr .Cz [(.var 0)]),(.pr .len [(.var 0)])]))]
noncomputable def Wc:List S:=[(.asg (.nm 2) (.pr .add [(.comp 2 [0] (.seq (.var 1)) (.tup [(.nm 0),(.nm 1)]) none none (.pr .mod [(.pr .sub [(.var 0),(.var 1)]),(.var 2)])),(.comp 2 [0] (.seq (.var 1)) (.tup [(.nm 0),(.nm 1)]) none none (.pr .mod [(.pr .sub [(.var 1),(.var 0)]),(.var 2)]))])),
 (.ret (.call 5 [(.var 2)]))]
noncomputable def abn:List S:=[(.asg (.nm 3) (.comp 3 [0] (.zip [(.var 1),(.var 2)]) (.tup [(.nm 0),(.nm 1)]) none (some (.mk (.seq (.var 0)) (.nm 2) none)) (.pr .mod [(.pr .sub [(.var 1),(.var 2)]),(.var 3)]))),
 (.ret (.and (.call 5 [(.var 2)]) (.and (.call 5 [(.var 3)]) (.pr .zH [(.cst (.int 0)),(.var 3)]))))]
noncomputable def Lf:List S:=[(.ife (.pr .eq [(.pr .len [(.var 2)]),(.pr .len [(.var 1)])]) [(.ret (.var 2))] []),
 (.for_ (.Vt [(.cst (.int 1)),(.var 0)]) (.nm 3) [(.asg (.nm 4) (.pr .add [(.var 2),(.pr .lst [(.var 3)])])),
 (.ife (.pr .truth [(.call 7 [(.var 0),(.var 1),(.var 4)])]) [(.asg (.nm 5) (.call 8 [(.var 0),(.var 1),(.var 4)])),
 (.ife (.pr .Qq [(.var 5)]) [(.ret (.var 5))] [])] [])]),
 (.ret (.cst .non))]
noncomputable def HH:List S:=[(.expr (.call 4 [(.var 0)])),
 (.ret (.call 8 [(.var 0),(.var 1),(.pr .lst [])]))]
noncomputable def Q4:List S:=[(.ife (.pr .ne [(.var 0),(.cst (.str [114,105,110,103]))]) [(.ret (.pr .lst []))] []),
 (.asg (.tup [(.nm 2),(.nm 3)]) (.pr (.plan QL) [(.pr .sub [(.pr .mul [(.cst (.int 2)),(.var 1)]),(.cst (.int 1))])])),
 (.ret (.comp 3 [] (.zip [(.var 2),(.var 3)]) (.tup [(.tup [(.nm 1),(.nm 2)]),(.nm 0)]) none none (.pr .tup [(.var 1),(.var 2),(.var 0)])))]
noncomputable def By:List S:=[(.ife (.pr (.tab tV) [(.var 2),(.var 1)]) [(.raise 1 [98,97,100,32,112,108,97,110])] []),
 (.Qu 50 (.var 0) [107,105,110,100] (.var 1)),
 (.Qu 50 (.var 0) [116,97,98,108,101,115] (.var 2)),
 (.Qu 50 (.var 0) [116,114,105,111,115] (.call 10 [(.var 1),(.var 2)]))]
noncomputable def vK:List S:=[(.ife (.pr .eq [(.fld 50 (.var 0) [107,105,110,100]),(.cst (.str [115,107,105,112]))]) [(.ret (.pr .sub [(.fld 50 (.var 0) [116,97,98,108,101,115]),(.cst (.int 1))]))] []),
 (.ret (.meth 50 [115,101,116,115] 13 (.var 0) []))]
noncomputable def yM:List S:=[(.ife (.pr .eq [(.fld 50 (.var 0) [107,105,110,100]),(.cst (.str [114,105,110,103]))]) [(.ret (.pr .sub [(.pr .mul [(.cst (.int 2)),(.fld 50 (.var 0) [116,97,98,108,101,115])]),(.cst (.int 1))]))] []),
 (.ret (.fld 50 (.var 0) [116,97,98,108,101,115]))]
noncomputable def xj:List S:=[(.ret (.pr .mul [(.cst (.int 2)),(.fld 50 (.var 0) [116,97,98,108,101,115])]))]
noncomputable def qP:List S:=[(.ife (.or (.pr .lt [(.var 1),(.cst (.int 0))]) (.pr .ge [(.var 1),(.meth 50 [114,111,117,110,100,115] 12 (.var 0) [])])) [(.raise 2 [110,111,32,114,111,117,110,100])] [])]
noncomputable def qQ:List S:=[(.ife (.or (.pr .lt [(.var 1),(.cst (.int 0))]) (.pr .ge [(.var 1),(.fld 50 (.var 0) [116,97,98,108,101,115])])) [(.raise 3 [110,111,32,116,97,98,108,101])] [])]
noncomputable def n_:List S:=[(.ife (.or (.pr .lt [(.var 1),(.cst (.int 0))]) (.pr .ge [(.var 1),(.meth 50 [112,97,105,114,115] 14 (.var 0) [])])) [(.raise 4 [110,111,32,112,97,105,114])] [])]
noncomputable def HJ:List S:=[(.expr (.meth 50 [110,101,101,100,95,112,97,105,114] 17 (.var 0) [(.var 1)])),
 (.ife (.or (.pr .eq [(.fld 50 (.var 0) [107,105,110,100]),(.cst (.str [114,105,110,103]))]) (.pr .lt [(.var 1),(.fld 50 (.var 0) [116,97,98,108,101,115])])) [(.ret (.cst (.int 0)))] []),
 (.ret (.cst (.int 1)))]
noncomputable def yN:List S:=[(.expr (.meth 50 [110,101,101,100,95,114,111,117,110,100] 15 (.var 0) [(.var 1)])),
 (.expr (.meth 50 [110,101,101,100,95,116,97,98,108,101] 16 (.var 0) [(.var 2)])),
 (.ife (.pr .eq [(.fld 50 (.var 0) [107,105,110,100]),(.cst (.str [114,105,110,103]))]) [(.ret (.meth 50 [111,110,101,95,102,105,101,108,100,95,115,101,97,116] 20 (.var 0) [(.var 1),(.var 2)]))] []),
 (.ret (.meth 50 [116,119,111,95,102,105,101,108,100,95,115,101,97,116] 21 (.var 0) [(.var 1),(.var 2)]))]
noncomputable def oH:List S:=[(.asg (.nm 3) (.meth 50 [115,101,116,115] 13 (.var 0) [])),
 (.ife (.pr .eq [(.var 2),(.cst (.int 0))]) [(.ret (.pr .tup [(.var 3),(.var 1),(.var 1)]))] []),
 (.asg (.tup [(.nm 4),(.nm 5),(.nm 6)]) (.pr .ix [(.fld 50 (.var 0) [116,114,105,111,115]),(.pr .sub [(.var 2),(.cst (.int 1))])])),
 (.ret (.pr .tup [(.pr .mod [(.pr .add [(.var 4),(.var 1)]),(.var 3)]),(.pr .mod [(.pr .add [(.var 5),(.var 1)]),(.var 3)]),(.pr .mod [(.pr .add [(.var 6),(.var 1)]),(.var 3)])]))]
noncomputable def oJ:List S:=[(.asg (.nm 3) (.fld 50 (.var 0) [116,97,98,108,101,115])),
 (.asg (.nm 4) (.pr .fdiv [(.var 3),(.cst (.int 2))])),
 (.asg (.nm 5) (.ite (.and (.pr .eq [(.fld 50 (.var 0) [107,105,110,100]),(.cst (.str [115,107,105,112]))]) (.pr .ge [(.var 1),(.var 4)])) (.pr .add [(.var 1),(.cst (.int 1))]) (.var 1))),
 (.asg (.nm 6) (.ite (.and (.pr .eq [(.fld 50 (.var 0) [107,105,110,100]),(.cst (.str [115,104,97,114,101,100]))]) (.pr .ge [(.var 2),(.var 4)])) (.pr .add [(.var 1),(.cst (.int 1))]) (.var 1))),
 (.ret (.pr .tup [(.var 2),(.pr .add [(.var 3),(.pr .mod [(.pr .sub [(.var 2),(.var 5)]),(.var 3)])]),(.pr .mod [(.pr .add [(.var 2),(.var 6)]),(.var 3)])]))]
noncomputable def Dj:List S:=[(.ret (.and (.pr (.isi 0) [(.var 0)]) (.pr .v9 [(.pr (.isi 1) [(.var 0)])])))]
noncomputable def Aq:List S:=[(.ife (.pr .isN [(.var 1)]) [(.ret (.pr .isN [(.var 0)]))] []),
 (.ife (.pr .truth [(.pr (.isi 1) [(.var 1)])]) [(.ret (.and (.pr (.isi 1) [(.var 0)]) (.pr .eq [(.var 0),(.var 1)])))] []),
 (.ife (.pr .truth [(.pr (.isi 0) [(.var 1)])]) [(.ret (.and (.call 22 [(.var 0)]) (.pr .eq [(.var 0),(.var 1)])))] []),
 (.ife (.pr .truth [(.pr (.isi 2) [(.var 1)])]) [(.ret (.and (.pr (.isi 2) [(.var 0)]) (.pr .eq [(.var 0),(.var 1)])))] []),
 (.ife (.or (.and (.pr .truth [(.pr (.isi 3) [(.var 1)])]) (.pr .v9 [(.pr .truth [(.pr (.isi 3) [(.var 0)])])])) (.and (.pr .truth [(.pr (.isi 4) [(.var 1)])]) (.pr .v9 [(.pr .truth [(.pr (.isi 4) [(.var 0)])])]))) [(.ret (.cst (.bl false)))] []),
 (.ret (.and (.pr .eq [(.pr .len [(.var 0)]),(.pr .len [(.var 1)])]) (.pr .all [(.comp 1 [0,1] (.o5 [(.pr .len [(.var 1)])]) (.nm 0) none none (.call 23 [(.pr .ix [(.var 1),(.var 0)]),(.pr .ix [(.var 2),(.var 0)])]))])))]
noncomputable def M4:List S:=[(.ret (.pr .min [(.pr .mod [(.pr .sub [(.var 2),(.var 1)]),(.var 0)]),(.pr .mod [(.pr .sub [(.var 1),(.var 2)]),(.var 0)])]))]
noncomputable def Dk:List S:=[(.asg (.nm 1) (.pr .lst [(.pr .lst [])])),
 (.for_ (.o5 [(.pr .fdiv [(.pr .sub [(.var 0),(.cst (.int 1))]),(.cst (.int 2))])]) (.nm 2) [(.asg (.nm 3) (.pr .lst [])),
 (.for_ (.seq (.var 1)) (.nm 4) [(.asg (.nm 5) (.pr .add [(.comp 2 [] (.seq (.var 4)) (.tup [(.nm 0),(.nm 1)]) none none (.var 0)),(.comp 2 [] (.seq (.var 4)) (.tup [(.nm 0),(.nm 1)]) none none (.var 1))])),
 (.asg (.nm 6) (.comp 1 [5] (.Vt [(.cst (.int 1)),(.var 0)]) (.nm 0) (some (.pr .zH [(.var 0),(.var 1)])) none (.var 0))),
 (.for_ (.seq (.slice (.var 6) (some (.cst (.int 1))) none)) (.nm 7) [(.asg (.nm 8) (.comp 2 [0] (.seq (.var 4)) (.tup [(.nm 0),(.nm 1)]) none none (.call 24 [(.var 2),(.var 0),(.var 1)]))),
 (.ife (.pr .zH [(.call 24 [(.var 0),(.pr .ix [(.var 6),(.cst (.int 0))]),(.var 7)]),(.var 8)]) [(.expr (.lm .append (.var 3) [(.pr .add [(.var 4),(.pr .lst [(.pr .tup [(.pr .ix [(.var 6),(.cst (.int 0))]),(.var 7)])])])]))] [])])]),
 (.asg (.nm 1) (.var 3))]),
 (.ret (.var 1))]
noncomputable def Lg:List S:=[(.asg (.nm 2) (.pr .lst [(.pr .lst [])])),
 (.JZ (.pr .gt [(.pr .len [(.var 2)]),(.cst (.int 0))]) [(.asg (.nm 3) (.lm .pop (.var 2) [])),
 (.asg (.nm 4) (.pr .lst [])),
 (.for_ (.o5 [(.pr .len [(.var 3)])]) (.nm 5) [(.asg (.nm 4) (.pr .add [(.var 4),(.pr .lst [(.pr .mod [(.pr .sub [(.pr .ix [(.var 3),(.var 5)]),(.pr .ix [(.pr .ix [(.var 1),(.var 5)]),(.cst (.int 0))])]),(.var 0)]),(.pr .mod [(.pr .sub [(.pr .ix [(.var 3),(.var 5)]),(.pr .ix [(.pr .ix [(.var 1),(.var 5)]),(.cst (.int 1))])]),(.var 0)])])]))]),
 (.ife (.or (.pr .in_ [(.cst (.int 0)),(.var 4)]) (.pr .ne [(.pr .Cz [(.var 4)]),(.pr .len [(.var 4)])])) [.ct] []),
 (.ife (.pr .eq [(.pr .len [(.var 3)]),(.pr .len [(.var 1)])]) [(.ret (.var 3))] []),
 (.expr (.lm .extend (.var 2) [(.comp 1 [3] (.aap [(.pr .sub [(.var 0),(.cst (.int 1))]),(.cst (.int 0)),(.pr .neg [(.cst (.int 1))])]) (.nm 0) (some (.pr .zH [(.var 0),(.var 1)])) none (.pr .add [(.var 1),(.pr .lst [(.var 0)])]))]))]),
 (.ret (.cst .non))]
noncomputable def FZ:List S:=[(.for_ (.seq (.call 25 [(.var 0)])) (.nm 1) [(.asg (.nm 2) (.call 26 [(.var 0),(.var 1)])),
 (.ife (.pr .Qq [(.var 2)]) [(.ret (.pr .tup [(.var 1),(.var 2)]))] [])]),
 (.ret (.cst .non))]
noncomputable def tW:List S:=[(.asg (.nm 1) (.pr .lst [(.pr .tup [(.cst (.str [115,116,114,97,105,103,104,116])),(.cst (.int 3))]),(.pr .tup [(.cst (.str [115,107,105,112])),(.cst (.int 4))]),(.pr .tup [(.cst (.str [115,104,97,114,101,100])),(.cst (.int 4))]),(.pr .tup [(.cst (.str [115,116,114,97,105,103,104,116])),(.cst (.int 5))]),(.pr .tup [(.cst (.str [114,105,110,103])),(.cst (.int 4))]),(.pr .tup [(.cst (.str [115,107,105,112])),(.cst (.int 6))]),(.pr .tup [(.cst (.str [115,104,97,114,101,100])),(.cst (.int 6))])])),
 (.asg (.nm 1) (.pr .add [(.var 1),(.pr .lst [(.pr .tup [(.cst (.str [115,116,114,97,105,103,104,116])),(.cst (.int 7))]),(.pr .tup [(.cst (.str [114,105,110,103])),(.cst (.int 5))]),(.pr .tup [(.cst (.str [115,107,105,112])),(.cst (.int 8))]),(.pr .tup [(.cst (.str [115,104,97,114,101,100])),(.cst (.int 8))]),(.pr .tup [(.cst (.str [115,116,114,97,105,103,104,116])),(.cst (.int 9))]),(.pr .tup [(.cst (.str [114,105,110,103])),(.cst (.int 6))])])])),
 (.ret (.pr .ix [(.var 1),(.pr .mod [(.var 0),(.cst (.int 13))])]))]
noncomputable def BJ:List S:=[(.asg (.nm 1) (.pr .sub [(.pr .mul [(.cst (.int 2)),(.var 0)]),(.cst (.int 1))])),
 (.asg (.tup [(.nm 2),(.nm 3)]) (.call 27 [(.var 1)])),
 (.asg (.nm 4) (.pr .lst [])),
 (.for_ (.o5 [(.var 1)]) (.nm 5) [(.asg (.nm 6) (.pr .lst [(.pr .tup [(.var 1),(.var 5),(.var 5)])])),
 (.for_ (.o5 [(.pr .sub [(.var 0),(.cst (.int 1))])]) (.nm 7) [(.expr (.lm .append (.var 6) [(.pr .tup [(.pr .mod [(.pr .add [(.pr .ix [(.pr .ix [(.var 2),(.var 7)]),(.cst (.int 0))]),(.var 5)]),(.var 1)]),(.pr .mod [(.pr .add [(.pr .ix [(.pr .ix [(.var 2),(.var 7)]),(.cst (.int 1))]),(.var 5)]),(.var 1)]),(.pr .mod [(.pr .add [(.pr .ix [(.var 3),(.var 7)]),(.var 5)]),(.var 1)])])]))]),
 (.expr (.lm .append (.var 4) [(.var 6)]))]),
 (.ret (.var 4))]
noncomputable def M5:List S:=[(.ife (.pr .eq [(.var 0),(.cst (.str [114,105,110,103]))]) [(.ret (.call 29 [(.var 1)]))] []),
 (.asg (.nm 2) (.pr .lst [])),
 (.for_ (.o5 [(.ite (.pr .eq [(.var 0),(.cst (.str [115,107,105,112]))]) (.pr .sub [(.var 1),(.cst (.int 1))]) (.var 1))]) (.nm 3) [(.asg (.nm 4) (.ite (.and (.pr .eq [(.var 0),(.cst (.str [115,107,105,112]))]) (.pr .ge [(.pr .mul [(.cst (.int 2)),(.var 3)]),(.var 1)])) (.pr .add [(.var 3),(.cst (.int 1))]) (.var 3))),
 (.asg (.nm 5) (.pr .lst [])),
 (.for_ (.o5 [(.var 1)]) (.nm 6) [(.asg (.nm 7) (.ite (.and (.pr .eq [(.var 0),(.cst (.str [115,104,97,114,101,100]))]) (.pr .ge [(.pr .mul [(.cst (.int 2)),(.var 6)]),(.var 1)])) (.cst (.int 1)) (.cst (.int 0)))),
 (.expr (.lm .append (.var 5) [(.pr .tup [(.var 6),(.pr .add [(.var 1),(.pr .mod [(.pr .sub [(.var 6),(.var 4)]),(.var 1)])]),(.pr .mod [(.pr .add [(.pr .add [(.var 6),(.var 3)]),(.var 7)]),(.var 1)])])]))]),
 (.expr (.lm .append (.var 2) [(.var 5)]))]),
 (.ret (.var 2))]
noncomputable def xm:List S:=[(.ret (.pr .ix [(.pr .lst [(.pr .neg [(.cst (.int 1))]),(.var 1),(.pr .add [(.var 1),(.cst (.int 1))]),(.pr .pow [(.cst (.int 10)),(.cst (.int 40))]),(.pr .neg [(.pr .pow [(.cst (.int 10)),(.cst (.int 40))])])]),(.pr .mod [(.var 0),(.cst (.int 5))])]))]
noncomputable def xq:List S:=[(.asg (.nm 1) (.pr .lst [])),
 (.for_ (.seq (.var 0)) (.nm 2) [(.asg (.nm 1) (.pr .add [(.var 1),(.pr .list [(.var 2)])]))]),
 (.ret (.var 1))]
noncomputable def Jp:List S:=[(.asg (.nm 1) (.pr .draw [(.pr .cell [(.var 0),(.cst (.int 0))]),(.pr .lst [(.cst (.int 13)),(.cst (.int 5)),(.cst (.int 60))])])),
 (.asg (.tup [(.nm 2),(.nm 3)]) (.iso 100 28 [(.pr .ix [(.var 1),(.cst (.int 0))])])),
 (.asg (.nm 4) (.K7 20000 [2,3] (.make 50 11 [(.var 2),(.var 3)]))),
 (.asg (.nm 5) (.call 32 [(.iso 20000 30 [(.var 2),(.var 3)])])),
 (.for_ (.o5 [(.pr .mul [(.cst (.int 2)),(.var 3)])]) (.nm 6) [(.for_ (.o5 [(.pr .mul [(.cst (.int 2)),(.var 3)])]) (.nm 7) [(.asg (.nm 8) (.pr .len [(.comp 1 [6,7] (.seq (.var 5)) (.nm 0) (some (.pr .inD [(.slice (.var 0) none (some (.cst (.int 2)))),(.pr .lst [(.pr .tup [(.var 1),(.var 2)]),(.pr .tup [(.var 2),(.var 1)])])])) none (.var 0))])),
 (.ife (.pr .v9 [(.pr .truth [(.call 23 [(.call 3 [(.var 4),(.var 6),(.var 7)]),(.var 8)])])]) [(.ret (.cst (.bl false)))] [])])]),
 (.asg (.nm 9) (.call 31 [(.pr .ix [(.var 1),(.cst (.int 1))]),(.pr .mul [(.cst (.int 2)),(.var 3)])])),
 (.for_ (.seq (.pr .lst [(.pr .tup [(.var 9),(.pr .mod [(.pr .ix [(.var 1),(.cst (.int 2))]),(.pr .mul [(.cst (.int 2)),(.var 3)])])]),(.pr .tup [(.pr .mod [(.pr .ix [(.var 1),(.cst (.int 2))]),(.pr .mul [(.cst (.int 2)),(.var 3)])]),(.var 9)]),(.pr .tup [(.var 9),(.var 9)])])) (.tup [(.nm 6),(.nm 7)]) [(.ife (.pr .ne [(.told 5 [4,6,7] (.call 3 [(.var 0),(.var 1),(.var 2)])),(.pr .tup [(.cst (.str [110,111])),(.cst (.str [110,111,32,112,97,105,114]))])]) [(.ret (.cst (.bl false)))] [])]),
 (.ret (.cst (.bl true)))]
noncomputable def Pg:List Fn:=[.mk 2 6 Di,.mk 3 9 Hu,.mk 2 2 OD,.mk 3 3 FW,.mk 1 1 M3,.mk 1 1 Le,.mk 2 3 Wc,.mk 3 4 abn,.mk 3 6 Lf,.mk 2 2 HH,.mk 2 4 Q4,.mk 3 3 By,.mk 1 1 vK,.mk 1 1 yM,.mk 1 1 xj,.mk 2 2 qP,.mk 2 2 qQ,.mk 2 2 n_,.mk 2 2 HJ,.mk 3 3 yN,.mk 3 7 oH,.mk 3 7 oJ,.mk 1 1 Dj,.mk 2 2 Aq,.mk 3 3 M4,.mk 1 9 Dk,.mk 2 6 Lg,.mk 1 3 FZ,.mk 1 2 tW,.mk 1 8 BJ,.mk 2 8 M5,.mk 2 2 xm,.mk 1 3 xq,.mk 1 10 Jp]
set_option genInjectivity false in
set_option genSizeOf false in
structure Adr where
 m_:Addr
 rM:FuncData
 o9:Addr
 uw:FuncData
 rW:Addr
 z6:FuncData
 rY:Addr
 z7:FuncData
 lC:Addr
 qG:FuncData
 jO:Addr
 pW:FuncData
 qy:Addr
 wO:FuncData
 j8:Addr
 pX:FuncData
 pY:Addr
 wQ:FuncData
 vL:Addr
 Dl:FuncData
 jP:Addr
 pZ:FuncData
 je:Addr
 oV:FuncData
 o_:Addr
 ux:FuncData
 nA:Addr
 rN:FuncData
 mV:Addr
 tX:FuncData
 oM:Addr
 uO:FuncData
 oN:Addr
 uP:FuncData
 nD:Addr
 rO:FuncData
 lD:Addr
 qH:FuncData
 qI:Addr
 Ar:FuncData
 lE:Addr
 qJ:FuncData
 gO:Addr
 lZ:FuncData
 jQ:Addr
 p_:FuncData
 iB:Addr
 nG:FuncData
 bV:Addr
 j9:FuncData
 fJ:Addr
 j_:FuncData
 lF:Addr
 qK:FuncData
 jf:Addr
 oX:FuncData
 jg:Addr
 oY:FuncData
 dZ:Addr
 acH:FuncData
 d8:Addr
 iM:FuncData
 fK:Addr
 jR:FuncData
 iQ:Addr
 mW:FuncData
 gR:Addr
 kO:FuncData
 cU:Addr
 gm:FuncData
 cV:Addr
 gn:FuncData
 dg:Addr
 gZ:FuncData
 gU:Addr
 kW:FuncData
 iR:Addr
 mY:FuncData
 bY:Addr
 dM:FuncData
 bZ:Addr
 dN:FuncData
 bI:Addr
 fQ:FuncData
 dw:Addr
 iV:FuncData
 dz:Addr
 iW:FuncData
 dB:Addr
 iY:FuncData
 dD:Addr
 iZ:FuncData
 eF:Addr
 jr:FuncData
 aR:Addr
 pq:Addr
 pA:Addr
 pB:Addr
 pD:Addr
 qz:Addr
 cQ:Addr
 ir:Addr
 l_:Tok
 qd:Tok
 tbl:Addr
 code:Addr
noncomputable def cn(a:Adr):Cn where
 c:=fun k=>match k with | 0=>a.pq | 1=>a.pA | 2=>a.pB | 3=>a.pD | 4=>a.qz | 50=>a.cQ | _=>0
 P:=a.tbl
 q:="law" ++ ".<locals>." ++ "<lambda>"
 on:=true
structure Txt (w:World)(K:ak)(mg:Str->Option Value)(a:Adr):Prop where
 nH:Df K mg "seats_in" wG ["plan","at"] a.m_ a.rM
 jW:Df K mg "meeting" yJ ["plan","at","pair"] a.o9 a.uw
 rZ:Df K mg "guide" zY ["plan","pair"] a.rW a.z6
 nJ:Df K mg "faced" zZ ["plan","one","other"] a.rY a.z7
 jB:Df K mg "need_ring" uH ["m"] a.lC a.qG
 gw:Df K mg "all_unlike" tK ["numbers"] a.jO a.pW
 qC:Df K mg "differ" tL ["m","pairs"] a.qy a.wO
 kh:Df K mg "pairings" rH ["numbers"] a.j8 a.pX
 nM:Df K mg "starters" rJ ["m"] a.pY a.wQ
 vM:Df K mg "fits" Dg ["m","pairs","adds"] a.vL a.Dl
 iT:Df K mg "first_from" tM ["m","pairs","adds"] a.jP a.pZ
 jh:Df K mg "first_adder" qU ["m","pairs"] a.je a.oV
 jX:Df K mg "planned" yK ["m"] a.o_ a.ux
 nP:Df K mg "trios_of" rK ["kind","tables"] a.nA a.rN
 jT:Df K mg "_law_mixed" tQ ["_law_seed","_law_k"] a.mV a.tX
 lH:Df K mg "_law_draw" uJ ["_law_cell_here","_law_limits"] a.oM a.uO
 lJ:Df K mg "_law_cell" uK ["_law_script","_law_k"] a.oN a.uP
 nQ:Df K mg "_law_num" wJ ["_law_found"] a.nD a.rO
 fU:Df K mg "_law_same" qF ["_law_found","_law_due"] a.lD a.qH
 iu:Df K mg "_law_told" uL ["_law_asked"] a.qI a.Ar
 fV:Df K mg "_law_step" uM ["_law_m","_law_x","_law_y"] a.lE a.qJ
 gP:Df K mg "_law_starters" eY ["_law_m"] a.gO a.lZ
 jU:Df K mg "_law_adder" pR ["_law_m","_law_pairs"] a.jQ a.p_
 iC:Df K mg "_law_planned" qw ["_law_m"] a.iB a.nG
 fL:Df K mg "_law_some_plan" bK ["_law_number"] a.bV a.j9
 fM:Df K mg "_law_ring_rows" o6 ["_law_t"] a.fJ a.j_
 lK:Df K mg "_law_rows" uN ["_law_kind","_law_t"] a.lF a.qK
 ji:Df K mg "_law_far_of" qW ["_law_number","_law_most"] a.jf a.oX
 jj:Df K mg "_law_joined" qX ["_law_rows_here"] a.jg a.oY
 ad1:Df K mg "law" bz ["_law_script"] a.dZ a.acH
 BK:Fun K "__init__" "Plan.__init__" o7 a.d8 a.iM
 BL:Binds K a.iM ["self","kind","tables"] []
 F_:Fun K "rounds" "Plan.rounds" qx a.fK a.jR
 vN:Binds K a.jR ["self"] []
 uy:Meth K ((cn a).c 50) "rounds" a.fK
 Lh:Fun K "sets" "Plan.sets" tR a.iQ a.mW
 yO:Binds K a.mW ["self"] []
 xr:Meth K ((cn a).c 50) "sets" a.iQ
 HN:Fun K "pairs" "Plan.pairs" qY a.gR a.kO
 HQ:Binds K a.kO ["self"] []
 Ga:Meth K ((cn a).c 50) "pairs" a.gR
 yP:Fun K "need_round" "Plan.need_round" mQ a.cU a.gm
 yQ:Binds K a.gm ["self","at"] []
 xN:Meth K ((cn a).c 50) "need_round" a.cU
 yR:Fun K "need_table" "Plan.need_table" mR a.cV a.gn
 yS:Binds K a.gn ["self","table"] []
 xO:Meth K ((cn a).c 50) "need_table" a.cV
 Ab:Fun K "need_pair" "Plan.need_pair" n8 a.dg a.gZ
 jF:Binds K a.gZ ["self","pair"] []
 jt:Meth K ((cn a).c 50) "need_pair" a.dg
 HR:Fun K "field" "Plan.field" qZ a.gU a.kW
 Y4:Binds K a.kW ["self","pair"] []
 YD:Meth K ((cn a).c 50) "field" a.gU
 Li:Fun K "seat" "Plan.seat" tU a.iR a.mY
 yU:Binds K a.mY ["self","at","table"] []
 xu:Meth K ((cn a).c 50) "seat" a.iR
 uQ:Fun K "one_field_seat" "Plan.one_field_seat" jy a.bY a.dM
 uR:Binds K a.dM ["self","at","table"] []
 t8:Meth K ((cn a).c 50) "one_field_seat" a.bY
 uT:Fun K "two_field_seat" "Plan.two_field_seat" jz a.bZ a.dN
 uU:Binds K a.dN ["self","at","table"] []
 t_:Meth K ((cn a).c 50) "two_field_seat" a.bZ
 uV:Fun K "__init__" "StandError.__init__" jA a.bI a.fQ
 dO:Binds K a.fQ ["self","word"] []
 xP:Fun K "__init__" "BadRing.__init__" lQ a.dw a.iV
 xQ:Binds K a.iV ["self"] []
 xR:Fun K "__init__" "BadPlan.__init__" lR a.dz a.iW
 xT:Binds K a.iW ["self"] []
 xU:Fun K "__init__" "NoRound.__init__" lU a.dB a.iY
 xV:Binds K a.iY ["self"] []
 xW:Fun K "__init__" "NoTable.__init__" lV a.dD a.iZ
 xX:Binds K a.iZ ["self"] []
 yV:Fun K "__init__" "NoPair.__init__" mU a.eF a.jr
 yW:Binds K a.jr ["self"] []
 aU:Cls K ((cn a).c 50)
 eZ:cL K ((cn a).c 50) "kind"
 cz:cL K ((cn a).c 50) "tables"
 oZ:cL K ((cn a).c 50) "trios"
 Gb:Mk K ((cn a).c 50) a.d8
 YF:mg "Plan" =some (.ref ((cn a).c 50))
 wR:XMk K ((cn a).c 0) a.dw
 Q5:uF K ((cn a).c 0) a.aR
 Dm:cL K ((cn a).c 0) "word"
 Q6:mg "BadRing" =some (.ref ((cn a).c 0))
 wU:XMk K ((cn a).c 1) a.dz
 Q7:uF K ((cn a).c 1) a.aR
 Dq:cL K ((cn a).c 1) "word"
 Q8:mg "BadPlan" =some (.ref ((cn a).c 1))
 wV:XMk K ((cn a).c 2) a.dB
 Q9:uF K ((cn a).c 2) a.aR
 Dr:cL K ((cn a).c 2) "word"
 Q_:mg "NoRound" =some (.ref ((cn a).c 2))
 wW:XMk K ((cn a).c 3) a.dD
 Ra:uF K ((cn a).c 3) a.aR
 Ds:cL K ((cn a).c 3) "word"
 Rb:mg "NoTable" =some (.ref ((cn a).c 3))
 yX:XMk K ((cn a).c 4) a.eF
 T9:uF K ((cn a).c 4) a.aR
 Hv:cL K ((cn a).c 4) "word"
 T_:mg "NoPair" =some (.ref ((cn a).c 4))
 HS:jJ K a.aR
 kY:CI K a.aR a.bI
 jk:mg "StandError" =some (.ref a.aR)
 o4:QD K w a.ir tV
 yZ:mg "TABLES_OF" =some (.ref a.ir)
 Dt:mg "GREATEST_RING" =some (Value.int (11) a.l_)
 Lj:mg "LEAST_RING" =some (Value.int (3) a.qd)
 tY:mg "ValueError" =none
 Rc:mg "abs" =none
 Rf:mg "all" =none
 y_:mg "bool" =none
 Jq:mg "int" =none
 cA:mg "isinstance" =none
 fW:mg "len" =none
 vO:mg "list" =none
 Rg:mg "min" =none
 eG:mg "range" =none
 Jr:mg "set" =none
 Js:mg "str" =none
 z8:mg "tuple" =none
 Jt:mg "zip" =none
theorem z9{i j:Int}(h1: -(2 ^ 64)<i)(h2:i<2 ^ 64):Jg i j:=.inl (.inl ⟨h1,h2⟩)
theorem Lk{i j:Int}(h1: -(2 ^ 64)<j)(h2:j<2 ^ 64):Jg i j:=.inl (.inr ⟨h1,h2⟩)
section
variable{P:Program}{w:World}{K:ak}{mg:Str->Option Value}{base:Heap}
theorem hXs{a:Adr}(T:Txt w K mg a):∀ C,C<5->jJ K ((cn a).c C)/\uF K ((cn a).c C) a.aR/\cL K ((cn a).c C) "word"
 | 0,_=>⟨T.wR.cls,T.Q5,T.Dm⟩
 | 1,_=>⟨T.wU.cls,T.Q7,T.Dq⟩
 | 2,_=>⟨T.wV.cls,T.Q9,T.Dr⟩
 | 3,_=>⟨T.wW.cls,T.Ra,T.Ds⟩
 | 4,_=>⟨T.yX.cls,T.T9,T.Hv⟩
 | n+5,h=>absurd h (by omega)
theorem kZ{a:Adr}(T:Txt w K mg a):bB P w K mg base CX0 1 a.bI a.fQ ["self","word"] (spS K):=by
 refine T.uV.ok t6 (fun vs H Q E h=>?_) (fun cdv A outer s H vs Q E hr h=>?_)
 · obtain⟨_,_,_,rfl,_⟩:=h;rfl
 obtain⟨e,C,y,rfl,he,c,na,q⟩:=h;refine⟨_,(cJ (jH (Vk rfl T.tY (aK (pv 0) (aK (pv 1) bw)))) (b7 (XM (pv 0) (pv 1)))),?_⟩;exact⟨_,rfl,_,rfl,e,C,none,y,rfl,he,c,y,rfl,.ref e,rfl,e,C,rfl,he,c,na,q⟩
theorem Rh{a:Adr}(T:Txt w K mg a):bB P w K mg base CX0 2 a.dw a.iV ["self"] (spX ((cn a).c 0) [98,97,100,32,114,105,110,103]):=by
 have F:=kZ (P:=P) (base:=base) T;refine T.xP.ok wK (fun vs H Q E h=>?_) (fun cdv A outer s H vs Q E hr h=>?_)
 · obtain⟨_,rfl,_⟩:=h;rfl
 obtain⟨e,rfl,he,q⟩:=h;refine⟨_,(b7 (jH (sG T.kY F (hr.mono (by omega)) rfl T.jk T.dO ug (aK (pv 0) (aK qM bw))))),?_⟩;refine⟨_,rfl,e,((cn a).c 0),_,rfl,he,T.wR.cls,T.Dm,fun dx h1 h2=>?_⟩;have:=q dx h1 h2;rw[<- vD]at this;exact this
theorem Ri{a:Adr}(T:Txt w K mg a):bB P w K mg base CX0 2 a.dz a.iW ["self"] (spX ((cn a).c 1) [98,97,100,32,112,108,97,110]):=by
 have F:=kZ (P:=P) (base:=base) T;refine T.xR.ok wL (fun vs H Q E h=>?_) (fun cdv A outer s H vs Q E hr h=>?_)
 · obtain⟨_,rfl,_⟩:=h;rfl
 obtain⟨e,rfl,he,q⟩:=h;refine⟨_,(b7 (jH (sG T.kY F (hr.mono (by omega)) rfl T.jk T.dO ug (aK (pv 0) (aK qM bw))))),?_⟩;refine⟨_,rfl,e,((cn a).c 1),_,rfl,he,T.wU.cls,T.Dq,fun dx h1 h2=>?_⟩;have:=q dx h1 h2;rw[<- vD]at this;exact this
theorem Rj{a:Adr}(T:Txt w K mg a):bB P w K mg base CX0 2 a.dB a.iY ["self"] (spX ((cn a).c 2) [110,111,32,114,111,117,110,100]):=by
 have F:=kZ (P:=P) (base:=base) T;refine T.xU.ok wM (fun vs H Q E h=>?_) (fun cdv A outer s H vs Q E hr h=>?_)
 · obtain⟨_,rfl,_⟩:=h;rfl
 obtain⟨e,rfl,he,q⟩:=h;refine⟨_,(b7 (jH (sG T.kY F (hr.mono (by omega)) rfl T.jk T.dO ug (aK (pv 0) (aK qM bw))))),?_⟩;refine⟨_,rfl,e,((cn a).c 2),_,rfl,he,T.wV.cls,T.Dr,fun dx h1 h2=>?_⟩;have:=q dx h1 h2;rw[<- vD]at this;exact this
theorem Rk{a:Adr}(T:Txt w K mg a):bB P w K mg base CX0 2 a.dD a.iZ ["self"] (spX ((cn a).c 3) [110,111,32,116,97,98,108,101]):=by
 have F:=kZ (P:=P) (base:=base) T;refine T.xW.ok wN (fun vs H Q E h=>?_) (fun cdv A outer s H vs Q E hr h=>?_)
 · obtain⟨_,rfl,_⟩:=h;rfl
 obtain⟨e,rfl,he,q⟩:=h;refine⟨_,(b7 (jH (sG T.kY F (hr.mono (by omega)) rfl T.jk T.dO ug (aK (pv 0) (aK qM bw))))),?_⟩;refine⟨_,rfl,e,((cn a).c 3),_,rfl,he,T.wW.cls,T.Ds,fun dx h1 h2=>?_⟩;have:=q dx h1 h2;rw[<- vD]at this;exact this
theorem Ua{a:Adr}(T:Txt w K mg a):bB P w K mg base CX0 2 a.eF a.jr ["self"] (spX ((cn a).c 4) [110,111,32,112,97,105,114]):=by
 have F:=kZ (P:=P) (base:=base) T;refine T.yV.ok xM (fun vs H Q E h=>?_) (fun cdv A outer s H vs Q E hr h=>?_)
 · obtain⟨_,rfl,_⟩:=h;rfl
 obtain⟨e,rfl,he,q⟩:=h;refine⟨_,(b7 (jH (sG T.kY F (hr.mono (by omega)) rfl T.jk T.dO ug (aK (pv 0) (aK qM bw))))),?_⟩;refine⟨_,rfl,e,((cn a).c 4),_,rfl,he,T.yX.cls,T.Hv,fun dx h1 h2=>?_⟩;have:=q dx h1 h2;rw[<- vD]at this;exact this
end
end
section
variable{P:Program}{w:World}{K:ak}{mg:Str->Option Value}{base:Heap}
theorem HW{a:Adr}(T:Txt w K mg a):bB P w K mg base CX0 1 a.mV a.tX ["_law_seed","_law_k"] Ev.aa8:=by
 refine T.jT.fn.ok xg (fun vs H Q E h=>?_) (fun cdv A outer s H vs Q E hr h=>?_)
 · obtain⟨a,k,rfl,_⟩:=h;rfl
 obtain⟨x,k,rfl,h0,h1,q⟩:=h
 refine⟨_,(cJ (pF (i:=2) xg.nd rfl (Or.inl rfl) (eU bQ (eU d9 (pv 0) (pv 0)) cX))
  (b7 (kj (eU bQ (eU b8 (eU b8 (eU d9 (pv 2) (eU b8 (eU bQ (pv 0) cX) cX)) (eU d9 (pv 1) cX)) cX) cX)))),?_⟩
 have m31:(0:Int)<2147483647:=by decide
 refine⟨_,rfl,_,rfl,_,_,rfl,rfl,z9 (by omega) (by omega),_,_,rfl,rfl,m31,?_⟩;have s0:=Int.emod_nonneg (x*x) (show(2147483647:Int) ≠ 0 by decide);have s1:=Int.emod_lt_of_pos (x*x) m31;refine⟨_,rfl,_,rfl,_,_,rfl,rfl,(by show(0:Int)<65521;decide),_,_,rfl,rfl,_,_,rfl,rfl,z9 (by omega) (by omega),_,rfl,_,_,rfl,rfl,Lk (by decide) (by decide),_,_,rfl,rfl,_,_,rfl,rfl,_,_,rfl,rfl,m31,?_⟩;exact q
theorem Ln{a:Adr}(T:Txt w K mg a):bB P w K mg base CX0 2 a.oM a.uO ["_law_cell_here","_law_limits"] Ev.Oq:=by
 have Lq:=HW (P:=P) (w:=w) (base:=base) T;refine T.lH.fn.ok iJ (fun vs H Q E h=>?_) (fun cdv A outer s H vs Q E hr h=>?_)
 · obtain⟨_,_,_,rfl,_⟩:=h;rfl
 obtain⟨c,l,ls,rfl,hl,h63,hz,q⟩:=h
 refine⟨_,(cJ (pF (i:=2) iJ.nd rfl (Or.inl rfl) (Jz (qp ue (pv 0) (eU JD cX cX) (aY _)) (pv 0) cX))
  (cJ (pF (i:=3) iJ.nd rfl (Or.inl rfl) (eU bQ (eU b8 (eU d9 (mD UW rfl T.Rc boot_abs (aK (pv 0) bw)) cX) cX) cX))
  (cJ (pF (i:=4) iJ.nd rfl (Or.inl rfl) (vd bw))
  (cJ (yf PassesOwn.never rfl (qm (pv 1)) (ql (i:=5) iJ.nd rfl (Or.inl rfl))
    (b7 (zy (qp Pj (pv 2) cX (aY _)) (cJ (jH (Jf PySem.F.plainAttrs_list PySem.F.slot_list_append PySem.F.type_list_append jm (pv 4) (aK (eU bQ (pv 2) (pv 5)) bw)))
      (b7 (pF (i:=2) iJ.nd rfl (Or.inl rfl) (eU vY (pv 2) (pv 5))))) (cJ (pF (i:=3) iJ.nd rfl (Or.inl rfl) (Cq T.jT Lq (hr.mono (by omega)) rfl (aK (pv 3) (aK (mD bF rfl T.fW boot_len (aK (pv 4) bw)) bw))))
      (b7 (jH (Jf PySem.F.plainAttrs_list PySem.F.slot_list_append PySem.F.type_list_append jm (pv 4) (aK (eU bQ (eU vY (pv 3) cX) (pv 5)) bw))))))))
  (b7 (kj (pv 4))))))),?_⟩
 have m31:(0:Int)<2147483647:=by decide
 have s31:Sml 61:=by unfold Sml;exact bH (show(61:Int).natAbs<2 ^ 10 by decide) (Nat.pow_le_pow_right (by decide) (by decide))
 refine⟨_,rfl,_,_,rfl,rfl,(by show UL 10 18;exact⟨by decide,by decide,by decide⟩),_,_,rfl,rfl,_,rfl,?_⟩;refine Qc (fun cc=>?gA) (fun cc=>?gB)
 case' gA=>
  have ec:Ev.jq c ls=Ev.pQ c (((if c<0 then -c else c)*2654435+40503) % 2147483647) 0 ls:=by
   have z:(10:Int) ^ (18:Int).toNat<=c:=of_decide_eq_true cc;unfold Ev.jq;rw[if_pos z]
  refine⟨_,rfl,?_⟩
 case' gB=>
  have ec:Ev.jq c ls=Ev.pQ 0 (((if c<0 then -c else c)*2654435+40503) % 2147483647) 0 ls:=by
   have z:¬ (10:Int) ^ (18:Int).toNat<=c:=fun z=>cc (decide_eq_true z);unfold Ev.jq;rw[if_neg z]
 all_goals
  refine⟨_,rfl,_,rfl,_,_,rfl,rfl,Lk (by decide) (by decide),_,_,rfl,rfl,_,_,rfl,rfl,m31,?_⟩;refine⟨(by show 0<=sizeLine;decide),fun r hr'=>?_⟩;have g0:eO H (upd H r (.lst [])):=fG hr' _
  refine⟨_,rfl,l,rfl,⟨_,SqL.of (g0 _ _ hl)⟩,vR (K:=K) (a:=l) (xs:=ls.map V.int) (fun i σ H2=>∃(rest seed:Int) (ns:List Int) (v:Option V),σ= [some (.int c),some (.ref l),some (.int rest),some (.int seed),some (.ref r),v]/\
   0<=seed/\seed<2147483647/\eO H H2/\H2 r=some (.lst (ns.map V.int))/\ns.length=i/\ns++Ev.pQ rest seed i (ls.drop i)=Ev.jq c ls)
   ⟨_,_,[],none,rfl,Int.emod_nonneg _ (by decide),Int.emod_lt_of_pos _ m31,g0,az,rfl,ec.symm⟩ (fun i σ H2 _ ⟨_,_,_,_,_,_,_,s2,_⟩=>SqL.of (s2 _ _ hl)) ?_ ?_⟩
  · rintro i y σ H2 hi ⟨rest,seed,ns,v,rfl,s0,s1,s2,hr2,hlen,hD⟩
    obtain⟨z,hzi,rfl⟩:∃ z,ls[i]? =some z/\y=V.int z:=by
     rw[List.getElem?_map]at hi
     cases e:ls[i]? with
     | none=>rw[e]at hi;cases hi
     | some z=>rw[e]at hi;exact⟨z,rfl,(Option.some.inj hi).symm⟩
    obtain⟨z0,zS⟩:=hz z (List.mem_of_getElem? hzi);have hil:i<ls.length:=(bu hzi).1;have hlt:(ns.map V.int).length<sizeLine:=by rw[List.length_map];exact R7 (by omega)
    have nlr:r ≠ l:=fun e=>by rw[e]at hr';rw[hl]at hr';cases hr'
    have ed:ls.drop i=z::ls.drop (i+1):=by rw[List.drop_eq_getElem_cons hil];rw[(bu hzi).2]
    rw[ed]at hD;unfold Ev.pQ at hD;have Xe:∀ o,eO H (upd H2 r o):=fun o b u e=>by rw[aB (bL e hr')];exact s2 _ _ e
    have em:∀ v:Int,ns.map V.int ++ [V.int v] =(ns ++ [v]).map V.int:=fun v=>by rw[List.map_append];rfl
    refine⟨_,rfl,_,_,rfl,rfl,_,rfl,?_⟩;refine Qc (fun cr=>?_) (fun cr=>?_)
    · have cr':0<rest:=of_decide_eq_true cr;refine⟨_,rfl,.inl ⟨rfl,_,SqL.of hr2⟩,_,rfl,_,rfl,_,_,rfl,rfl,z0,r,_,_,rfl,rfl,hr2,hlt,?_⟩;refine⟨_,rfl,_,rfl,_,_,rfl,rfl,⟨by omega,zS⟩,?_⟩;rw[if_pos cr']at hD;refine⟨_,seed,ns ++ [rest % z],_,rfl,s0,s1,Xe _,by rw[az,em],by rw[List.length_append,hlen];rfl,by rw[List.append_assoc];exact hD⟩
    · refine⟨_,rfl,_,rfl,r,_,rfl,.inl (SqL.of hr2),_,_,rfl,s0,s1,?_⟩;have cr':¬ 0<rest:=fun z=>cr (decide_eq_true z);rw[if_neg cr']at hD;have el:(((ns.map V.int).length:Nat):Int)=(i:Int):=by rw[List.length_map,hlen]
      refine⟨_,rfl,.inl ⟨rfl,_,SqL.of hr2⟩,_,rfl,_,_,rfl,rfl,⟨by decide,s31⟩,_,rfl,_,_,rfl,rfl,z0,r,_,_,rfl,rfl,hr2,hlt,?_⟩;rw[el];refine⟨rest,Ev.K4 seed i,ns ++ [((Ev.K4 seed i).fdiv 61) % z],_,rfl,Int.emod_nonneg _ (by decide),Int.emod_lt_of_pos _ m31,Xe _,by rw[az,em],by rw[List.length_append,hlen];rfl,by rw[List.append_assoc];exact hD⟩
  · rintro σ H2 ⟨rest,seed,ns,v,rfl,s0,s1,s2,hr2,hlen,hD⟩;rw[List.length_map,List.drop_length]at hD;have hD:ns ++ [] =Ev.jq c ls:=hD;rw[List.append_nil]at hD;subst hD;exact⟨_,rfl,q r H2 hr' s2 hr2⟩
theorem int_at{ns:List Int}{k:Int}(h0:0<=k)(h1:k<(ns.length:Int)):atI (ns.map V.int) k=some (.int (ns.getD k.toNat 0)):=by
 have hk:k.toNat<ns.length:=by omega
 have ek:k=((k.toNat:Nat):Int):=by omega
 have q:atI (ns.map V.int) ((k.toNat:Nat):Int)=some (.int (ns.getD k.toNat 0)):=Np (by rw[List.getElem?_map,List.getElem?_eq_getElem hk,List.getD,List.getElem?_eq_getElem hk] <;> rfl);rw[<- ek]at q;exact q
theorem Lr{a:Adr}(T:Txt w K mg a):bB P w K mg base CX0 1 a.oN a.uP ["_law_script","_law_k"] (Ev.Ot K):=by
 refine T.lJ.fn.ok K_ (fun vs H Q E h=>?_) (fun cdv A outer s H vs Q E hr h=>?_)
 · obtain⟨_,_,_,rfl,_⟩:=h;rfl
 obtain⟨l,ns,k,rfl,hS,h63,k0,q⟩:=h
 refine⟨_,(cJ (zy (qp zA (pv 1) (mD bF rfl T.fW boot_len (aK (pv 0) bw)) (aY _)) (b7 (kj (Ck zF (pv 0) (pv 1) (fun _ _=>rfl)))) uZ)
  (cJ (zy (qp abO (mD bF rfl T.fW boot_len (aK (pv 0) bw)) cX (aY _)) (b7 (kj (eU d9 cX (pv 1)))) uZ)
  (b7 (kj (eU b8 (Ck zF (pv 0) (eU bQ (pv 1) (mD bF rfl T.fW boot_len (aK (pv 0) bw))) (fun _ _=>rfl)) (eU d9 cX (pv 1))))))),?_⟩
 have hl:(ns.map V.int).length=ns.length:=List.length_map _;refine⟨_,rfl,_,rfl,l,_,rfl,.inl hS,_,_,rfl,rfl,_,rfl,?_⟩;refine Qc (fun c=>?_) (fun c=>?_)
 · have c':k<(((ns.map V.int).length:Nat):Int):=of_decide_eq_true c;rw[hl]at c';unfold Ev.rG at q;rw[if_pos c']at q;exact⟨_,rfl,_,rfl,l,_,_,_,rfl,rfl,hS,int_at k0 c',q⟩
 · have nc:¬ k<(ns.length:Int):=fun z=>c (decide_eq_true (by rw[hl];exact z));unfold Ev.rG at q;rw[if_neg nc]at q;refine⟨_,rfl,l,_,rfl,.inl hS,rfl,_,rfl,?_⟩;refine Qc (fun c2=>?_) (fun c2=>?_)
   · have c3:V.int (((ns.map V.int).length:Nat):Int)=V.int 0:=of_decide_eq_true c2
     have c4:ns.length=0:=by
      rw[hl]at c3
      cases h:ns.length with
      | zero=>rfl
      | succ n=>rw[h]at c3;cases c3
     rw[if_pos c4]at q;exact⟨_,rfl,_,_,rfl,rfl,z9 (by decide) (by decide),q⟩
   · have c3:¬ V.int (((ns.map V.int).length:Nat):Int)=V.int 0:=fun z=>c2 (decide_eq_true z)
     have c4:0<ns.length:=by
      rw[hl]at c3
      rcases Nat.eq_zero_or_pos ns.length with z | z
      · rw[z]at c3;exact absurd rfl c3
      · exact z
     have p0:(0:Int)<(((ns.map V.int).length:Nat):Int):=by rw[hl];omega
     rw[if_neg (show ¬ ns.length=0 by omega),<- hl]at q;have hz:=int_at (ns:=ns) (k:=k % (((ns.map V.int).length:Nat):Int)) (Int.emod_nonneg _ (by omega)) (by have:=Int.emod_lt_of_pos k p0;rw[hl]at this ⊢;exact this);exact⟨_,rfl,_,rfl,_,rfl,l,_,rfl,.inl hS,_,_,rfl,rfl,p0,l,_,_,_,rfl,rfl,hS,hz,_,rfl,_,_,rfl,rfl,z9 (by decide) (by decide),_,_,rfl,rfl,q⟩
end
section
open Ev
variable{P:Program}{w:World}{K:ak}{mg:Str->Option Value}{base:Heap}
noncomputable abbrev Fq(P:Program)(w:World)(K:ak)(mg:Str->Option Value)(base:Heap)(a:Adr)(n d:Nat)(f:Addr)(fd:FuncData)(ps:List Str)(i:Nat):Prop:=bB P w K mg base (CXE P w) n f fd ps (spF Pg (cn a) d i)
variable{a:Adr}{d:Nat}
structure Al (P:Program)(w:World)(K:ak)(mg:Str->Option Value)(base:Heap)(a:Adr)(d:Nat):Prop where
 Av:Fq P w K mg base a (4*d+8) d a.lC a.qG ["m"] 4
 tZ:Fq P w K mg base a (4*d+8) d a.jO a.pW ["numbers"] 5
 Wd:Fq P w K mg base a (4*d+8) d a.qy a.wO ["m","pairs"] 6
 abo:Fq P w K mg base a (4*d+8) d a.vL a.Dl ["m","pairs","adds"] 7
 zf:Fq P w K mg base a (4*d+8) d a.jP a.pZ ["m","pairs","adds"] 8
 HX:Fq P w K mg base a (4*d+8) d a.je a.oV ["m","pairs"] 9
theorem OJ{a:Adr}:Al P w K mg base a 0:=⟨bf,bf,bf,bf,bf,bf⟩
theorem Ls(T:Txt w K mg a)(A0:Al P w K mg base a d):Fq P w K mg base a (4*(d+1)+8) (d+1) a.lC a.qG ["m"] 4:=by
 refine(cg (k:=4*d+11) T.jB.fn K9 rfl fun σ0 cdv A outer s H E hr hp=>?_).mono (by omega)
 exact(aa (dh (PW.pt (uo (bh (Kc (K:=K)) (L2.OpR.or zA (yp hr.yj)) (dv 0) (vp (Nb (v:=.int 3) rfl T.Lj ⟨_,rfl⟩) (.int 3)) (aY _)) (uo (bh aau Pj (dv 0) (vp (Nb (v:=.int 11) rfl T.Dt ⟨_,rfl⟩) (.int 11)) (aY _)) (pw_or1 (bh ju (dJ hr.units) (aG fu bQ (dv 0) aC) aC (aY _)))))) (aa (sX ⟨rfl,rfl,rfl⟩ rfl rfl T.wR (Rh T) (hr.mono (by omega)) T.xQ rfl T.Q6)
  au) au)
  au)
theorem HY(T:Txt w K mg a)(A0:Al P w K mg base a d):Fq P w K mg base a (4*(d+1)+8) (d+1) a.jO a.pW ["numbers"] 5:=by
 refine(cg (k:=4*d+11) T.gw.fn HB rfl fun σ0 cdv A outer s H E hr hp=>?_).mono (by omega)
 exact(aa (aQ (vA ju (dJ hr.units) (G_ hr.hd rfl T.fW rfl T.Jr (dv 0)) (d7 (m7 (K:=K)) bF rfl T.fW boot_len (ao (dv 0) aq)) (aY _)))
  au)
theorem Ub(T:Txt w K mg a)(A0:Al P w K mg base a d):Fq P w K mg base a (4*(d+1)+8) (d+1) a.qy a.wO ["m","pairs"] 6:=by
 refine(cg (k:=4*d+11) T.qC.fn Ht rfl fun σ0 cdv A outer s H E hr hp=>?_).mono (by omega)
 exact(aa (cj 2 Ht.nd (aG eV (L2.OpR.or b8 cM) (jw (gW (N':=["x","y","m"]) (nt:=2) (idx:=[0]) (N:=["m","pairs","ways"]) (osc:=aj tL) rfl rfl (by decide +kernel)) rfl jK (iz rfl (dv 1)) (fun C0 s0 H0 fp0=>(gj rfl (aO (aP 0 (show List.Nodup (["x","y","m"]:List Str) by decide +kernel)) (aO (aP 1 (show List.Nodup (["x","y","m"]:List Str) by decide +kernel)) eE)))) (fun C0 s0 H0 fp0=>lA) (fun C0 s0 H0 fp0=>(aG fu bQ (aG iU fC (dv 0) (dv 1)) (dv 2))) (by decide)) (jw (gW (N':=["x","y","m"]) (nt:=2) (idx:=[0]) (N:=["m","pairs","ways"]) (osc:=aj tL) rfl rfl (by decide +kernel)) rfl jK (iz rfl (dv 1)) (fun C0 s0 H0 fp0=>(gj rfl (aO (aP 0 (show List.Nodup (["x","y","m"]:List Str) by decide +kernel)) (aO (aP 1 (show List.Nodup (["x","y","m"]:List Str) by decide +kernel)) eE)))) (fun C0 s0 H0 fp0=>lA) (fun C0 s0 H0 fp0=>(aG fu bQ (aG iU fC (dv 1) (dv 0)) (dv 2))) (by decide))))
  (aa (aQ (gM A0.tZ T.gw hr hp (ao (dv 2) aq)))
  au))
theorem YG(T:Txt w K mg a)(A0:Al P w K mg base a d):Fq P w K mg base a (4*(d+1)+8) (d+1) a.vL a.Dl ["m","pairs","adds"] 7:=by
 refine(cg (k:=4*d+11) T.vM.fn Oz rfl fun σ0 cdv A outer s H E hr hp=>?_).mono (by omega)
 exact(aa (VD (i:=3) Oz.nd rfl (Or.inl rfl) (gW (N':=["pair","b","number","m"]) (nt:=3) (idx:=[0]) (N:=["m","pairs","adds","places"]) (osc:=aj Dg) rfl rfl (by decide +kernel)) rfl Tf (SM rfl T.Jt (ao (dv 1) (ao (dv 2) aq))) (fun C0 s0 H0 fp0=>(gj rfl (aO (aP 0 (show List.Nodup (["pair","b","number","m"]:List Str) by decide +kernel)) (aO (aP 1 (show List.Nodup (["pair","b","number","m"]:List Str) by decide +kernel)) eE)))) (fun C0 s0 H0 fp0=>lA) jK (fun C0 s0 H0 fp0=>(iz rfl (dv 0))) (fun C0 s0 H0 fp0=>(aP 2 (show List.Nodup (["pair","b","number","m"]:List Str) by decide +kernel))) (fun C0 s0 H0 fp0=>lA) (fun C0 s0 H0 fp0=>(aG fu bQ (aG iU fC (dv 1) (dv 2)) (dv 3))) (by decide) (by decide))
  (aa (aQ (sS (gM A0.tZ T.gw hr hp (ao (dv 2) aq)) (sS (gM A0.tZ T.gw hr hp (ao (dv 3) aq)) (uY (vA (zL (K:=K)) mF aC (dv 3) rfl)))))
  au))
theorem H9(T:Txt w K mg a)(A0:Al P w K mg base a d):Fq P w K mg base a (4*(d+1)+8) (d+1) a.jP a.pZ ["m","pairs","adds"] 8:=by
 refine(cg (k:=4*d+11) T.iT.fn oU rfl fun σ0 cdv A outer s H E hr hp=>?_).mono (by omega)
 exact(aa (dh (bh ju (dJ hr.units) (d7 (m7 (K:=K)) bF rfl T.fW boot_len (ao (dv 2) aq)) (d7 (m7 (K:=K)) bF rfl T.fW boot_len (ao (dv 1) aq)) (aY _)) (aa (aQ (dv 2))
  au) au)
  (aa (iG PassesOwn.leaving rfl Oc (GC rfl T.eG (cH aC (ao (dv 0) aq))) (aP 3 oU.nd)
  (aa (cj 4 oU.nd (aG eV (L2.OpR.or b8 cM) (dv 2) (cY (ao (dv 3) aq))))
  (aa (dh (jZ (gM A0.abo T.vM hr hp (ao (dv 0) (ao (dv 1) (ao (dv 4) aq)))) (fun _=>rfl)) (aa (cj 5 oU.nd (gM A0.zf T.iT hr hp (ao (dv 0) (ao (dv 1) (ao (dv 4) aq)))))
  (aa (dh (N6 (dv 5)) (aa (aQ (dv 5))
  au) au)
  au)) au)
  au)))
  (aa (aQ J_)
  au)))
theorem Gd(T:Txt w K mg a)(A0:Al P w K mg base a d):Fq P w K mg base a (4*(d+1)+8) (d+1) a.je a.oV ["m","pairs"] 9:=by
 refine(cg (k:=4*d+11) T.jh.fn FJ rfl fun σ0 cdv A outer s H E hr hp=>?_).mono (by omega)
 exact(aa (iy (gM A0.Av T.jB hr hp (ao (dv 0) aq)))
  (aa (aQ (gM A0.zf T.iT hr hp (ao (dv 0) (ao (dv 1) (zR (cY aq) aq)))))
  au))
theorem O1{a:Adr}{d:Nat}(T:Txt w K mg a)(A0:Al P w K mg base a d):Al P w K mg base a (d+1):=⟨Ls T A0,HY T A0,Ub T A0,YG T A0,H9 T A0,Gd T A0⟩
theorem Xf{a:Adr}(T:Txt w K mg a):∀ d,Al P w K mg base a d
 | 0=>OJ
 | d+1=>O1 T (Xf T d)
theorem Uc{a:Adr}(T:Txt w K mg a){n k:Nat}(wY:bB P w K mg base CX0 k a.j8 a.pX ["numbers"] (CQ n)):bB P w K mg base CX0 (k+2) a.j8 a.pX ["numbers"] (CQ (n+1)):=by
 refine(T.kh.fn.ok (k:=k+1) oG (fun vs H Q E h=>?_) (fun cdv A outer s H vs Q E hr h=>?_)).mono (by omega)
 · obtain⟨_,_,rfl,_⟩:=h;rfl
 obtain⟨l,ns,rfl,hl,hn,h20,hb,q⟩:=h
 refine⟨_,(cJ (zy (RL (JG (pv 0) (fun _=>rfl))) (b7 (kj (vd (aK (vd bw) bw)))) uZ)
  (cJ (pF (i:=1) oG.nd rfl (Or.inl rfl) (vd bw))
  (cJ (yf PassesOwn.never rfl (qm (Ba Es (pv 0) (Eo cX) En)) (ql (i:=2) oG.nd rfl (Or.inr rfl))
    (cJ (Ew (i:=3) oG.nd rfl (Or.inl rfl) (gW (N':=["number","partner"]) (nt:=1) (idx:=[2]) (N:=["numbers","found","partner","others","rest"]) (osc:=aj rH) rfl rfl (by decide +kernel)) rfl (qm (Ba Es (pv 0) (Eo cX) En)) (Ji (fun _ _ _ _=>ql (i:=0) (show List.Nodup (["number","partner"]:List Str) by decide +kernel) rfl (Or.inl rfl)) (fun _ _ _ _=>Eu (qp abP (pv 0) (pv 1) (aY _))) (fun _ _ _ _=>(pv 0))))
    (b7 (yf PassesOwn.never rfl (qm (Cq T.kh wY (hr.mono (by omega)) rfl (aK (pv 3) bw))) (ql (i:=4) oG.nd rfl (Or.inl rfl))
      (b7 (jH (Jf PySem.F.plainAttrs_list PySem.F.slot_list_append PySem.F.type_list_append jm (pv 1) (aK (eU cM (vd (aK (u_ (aK (Ck zF (pv 0) cX (fun _ _=>rfl)) (aK (pv 2) bw))) bw)) (pv 4)) bw))))))))
  (b7 (kj (pv 1)))))),?_⟩
 have hnz:(20:Nat)<sizeLine:=by decide
 cases ns with
 | nil=>
   refine⟨_,rfl,false,.inl ⟨_,SqL.of hl,rfl⟩,vV ?_⟩;refine⟨by show 0<=sizeLine;decide,fun e he=>⟨by show 1<=sizeLine;decide,fun r hr'=>?_⟩⟩;have ner:e ≠ r:=fun z=>by rw[z,az]at hr';cases hr'
   have hr0:H r=none:=by rw[aB (Ne.symm ner)]at hr';exact hr'
   refine q r [e] _ hr0 ((fG he _).trans (fG hr' _)) az (.cons ⟨[],⟨by rw[aB ner,az];rfl,.nil⟩,by simp⟩ .nil) fun x hx=>?_;have:x=e:=by simpa using hx
   subst this
   exact⟨he,ner⟩
 | cons x t=>
   refine⟨_,rfl,true,.inl ⟨_,SqL.of hl,rfl⟩,vU ?_⟩;refine⟨by show 0<=sizeLine;decide,fun F hF=>?_⟩;have g0:eO H (upd H F (.lst [])):=fG hF _;refine⟨_,rfl,1,rfl,l,_,rfl,SqL.of (g0 _ _ hl),fun S hS=>?_⟩
   have eS:yo ((x::t).map V.int) (some 1) none=t.map V.int:=by
    simp[yo,HT.sIx];exact List.take_of_length_le (by simp)
   rw[eS];have g1:eO H (upd (upd H F (.lst [])) S (.lst (t.map V.int))):=g0.trans (fG hS _);have nFS:F ≠ S:=fun z=>by rw[<- z,az]at hS;cases hS
   refine⟨S,rfl,⟨_,SqL.of az⟩,?_⟩
   refine vR (K:=K) (a:=S) (xs:=t.map V.int) (fun i σ H2=>∃(as:List Addr) (v2 v3 v4:Option V),σ= [some (.ref l),some (.ref F),v2,v3,v4]/\eO H H2/\H2 S=some (.lst (t.map V.int))/\H2 F=some (.lst (as.map V.ref))/\
    LAs H H2 as ((t.take i).flatMap fun p=>(aJ n (t.filter fun y=> !decide (y=p))).map fun rest=>(x,p)::rest)/\∀ z ∈ as,H z=none/\z ≠ F) ?_ ?_ ?_ ?_
   · exact⟨[],none,none,none,rfl,g1,az,by rw[aB nFS,az];rfl,.nil,by simp⟩
   · rintro i σ H2 _ ⟨as,v2,v3,v4,rfl,s2,hS2,hF2,la,fr⟩;exact SqL.of hS2
   · rintro i y σ H2 hi ⟨as,v2,v3,v4,rfl,s2,hS2,hF2,la,fr⟩
     obtain⟨p,hp,rfl⟩:∃ p,t[i]? =some p/\y=V.int p:=by
      rw[List.getElem?_map]at hi
      cases e:t[i]? with
      | none=>rw[e]at hi;cases hi
      | some z=>rw[e]at hi;exact⟨z,rfl,(Option.some.inj hi).symm⟩
     have hpt:p ∈ t:=List.mem_of_getElem? hp;have hl2:H2 l=some (.lst ((x::t).map V.int)):=s2 _ _ hl;have nlF:l ≠ F:=bL hl hF;refine⟨_,rfl,1,rfl,l,_,rfl,SqL.of hl2,fun S2 hS2'=>⟨S2,rfl,⟨_,SqL.of az⟩,fun D hD=>?_⟩⟩;rw[eS]at hD ⊢;have ady:S2 ≠ D:=fun z=>by rw[<- z,az]at hD;cases hD
     refine Ny (K:=K) (a:=S2) (xs:=t.map V.int) (fun j H3=>H3=upd (upd H2 S2 (.lst (t.map V.int))) D (.lst (((t.take j).filter fun y=> !decide (y=p)).map V.int))) rfl ?_ ?_ ?_
     · rintro j H3 _ rfl;exact SqL.of (by rw[aB ady,az])
     · rintro j y H3 hj rfl
       obtain⟨z,hz,rfl⟩:∃ z,t[j]? =some z/\y=V.int z:=by
        rw[List.getElem?_map]at hj
        cases e:t[j]? with
        | none=>rw[e]at hj;cases hj
        | some z=>rw[e]at hj;exact⟨z,rfl,(Option.some.inj hj).symm⟩
       have etk:t.take (j+1)=t.take j ++ [z]:=by rw[List.take_add_one,hz];rfl
       refine⟨⟨rfl,trivial⟩,_,rfl,_,rfl,rfl,_,rfl,?_⟩
       have ez:decide (V.int z=V.int p)=decide (z=p):=by
        by_cases c:z=p
        · rw[c];simp
        · rw[decide_eq_false c,decide_eq_false (fun q=>c (by injection q))]
       rw[ez]
       by_cases c:z=p
       · rw[decide_eq_true c];refine vU ?_;rw[etk,List.filter_append];simp[c]
       · rw[decide_eq_false c];refine vV ?_;refine⟨_,rfl,_,az,?_,?_⟩
         · rw[List.length_map];have h1:=List.length_filter_le (fun y=> !decide (y=p)) (t.take j);have h2:(t.take j).length<=t.length:=by rw[List.length_take];omega
           have h3:t.length+1<=20:=by simpa using h20
           omega
         · rw[Xk,etk,List.filter_append];simp[c]
     · rintro H3 rfl;rw[List.length_map,List.take_length];generalize hsub:(t.filter fun y=> !decide (y=p))=sub;have hsl:sub.length<=t.length:=by rw[<- hsub];exact List.length_filter_le _ _
       have h3:t.length+1<=20:=by simpa using h20
       have hn':t.length+1<n+1:=by simpa using hn
       have nF:∀ {b:Addr} {o:HO} {o':HO},H2 b=some o->upd (upd H2 S2 (.lst (t.map V.int))) D o' b=some o:=fun {b o o'} e=>by
        have n1:b ≠ S2:=bL e hS2'
        have n2:b ≠ D:=fun z=>by
         rw[z]at e;have:upd H2 S2 (.lst (t.map V.int)) D=none:=hD;rw[aB (fun q=>by rw[q,hS2']at e;cases e),e]at this;cases this
        rw[aB n2,aB n1];exact e
       have s3:eO H2 (upd (upd H2 S2 (.lst (t.map V.int))) D (.lst (sub.map V.int))):=fun b o e=>nF e;generalize hH3:upd (upd H2 S2 (.lst (t.map V.int))) D (.lst (sub.map V.int))=H3 at s3;have hD3:H3 D=some (.lst (sub.map V.int)):=by rw[<- hH3];exact az
       refine⟨_,rfl,D,sub,rfl,hD3,by omega,by omega,?_,fun r2 as2 H4 hr2 s4 hr4 la2 fr2=>?_⟩
       · rw[<- hsub];exact Nat.le_trans (aaS hpt) hb
       refine⟨r2,rfl,⟨_,SqL.of hr4⟩,?_⟩;have s24:eO H2 H4:=s3.trans s4;have la2:LAs H H4 as2 (aJ n sub):=la2.old (eO.free (s2.trans s3));have hF3:H3 F=some (.lst (as.map V.ref)):=s3 _ _ hF2
       have tot:((t.take i).flatMap fun p=>(aJ n (t.filter fun y=> !decide (y=p))).map fun rest=>(x,p)::rest).length+(aJ n sub).length<=100000:=by
        have e1:(t.take (i+1)).flatMap (fun p=>(aJ n (t.filter fun y=> !decide (y=p))).map fun rest=>(x,p)::rest)=(t.take i).flatMap (fun p=>(aJ n (t.filter fun y=> !decide (y=p))).map fun rest=>(x,p)::rest)++(aJ n sub).map fun rest=>(x,p)::rest:=by
         rw[List.take_add_one,hp,List.flatMap_append,<- hsub];simp
        have e2:((t.take (i+1)).flatMap fun p=>(aJ n (t.filter fun y=> !decide (y=p))).map fun rest=>(x,p)::rest).length<=(aJ (n+1) (x::t)).length:=by
         exact TX (fun p=>(aJ n (t.filter fun y=> !decide (y=p))).map fun rest=>(x,p)::rest) t (i+1)
        rw[e1,List.length_append,List.length_map]at e2;exact Nat.le_trans e2 hb
       have laL:=la.length
       have etk:(t.take (i+1)).flatMap (fun p=>(aJ n (t.filter fun y=> !decide (y=p))).map fun rest=>(x,p)::rest)=(t.take i).flatMap (fun p=>(aJ n (t.filter fun y=> !decide (y=p))).map fun rest=>(x,p)::rest)++(aJ n sub).map fun rest=>(x,p)::rest:=by
        rw[List.take_add_one,hp,List.flatMap_append,<- hsub];simp
       generalize hdone:((t.take i).flatMap fun p=>(aJ n (t.filter fun y=> !decide (y=p))).map fun rest=>(x,p)::rest)=done at la tot etk laL
       have fr4:∀ z ∈ as2,z ≠ F:=fun z hz e=>by
        have:=(fr2 z hz).1;rw[e,hF3]at this;cases this
       have hSF:S ≠ F:=Ne.symm nFS;have adz:r2 ≠ F:=fun e=>by rw[e,hF3]at hr2;cases hr2
       refine vR (K:=K) (a:=r2) (xs:=as2.map V.ref) (fun j σ H5=>∃(as':List Addr) (v4:Option V),σ= [some (.ref l),some (.ref F),some (.int p),some (.ref D),v4]/\eO H H5/\H5 S=some (.lst (t.map V.int))/\H5 F=some (.lst (as'.map V.ref))/\
        LAs H H5 as' (done++((aJ n sub).take j).map fun rest=>(x,p)::rest)/\(∀ z ∈ as',H z=none/\z ≠ F)/\H5 r2=some (.lst (as2.map V.ref))/\LAs H H5 as2 (aJ n sub)) ?_ ?_ ?_ ?_
       · exact⟨as,_,rfl,s2.trans s24,s24 _ _ hS2,s24 _ _ hF2,by simpa using la.same s24,fr,hr4,la2⟩
       · rintro j σ H5 _ ⟨as',v4',rfl,s5,hS5,hF5,la5,fr5,hr5,lb5⟩;exact SqL.of hr5
       · rintro j y σ H5 hj ⟨as',v4',rfl,s5,hS5,hF5,la5,fr5,hr5,lb5⟩
         obtain⟨a2,ha2,rfl⟩:∃ z,as2[j]? =some z/\y=V.ref z:=by
          rw[List.getElem?_map]at hj
          cases e:as2[j]? with
          | none=>rw[e]at hj;cases hj
          | some z=>rw[e]at hj;exact⟨z,rfl,(Option.some.inj hj).symm⟩
         obtain⟨ps,hps,pa⟩:=Paired.Bs lb5 ha2;obtain⟨bs,⟨hbs,rbs⟩,nbs⟩:=pa;have ad6:a2 ≠ F:=fr4 a2 (List.mem_of_getElem? ha2);have hl5:H5 l=some (.lst ((x::t).map V.int)):=s5 _ _ hl;have adA:=la5.length;have hjl:j<(aJ n sub).length:=(bu hps).1;have sz:sizeLine=16777216:=sizeLine_eq;refine⟨_,rfl,.inl ⟨rfl,_,SqL.of hF5⟩,_,rfl,l,_,_,_,rfl,rfl,SqL.of hl5,Np (j:=0) rfl,_,rfl,by show 2<=sizeLine;decide,fun T1 hT=>⟨by show 1<=sizeLine;decide,fun L1 hL1=>?_⟩⟩;have q1:eO H5 (upd H5 T1 (.tup [.int x,.int p])):=fG hT _;have q2:eO H5 (upd (upd H5 T1 (.tup [.int x,.int p])) L1 (.lst [.ref T1])):=q1.trans (fG hL1 _);have bl:bs.length=ps.length:=rbs.length;refine⟨_,rfl,L1,a2,_,_,rfl,rfl,az,q2 _ _ hbs,?_,fun L2 hL2=>?_⟩
         · show 1+(bs.map V.ref).length<=sizeLine;rw[List.length_map,bl,sz];have:=pairs_len (List.mem_of_getElem? hps);omega
         have q3:eO H5 (upd (upd (upd H5 T1 (.tup [.int x,.int p])) L1 (.lst [.ref T1])) L2 (.lst ([V.ref T1]++bs.map V.ref))):=q2.trans (fG hL2 _);refine⟨F,_,_,rfl,rfl,q3 _ _ hF5,?_,?_⟩
         · rw[List.length_map,sz];rw[List.length_append,List.length_map,List.length_take]at adA;omega
         have abp:L2 ≠ F:=fun e=>by rw[e,q2 _ _ hF5]at hL2;cases hL2
         have adB:H L2=none:=by
          cases z:H L2 with
          | none=>rfl
          | some u=>rw[q2 _ _ (s5 _ _ z)]at hL2;cases hL2
         have nT1:T1 ≠ L1:=fun e=>by rw[<- e,az]at hL1;cases hL1
         have nT2:T1 ≠ L2:=fun e=>by rw[<- e,aB nT1,az]at hL2;cases hL2
         have hT3:upd (upd (upd H5 T1 (.tup [.int x,.int p])) L1 (.lst [.ref T1])) L2 (.lst ([V.ref T1]++bs.map V.ref)) T1=some (.tup [.int x,.int p]):=by rw[aB nT2,aB nT1,az]
         have hT0:H T1=none:=eO.free s5 _ hT
         have paN:Lp H (upd (upd (upd H5 T1 (.tup [.int x,.int p])) L1 (.lst [.ref T1])) L2 (.lst ([V.ref T1]++bs.map V.ref))) L2 ((x,p)::ps):=⟨T1::bs,⟨az,.cons hT3 (Paired.nU rbs fun _ _ e=>q3 _ _ e)⟩,fun b hb=>by
          rcases List.mem_cons.mp hb with rfl | hb
          · exact hT0
          · exact nbs b hb⟩
         generalize hH6:upd (upd (upd H5 T1 (.tup [.int x,.int p])) L1 (.lst [.ref T1])) L2 (.lst ([V.ref T1]++bs.map V.ref))=H6 at q3 paN;have hF6:=q3 _ _ hF5;have Cw:∀ {b:Addr} {o:HO},b ≠ F->H6 b=some o->upd H6 F (.lst (as'.map V.ref ++ [V.ref L2])) b=some o:=fun nb e=>by rw[aB nb];exact e
         refine⟨as' ++ [L2],_,rfl,fun b o e=>Cw (bL e hF) (q3 _ _ (s5 _ _ e)),Cw hSF (q3 _ _ hS5),by rw[az,List.map_append];rfl,?_,?_,Cw adz (q3 _ _ hr5),(lb5.same q3).put hF6 fr4⟩
         · have etk:(aJ n sub).take (j+1)=(aJ n sub).take j ++ [ps]:=by rw[List.take_add_one,hps];rfl
           rw[etk,List.map_append,<- List.append_assoc];exact Paired.QK (paN.put abp hF6) ((la5.same q3).put hF6 fun z hz=>(fr5 z hz).2)
         · intro z hz
           rcases List.mem_append.mp hz with hz | hz
           · exact fr5 z hz
           · have:z=L2:=by simpa using hz
             subst this;exact⟨adB,abp⟩
       · rintro σ H5 ⟨as',v4',rfl,s5,hS5,hF5,la5,fr5,hr5,lb5⟩;rw[List.length_map,lb5.length,List.take_length]at la5;exact⟨as',_,_,_,rfl,s5,hS5,hF5,by rw[etk];exact la5,fr5⟩
   · rintro σ H2 ⟨as,v2,v3,v4,rfl,s2,hS2,hF2,la,fr⟩;rw[List.length_map,List.take_length]at la;exact⟨_,rfl,q F as H2 hF s2 hF2 la fr⟩
theorem O4{a:Adr}(T:Txt w K mg a):∀ n,bB P w K mg base CX0 (2*n+2) a.j8 a.pX ["numbers"] (CQ n)
 | 0=>by
   have no:∀ vs H Q E,¬ CQ 0 vs H Q E:=fun vs H Q E ⟨_,_,_,_,h,_⟩=>absurd h (Nat.not_lt_zero _)
   exact⟨fun vs H Q E h=>absurd h (no vs H Q E),fun A outer s H args us vs Q E _ _ _ _ h=>absurd h (no vs H Q E)⟩
 | n+1=>Uc T (O4 T n)
theorem Rm{X:Cx}{x:Str}{st:Stmt}{ps:List Str}{f:Addr}{fd:FuncData}{k:Nat}{sp:Sp}{e:Expr}{es:List Expr}{t:TA}{p pos:Pos}(D:Df X.K X.mg x st ps f fd)(F:bB X.prog X.w X.K X.mg X.base (CXE X.prog X.w) k f fd ps sp)(hr:bD k X.A)(hg:Gl X x)(ha:L2.PA X (e::es) t)(hdb:(x==("__debug__":Str))=false:=by decide)
 (he:starEach (e::es) X.env=(false,eval e X.env)::starEach es X.env:=by rfl) (hpl:(backTo pos (starEach es X.env)).any (·.1)=false:=by rfl):
 PE X (.Call (.Name x p) (e::es) [] pos) (zE sp [] E0 t):=vf F hr hg D.mg D.fn.kp D.bd .nil (fun _ _ _ _ _ _ _ h=>(v5 h).elim) ha hdb he hpl
noncomputable def upTo(m:Nat):List Int:=(List.range (m - 1)).map fun(k:Nat)=>1+(k:Int)
structure Du (cl:Cn)(d m:Nat)(good:List (Int × Int)->Bool):Prop where
 lt:m<12
 ge:1<=m
 few:(aJ 11 (upTo m)).length<=100000
 need:∃ n h',evs Pg n d (.call 4 [.int m]) [] (heapOf [])= .ok (.w .non) h'/\h'.n=0
 dif:∀ ps ∈ aJ 11 (upTo m),ps.Nodup/\∃ n h',evs Pg n d (.call 6 [.int m,.ref 0]) [] (heapOf (psO ps))= .ok (.w (.bl (good ps))) h'/\rF (psO ps) h'=true
noncomputable def adC(cl:Cn)(m:Nat)(good:List (Int × Int)->Bool):Sp:=fun vs H Q _=>vs= [.int m]/\Tb cl H/\
 ∀(r:Addr) (as:List Addr) (H':Hp),H r=none->cO cl H H'->H' r=some (.lst (as.map V.ref))->LAs H H' as ((aJ 11 (upTo m)).filter good)->(∀ x ∈ as,H x=none/\x ≠ r)->Q (.ref r) H'
theorem adD{cl:Cn}{d f:Nat}{m:Int}{H:Hp}{Q:VK}{E:XK}{n:Nat}{r:W}{h':Hs}(t:Tb cl H)(e:evs Pg n d (.call f [.int m]) [] (heapOf [])= .ok (.w r) h')(z:h'.n=0)(q:∀ H' v,cO cl H H'->RW [] r v->Q v H'):spF Pg cl d f [.int m] H Q E:=by
 refine⟨[],[.int m],heapOf [],n,Oj t rfl List.nodup_nil (fun k a o h=>by simp at h),.cons (.int m) .nil,?_⟩;rw[e];intro ρ' H' b s';have:ρ'= []:=List.length_eq_zero_iff.mp (s'.len.trans z);subst this;refine⟨r,rfl,fun v hv=>q H' v ⟨fun c u e=>?_,fun _=>s'.tb⟩ hv⟩;exact(b.2 c u e (by simp)).2
theorem Rn{a:Adr}{d m:Nat}{good:List (Int × Int)->Bool}(T:Txt w K mg a)(A0:Al P w K mg base a d)(R:Du (cn a) d m good):bB P w K mg base CX0 (4*d+34) a.pY a.wQ ["m"] (adC (cn a) m good):=by
 have wY:=O4 (P:=P) (w:=w) (K:=K) (mg:=mg) (base:=base) T 11;refine(T.nM.fn.ok (k:=4*d+33) MP (fun vs H Q E h=>?_) (fun cdv A outer s H vs Q E hr h=>?_)).mono (by omega)
 · obtain⟨rfl,_⟩:=h;rfl
 obtain⟨rfl,tb,q⟩:=h
 refine⟨_,(cJ (jH (Rm T.jB A0.Av (hr.mono (by omega)) rfl (aK (pv 0) bw)))
  (b7 (kj (Nx (gW (N':=["pairs","m"]) (nt:=1) (idx:=[0]) (N:=["m"]) (osc:=aj rJ) rfl rfl (by decide +kernel)) rfl (qm (Cq T.kh wY (hr.mono (by omega)) rfl (aK (uf (QJ hr.hd) rfl T.vO rfl (aK (uf QH rfl T.eG boot_range (aK cX (aK (pv 0) bw))) bw)) bw))) (Ji (fun _ _ _ _=>ql (i:=0) (show List.Nodup (["pairs","m"]:List Str) by decide +kernel) rfl (Or.inl rfl)) (fun _ _ _ _=>Eu (Zf (Rm T.qC A0.Wd (hr.mono (by omega)) rfl (aK (pv 1) (aK (pv 0) bw))))) (fun _ _ _ _=>(pv 0))))))),?_⟩
 obtain⟨n0,h0,e0,z0⟩:=R.need;refine⟨_,rfl,adD tb e0 z0 fun H1 v1 s1 rv=>?_⟩;have hm1:=R.lt;have hm2:=R.ge;refine⟨_,rfl,1,m,rfl,fun l hl=>⟨l,1,m,rfl,az,by omega,by omega,by omega,by omega,fun L hL=>?_⟩⟩
 have eL:yx ((m:Int) - 1).toNat 1=(upTo m).map V.int:=by
  rw[show((m:Int) - 1).toNat=m - 1 by omega];simp[yx,upTo]
 rw[eL];have lu:(upTo m).length=m - 1:=by simp[upTo]
 have s3:cO (cn a) H (upd (upd H1 l (.ext (CP l 1 m))) L (.lst ((upTo m).map V.int))):=s1.trans (cO.of ((fG hl _).trans (fG hL _)));refine⟨L,upTo m,rfl,az,by omega,by omega,R.few,fun r2 as2 H4 hr2 s4 hr4 la2 fr2=>?_⟩;generalize hH3:upd (upd H1 l (.ext (CP l 1 m))) L (.lst ((upTo m).map V.int))=H3 at s3 hr2 s4 la2 fr2;have s04:cO (cn a) H H4:=s3.trans (cO.of s4);have la2:LAs H H4 as2 (aJ 11 (upTo m)):=la2.old fun b e=>s3.free e;have tb4:=s04.2 tb;refine⟨r2,rfl,⟨_,SqL.of hr4⟩,fun D hD=>?_⟩;have nr2:r2 ≠ D:=bL hr4 hD
 have nas:∀ z ∈ as2,z ≠ D:=fun z hz e=>by
  obtain⟨i,hi⟩:=List.getElem?_of_mem hz;obtain⟨ps,_,bs,⟨h1,_⟩,_⟩:=Paired.Bs la2 hi;rw[e,hD]at h1;cases h1
 refine Ny (K:=K) (a:=r2) (xs:=as2.map V.ref) (fun i H5=>∃ as:List Addr,cO (cn a) H4 H5/\H5 D=some (.lst (as.map V.ref))/\LAs H H5 as (((aJ 11 (upTo m)).take i).filter good)/\(∀ z ∈ as,z ∈ as2)/\LAs H H5 as2 (aJ 11 (upTo m))/\H5 r2=some (.lst (as2.map V.ref))) ?_ ?_ ?_ ?_
 · exact⟨[],cO.of (fG hD _),by rw[az];rfl,.nil,by simp,la2.same (fG hD _),by rw[aB nr2];exact hr4⟩
 · rintro i H5 _ ⟨as,s5,hD5,la5,fr5,lb5,hr5⟩;exact SqL.of hr5
 · rintro i y H5 hi ⟨as,s5,hD5,la5,fr5,lb5,hr5⟩
   obtain⟨a2,ha2,rfl⟩:∃ z,as2[i]? =some z/\y=V.ref z:=by
    rw[List.getElem?_map]at hi
    cases e:as2[i]? with
    | none=>rw[e]at hi;cases hi
    | some z=>rw[e]at hi;exact⟨z,rfl,(Option.some.inj hi).symm⟩
   obtain⟨ps,hps,bs,pa,nbs⟩:=Paired.Bs lb5 ha2;obtain⟨nd,n1,h1,e1,k1⟩:=R.dif ps (List.mem_of_getElem? hps);have tb5:=s5.2 tb4;have etk:(aJ 11 (upTo m)).take (i+1)=(aJ 11 (upTo m)).take i ++ [ps]:=by rw[List.take_add_one,hps];rfl
   have hil:i<(aJ 11 (upTo m)).length:=(bu hps).1;refine⟨⟨rfl,trivial⟩,_,rfl,_,rfl,pa.call nd tb5 e1 k1 fun ρ' H6 v hp hn s' s6 rv=>?_⟩;have s46:=s5.trans s6;have tb6:=s6.2 tb5;cases rv;refine⟨_,rfl,?_⟩;have hD6:=s6.at tb5 (fun _ z=>by cases z) hD5;have hr6:=s6.at tb5 (fun _ z=>by cases z) hr5;have la6:=la5.CV s6 tb5;have lb6:=lb5.CV s6 tb5
   cases hg:good ps with
   | false=>
     refine vU ⟨as,s46,hD6,?_,fr5,lb6,hr6⟩;rw[etk,List.filter_append]
     simpa [hg] using la6
   | true=>
     refine vV ?_
     have pa6:Lp H H6 a2 ps:=by
      obtain⟨p',hp',x⟩:=Paired.Bs lb6 ha2;rw[hps]at hp';cases hp';exact x
     have na2:=nas a2 (List.mem_of_getElem? ha2);refine⟨_,rfl,_,hD6,?_,as ++ [a2],s46.put tb6 hD hD6,by rw[az,List.map_append];rfl,?_,?_,lb6.put hD6 nas,by rw[aB nr2];exact hr6⟩
     · have:=la5.length;have h2:=List.length_filter_le good ((aJ 11 (upTo m)).take i);have h3:=R.few;rw[List.length_take]at h2;rw[List.length_map,sizeLine_eq];omega
     · rw[etk,List.filter_append];have:([ps].filter good)= [ps]:=by simp[hg]
       rw[this];exact Paired.QK (pa6.put na2 hD6) (la6.put hD6 fun z hz=>nas z (fr5 z hz))
     · intro z hz
       rcases List.mem_append.mp hz with hz | hz
       · exact fr5 z hz
       · have:z=a2:=by simpa using hz
         rw[this];exact List.mem_of_getElem? ha2
 · rintro H5 ⟨as,s5,hD5,la5,fr5,lb5,hr5⟩;rw[List.length_map,lb5.length,List.take_length]at la5;refine q D as H5 (s04.free hD) (s04.trans s5) hD5 la5 fun z hz=>⟨s3.free (fr2 z (fr5 z hz)).1,nas z (fr5 z hz)⟩
theorem abq{X:Cx}{ss:List Stmt}:PSs X ss (fun _ _ _=>False):=fun _ _ _ _ _ _ h=>h.elim
structure Lw (cl:Cn)(d m:Nat)(ps:List (Int × Int))(adds:List Int):Prop where
 st:∃ good pre post,Du cl d m good/\(aJ 11 (upTo m)).filter good=pre++ps::post/\
  ∀ x ∈ pre,x.Nodup/\∃ n h',evs Pg n d (.call 9 [.int m,.ref 0]) [] (heapOf (psO x))= .ok (.w .non) h'/\rF (psO x) h'=true
 nd:ps.Nodup
 yes:∃ n k h',evs Pg n d (.call 9 [.int m,.ref 0]) [] (heapOf (psO ps))= .ok (.w (.ref k)) h'/\rF (psO ps) h'=true/\ps.length<k/\h'.get k=some (.lst (adds.map W.int))
theorem O5{ρ:List Addr}:∀ {xs:List Int} {vs:List V},RWs ρ (xs.map W.int) vs->vs=xs.map V.int
 | [],_,.nil=>rfl
 | x::xs,_,.cons (.int _) t=>by rw[O5 t];rfl
theorem Ud{a:Adr}{d:Nat}{tbl:Nat->Option (List (Int × Int) × List Int)}(T:Txt w K mg a)(A0:Al P w K mg base a d)(R:∀ m ps adds,tbl m=some (ps,adds)->Lw (cn a) d m ps adds):bB P w K mg base CX0 (4*d+36) a.o_ a.ux ["m"] (Fj (cn a) tbl):=by
 refine(T.jX.fn.ok (k:=4*d+35) wH (fun vs H Q E h=>?_) (fun cdv A outer s H vs Q E hr h=>?_)).mono (by omega)
 · obtain⟨_,_,_,rfl,_⟩:=h;rfl
 obtain⟨m,ps,adds,rfl,hR,tb,q⟩:=h;obtain⟨⟨good,pre,post,RS,ef,no⟩,nd,n9,k9,h9,e9,kq9,lk9,g9⟩:=R m ps adds hR;have Ro:=Rn (P:=P) (w:=w) (K:=K) (mg:=mg) (base:=base) T A0 RS
 refine⟨_,(cJ (yf PassesOwn.never rfl (qm (Cq T.nM Ro (hr.mono (by omega)) rfl (aK (pv 0) bw))) (ql (i:=1) wH.nd rfl (Or.inl rfl))
  (cJ (pF (i:=2) wH.nd rfl (Or.inl rfl) (Rm T.jh A0.HX (hr.mono (by omega)) rfl (aK (pv 0) (aK (pv 1) bw))))
  (b7 (zy (Jy (Nf (pv 2))) (b7 (kj (u_ (aK (pv 1) (aK (pv 2) bw))))) uZ))))
  abq),?_⟩
 refine⟨_,rfl,rfl,tb,fun r as H1 hr0 s1 hr1 la1 fr1=>?_⟩;rw[ef]at la1;have tb1:=s1.2 tb;refine⟨r,rfl,⟨_,SqL.of hr1⟩,?_⟩;refine vR (K:=K) (a:=r) (xs:=as.map V.ref) (fun i σ H5=>i<=pre.length/\∃ v1 v2:Option V,σ= [some (.int (m:Nat)),v1,v2]/\cO (cn a) H1 H5) ?_ ?_ ?_ ?_
 · exact⟨Nat.zero_le _,none,none,rfl,cO.of (fun _ _ e=>e)⟩
 · rintro i σ H5 _ ⟨_,v1,v2,rfl,s5⟩;exact SqL.of (s5.at tb1 (fun _ z=>by cases z) hr1)
 · rintro i y σ H5 hi ⟨hip,v1,v2,rfl,s5⟩
   obtain⟨a2,ha2,rfl⟩:∃ z,as[i]? =some z/\y=V.ref z:=by
    rw[List.getElem?_map]at hi
    cases e:as[i]? with
    | none=>rw[e]at hi;cases hi
    | some z=>rw[e]at hi;exact⟨z,rfl,(Option.some.inj hi).symm⟩
   have tb5:=s5.2 tb1;obtain⟨x,hx,bs,pa,nbs⟩:=Paired.Bs (la1.CV s5 tb1) ha2
   rcases Nat.lt_or_eq_of_le hip with hlt | rfl
   · rw[List.getElem?_append_left hlt]at hx;obtain⟨ndx,n1,h1,e1,k1⟩:=no x (List.mem_of_getElem? hx);refine⟨_,rfl,_,rfl,pa.call ndx tb5 e1 k1 fun ρ' H6 v hp hn s' s6 rv=>?_⟩;cases rv;refine⟨_,rfl,_,rfl,?_⟩;exact⟨hlt,_,_,rfl,s5.trans s6⟩
   · have hx':x=ps:=by
      rw[List.getElem?_append_right (aA _)]at hx;simpa using hx.symm
     subst hx';refine⟨_,rfl,_,rfl,pa.call nd tb5 e9 kq9 fun ρ' H6 v hp hn s' s6 rv=>?_⟩
     cases rv with
     | @ref _ b hb=>
     have bl:bs.length=x.length:=pa.2.length
     have hbn:b ∉ a2::bs:=fun z=>by
      obtain⟨j,hj⟩:=List.getElem?_of_mem z;have hjl:j<(a2::bs).length:=(bu hj).1;have h2:=gJ hp hj;have:=(List.getElem?_inj (bu hb).1 s'.nd).mp (hb.trans h2.symm);rw[List.length_cons,bl]at hjl;omega
     have s15:=s1.trans s5;have s16:=s15.trans s6;have tb6:=s6.2 tb5;have hb0:H b=none:=s15.free (hn b (List.mem_of_getElem? hb) hbn);obtain⟨vs,rw6,hb6⟩:=s'.at hb g9;rw[O5 rw6]at hb6;have pa6:PsA H6 a2 bs x:=⟨s6.at tb5 (fun _ z=>by cases z) pa.1,Paired.nU pa.2 fun _ _ e=>s6.at tb5 (fun _ z=>by cases z) e⟩;refine⟨_,rfl,_,rfl,?_⟩;refine⟨_,rfl,_,rfl,by show 2<=sizeLine;decide,fun R' hR'=>?_⟩;have sN:=fG hR' (.tup [.ref a2,.ref b]);refine q R' a2 b bs _ ?_ ?_ (s16.trans (cO.of sN)) az ⟨sN _ _ pa6.1,Paired.nU pa6.2 fun _ _ e=>sN _ _ e⟩ (sN _ _ hb6)
     · have h1:=pa6.nd nd;refine List.nodup_append.mpr ⟨h1,?_,fun c hc e he z=>?_⟩
       · rw[List.nodup_cons];refine⟨fun z=>?_,by simp⟩;have:b=R':=by simpa using z
         rw[<- this,hb6]at hR';cases hR'
       · subst z
         rcases List.mem_cons.mp he with rfl | he
         · exact hbn hc
         · have:c=R':=by simpa using he
           subst this
           rcases List.mem_cons.mp hc with rfl | hc
           · rw[pa6.1]at hR';cases hR'
           · obtain⟨j,hj⟩:=List.getElem?_of_mem hc;obtain⟨_,_,e⟩:=Paired.Bs pa6.2 hj;rw[e]at hR';cases hR'
     · intro c hc
       rcases List.mem_append.mp hc with hc | hc
       · rcases List.mem_cons.mp hc with rfl | hc
         · exact(fr1 _ (List.mem_of_getElem? ha2)).1
         · exact nbs c hc
       · rcases List.mem_cons.mp hc with rfl | hc
         · exact hb0
         · have:c=R':=by simpa using hc
           rw[this];exact s16.free hR'
 · rintro σ H5 ⟨hle,_⟩;rw[List.length_map,la1.length,List.length_append,List.length_cons]at hle;omega
noncomputable def nR(m:Nat)(ps:List (Int × Int)):Bool:=decide ((ps.map (fun p=>(p.1 - p.2) % (m:Int))++ps.map fun p=>(p.2 - p.1) % (m:Int)).Nodup)
noncomputable def abr(m:Nat)(ps:List (Int × Int)):Ev.R A->Bool
 | .ok (.w (.bl b)) h=>(b==nR m ps)&&rF (psO ps) h
 | _=>false
noncomputable def Lx(m:Nat)(ps:List (Int × Int)):Bool:=decide ps.Nodup&&abr m ps (evs Pg 60 10 (.call 6 [.int m,.ref 0]) [] (heapOf (psO ps)))
noncomputable def noR(ps:List (Int × Int)):Ev.R A->Bool
 | .ok (.w .non) h=>rF (psO ps) h
 | _=>false
noncomputable def noQ(m:Nat)(ps:List (Int × Int)):Bool:=decide ps.Nodup&&noR ps (evs Pg 200 10 (.call 9 [.int m,.ref 0]) [] (heapOf (psO ps)))
noncomputable def abt(ps:List (Int × Int))(adds:List Int):Ev.R A->Bool
 | .ok (.w (.ref k)) h=>rF (psO ps) h&&(decide (ps.length<k)&&decide (h.get k=some (.lst (adds.map W.int))))
 | _=>false
noncomputable def Ly(m:Nat)(ps:List (Int × Int))(adds:List Int):Bool:=decide ps.Nodup&&abt ps adds (evs Pg 200 10 (.call 9 [.int m,.ref 0]) [] (heapOf (psO ps)))
noncomputable def Dv:Ev.R A->Bool
 | .ok (.w .non) h=>decide (h.n=0)
 | _=>false
theorem g7:(aJ 11 (upTo 7)).all (Lx 7)=true:=by decide +kernel
theorem g9:(aJ 11 (upTo 9)).all (Lx 9)=true:=by decide +kernel
theorem g11:(aJ 11 (upTo 11)).all (Lx 11)=true:=by decide +kernel
theorem y7:Ly 7 [(1,3),(2,6),(4,5)] [2,4,1] =true:=by decide +kernel
theorem y9:Ly 9 [(1,2),(3,7),(4,6),(5,8)] [5,4,2,7] =true:=by decide +kernel
theorem y11:Ly 11 [(1,2),(3,6),(4,8),(5,10),(7,9)] [3,9,1,4,5] =true:=by decide +kernel
theorem p7:((aJ 11 (upTo 7)).filter (nR 7)).take 1= [] ++ [[(1,3),(2,6),(4,5)]]:=by decide +kernel
theorem p9:((aJ 11 (upTo 9)).filter (nR 9)).take 2=((aJ 11 (upTo 9)).filter (nR 9)).take 1 ++ [[(1,2),(3,7),(4,6),(5,8)]]:=by decide +kernel
theorem q9:(((aJ 11 (upTo 9)).filter (nR 9)).take 1).all (noQ 9)=true:=by decide +kernel
theorem p11:((aJ 11 (upTo 11)).filter (nR 11)).take 1= [] ++ [[(1,2),(3,6),(4,8),(5,10),(7,9)]]:=by decide +kernel
theorem n7:Dv (evs Pg 60 10 (.call 4 [.int (7:Nat)]) [] (heapOf []))=true:=by decide +kernel
theorem n9:Dv (evs Pg 60 10 (.call 4 [.int (9:Nat)]) [] (heapOf []))=true:=by decide +kernel
theorem n11:Dv (evs Pg 60 10 (.call 4 [.int (11:Nat)]) [] (heapOf []))=true:=by decide +kernel
theorem adE:(aJ 11 (upTo 7)).length<=100000:=by decide +kernel
theorem adF:(aJ 11 (upTo 9)).length<=100000:=by decide +kernel
theorem acI:(aJ 11 (upTo 11)).length<=100000:=by decide +kernel
theorem Rp{cl:Cn}{m:Nat}(h1:m<12)(h2:1<=m)(few:(aJ 11 (upTo m)).length<=100000)(nr:Dv (evs Pg 60 10 (.call 4 [.int m]) [] (heapOf []))=true)(g:(aJ 11 (upTo m)).all (Lx m)=true):Du cl 10 m (nR m) where
 lt:=h1
 ge:=h2
 few:=few
 need:=by
  generalize e:evs Pg 60 10 (.call 4 [.int m]) [] (heapOf [])=r at nr;unfold Dv at nr
  split at nr
  · exact⟨60,_,e,of_decide_eq_true nr⟩
  · cases nr
 dif:=fun ps hps=>by
  have q:=List.all_eq_true.mp g ps hps;unfold Lx at q;rw[Bool.and_eq_true]at q;obtain⟨q1,q2⟩:=q;refine⟨of_decide_eq_true q1,60,?_⟩;generalize evs Pg 60 10 (.call 6 [.int m,.ref 0]) [] (heapOf (psO ps))=r at q2;unfold abr at q2
  split at q2
  · rename_i b h;rw[Bool.and_eq_true]at q2;have:b=nR m ps:=by simpa using q2.1
    exact⟨h,by rw[this],q2.2⟩
  · cases q2
theorem Rq{cl:Cn}{m j:Nat}{ps:List (Int × Int)}{adds:List Int}{pre:List (List (Int × Int))}(S:Du cl 10 m (nR m))(e:((aJ 11 (upTo m)).filter (nR m)).take j=pre ++ [ps])(n:pre.all (noQ m)=true)(y:Ly m ps adds=true):Lw cl 10 m ps adds:=by
 unfold Ly at y;rw[Bool.and_eq_true]at y;obtain⟨y1,y2⟩:=y;refine⟨⟨_,pre,((aJ 11 (upTo m)).filter (nR m)).drop j,S,?_,fun x hx=>?_⟩,of_decide_eq_true y1,?_⟩
 · rw[show pre++ps::((aJ 11 (upTo m)).filter (nR m)).drop j=(pre ++ [ps])++((aJ 11 (upTo m)).filter (nR m)).drop j by simp,<- e,List.take_append_drop]
 · have q:=List.all_eq_true.mp n x hx;unfold noQ at q;rw[Bool.and_eq_true]at q;obtain⟨q1,q2⟩:=q;refine⟨of_decide_eq_true q1,200,?_⟩;generalize evs Pg 200 10 (.call 9 [.int m,.ref 0]) [] (heapOf (psO x))=r at q2;unfold noR at q2
   split at q2
   · exact⟨_,rfl,q2⟩
   · cases q2
 · refine⟨200,?_⟩;generalize evs Pg 200 10 (.call 9 [.int m,.ref 0]) [] (heapOf (psO ps))=r at y2;unfold abt at y2
   split at y2
   · rename_i k h;rw[Bool.and_eq_true,Bool.and_eq_true]at y2;exact⟨k,h,rfl,y2.1,of_decide_eq_true y2.2.1,of_decide_eq_true y2.2.2⟩
   · cases y2
theorem plr{cl:Cn}(m:Nat)(ps:List (Int × Int))(adds:List Int)(h:QL m=some (ps,adds)):Lw cl 10 m ps adds:=by
 unfold QL at h
 split at h
 · cases h;exact Rq (Rp (by decide) (by decide) adE n7 g7) p7 rfl y7
 · cases h;exact Rq (Rp (by decide) (by decide) adF n9 g9) p9 q9 y9
 · cases h;exact Rq (Rp (by decide) (by decide) acI n11 g11) p11 rfl y11
 · cases h
theorem Ue{a:Adr}(T:Txt w K mg a):bB P w K mg base CX0 76 a.o_ a.ux ["m"] (Fj (cn a) QL):=Ud T (Xf T 10) fun m ps adds h=>plr m ps adds h
structure All (P:Program)(w:World)(K:ak)(mg:Str->Option Value)(base:Heap)(a:Adr)(d:Nat):Prop extends Al P w K mg base a d where
 Rr:Fq P w K mg base a (4*d+108) d a.m_ a.rM ["plan","at"] 0
 Ug:Fq P w K mg base a (4*d+108) d a.o9 a.uw ["plan","at","pair"] 1
 YH:Fq P w K mg base a (4*d+108) d a.rW a.z6 ["plan","pair"] 2
 O6:Fq P w K mg base a (4*d+108) d a.rY a.z7 ["plan","one","other"] 3
 Rt:Fq P w K mg base a (4*d+108) d a.nA a.rN ["kind","tables"] 10
 BP:Fq P w K mg base a (4*d+108) d a.d8 a.iM ["self","kind","tables"] 11
 vP:Fq P w K mg base a (4*d+108) d a.fK a.jR ["self"] 12
 zg:Fq P w K mg base a (4*d+108) d a.iQ a.mW ["self"] 13
 H_:Fq P w K mg base a (4*d+108) d a.gR a.kO ["self"] 14
 zj:Fq P w K mg base a (4*d+108) d a.cU a.gm ["self","at"] 15
 zm:Fq P w K mg base a (4*d+108) d a.cV a.gn ["self","table"] 16
 jG:Fq P w K mg base a (4*d+108) d a.dg a.gZ ["self","pair"] 17
 Y5:Fq P w K mg base a (4*d+108) d a.gU a.kW ["self","pair"] 18
 zp:Fq P w K mg base a (4*d+108) d a.iR a.mY ["self","at","table"] 19
 uW:Fq P w K mg base a (4*d+108) d a.bY a.dM ["self","at","table"] 20
 uX:Fq P w K mg base a (4*d+108) d a.bZ a.dN ["self","at","table"] 21
 Ru:Fq P w K mg base a (4*d+108) d a.nD a.rO ["_law_found"] 22
 Aw:Fq P w K mg base a (4*d+108) d a.lD a.qH ["_law_found","_law_due"] 23
 Ax:Fq P w K mg base a (4*d+108) d a.lE a.qJ ["_law_m","_law_x","_law_y"] 24
 Dw:Fq P w K mg base a (4*d+108) d a.gO a.lZ ["_law_m"] 25
 Lz:Fq P w K mg base a (4*d+108) d a.jQ a.p_ ["_law_m","_law_pairs"] 26
 Ge:Fq P w K mg base a (4*d+108) d a.iB a.nG ["_law_m"] 27
 BR:Fq P w K mg base a (4*d+108) d a.bV a.j9 ["_law_number"] 28
 BV:Fq P w K mg base a (4*d+108) d a.fJ a.j_ ["_law_t"] 29
 M6:Fq P w K mg base a (4*d+108) d a.lF a.qK ["_law_kind","_law_t"] 30
 Ia:Fq P w K mg base a (4*d+108) d a.jf a.oX ["_law_number","_law_most"] 31
 Ib:Fq P w K mg base a (4*d+108) d a.jg a.oY ["_law_rows_here"] 32
theorem all_zero{a:Adr}:All P w K mg base a 0:=⟨OJ,bf,bf,bf,bf,bf,bf,bf,bf,bf,bf,bf,bf,bf,bf,bf,bf,bf,bf,bf,bf,bf,bf,bf,bf,bf,bf,bf⟩
theorem M7(T:Txt w K mg a)(A0:All P w K mg base a d):Fq P w K mg base a (4*(d+1)+108) (d+1) a.m_ a.rM ["plan","at"] 0:=by
 refine(cg (k:=4*d+111) T.nH.fn oE rfl fun σ0 cdv A outer s H E hr hp=>?_).mono (by omega)
 exact(aa (cj 2 oE.nd Yn)
  (aa (iG PassesOwn.leaving rfl jL (fX rfl T.eG (Kv (iH T.aU T.cz (dv 0)) aq)) (aP 3 oE.nd)
  (aa (sU (Bl (lB T.aU T.xu A0.zp (hr.mono (by omega)) T.yU hp (dv 0) (ao (dv 1) (ao (dv 3) aq))) E_ (Fb aC)) (gj rfl (aO (aP 4 oE.nd) (aO (aP 5 oE.nd) eE))))
  (aa (Oh hr.u1 (dv 2) (dv 4) (eX (ao (dv 3) (cH (gh [102,105,114,115,116]) aq))))
  (aa (Oh hr.u1 (dv 2) (dv 5) (eX (ao (dv 3) (cH (gh [115,101,99,111,110,100]) aq))))
  au))))
  (aa (aQ (dv 2))
  au)))
theorem Rv(T:Txt w K mg a)(A0:All P w K mg base a d):Fq P w K mg base a (4*(d+1)+108) (d+1) a.o9 a.uw ["plan","at","pair"] 1:=by
 refine(cg (k:=4*d+111) T.jW.fn j7 rfl fun σ0 cdv A outer s H E hr hp=>?_).mono (by omega)
 exact(aa (sU (Ym hr.u1 (gM A0.Rr T.nH hr hp (ao (dv 0) (ao (dv 1) aq))) (dv 2)) (gj rfl (aO (aP 3 j7.nd) (aO (aP 4 j7.nd) eE))))
  (aa (sU (lB T.aU T.xu A0.zp (hr.mono (by omega)) T.yU hp (dv 0) (ao (dv 1) (ao (dv 3) aq))) (gj rfl (aO (aP 5 j7.nd) (aO (aP 6 j7.nd) (aO (aP 7 j7.nd) eE)))))
  (aa (cj 8 j7.nd (qt (bh ju (dJ hr.units) (dv 4) (gh [102,105,114,115,116]) (aY _)) (dv 6) (dv 5)))
  (aa (aQ (eX (ao (dv 3) (ao (dv 4) (ao (dv 8) (ao (dv 7) aq))))))
  au))))
theorem We(T:Txt w K mg a)(A0:All P w K mg base a d):Fq P w K mg base a (4*(d+1)+108) (d+1) a.rW a.z6 ["plan","pair"] 2:=by
 refine(cg (k:=4*d+111) T.rZ.fn Wa rfl fun σ0 cdv A outer s H E hr hp=>?_).mono (by omega)
 exact(aa (iy (lB T.aU T.jt A0.jG (hr.mono (by omega)) T.jF hp (dv 0) (ao (dv 1) aq)))
  (aa (aQ (jw (gW (N':=["at","plan","pair"]) (nt:=1) (idx:=[0,1]) (N:=["plan","pair"]) (osc:=aj zY) rfl rfl (by decide +kernel)) rfl jL (fX rfl T.eG (rT (sW T.aU T.uy A0.vP (hr.mono (by omega)) T.vN hp (dv 0)) aq)) (fun C0 s0 H0 fp0=>(aP 0 (show List.Nodup (["at","plan","pair"]:List Str) by decide +kernel))) (fun C0 s0 H0 fp0=>lA) (fun C0 s0 H0 fp0=>(vC (A0.Ug) (hr.mono (by omega)) rfl T.jW.mg T.jW.fn.kp T.jW.bd Bo (ao (dv 1) (ao (dv 0) (ao (dv 2) aq))))) (by decide)))
  au))
theorem Wf(T:Txt w K mg a)(A0:All P w K mg base a d):Fq P w K mg base a (4*(d+1)+108) (d+1) a.rY a.z7 ["plan","one","other"] 3:=by
 refine(cg (k:=4*d+111) T.nJ.fn Wb rfl fun σ0 cdv A outer s H E hr hp=>?_).mono (by omega)
 exact(aa (iy (lB T.aU T.jt A0.jG (hr.mono (by omega)) T.jF hp (dv 0) (ao (dv 1) aq)))
  (aa (iy (lB T.aU T.jt A0.jG (hr.mono (by omega)) T.jF hp (dv 0) (ao (dv 2) aq)))
  (aa (aQ (d7 (m7 (K:=K)) bF rfl T.fW boot_len (gK (jw (gW (N':=["table","side","across","number","other"]) (nt:=4) (idx:=[2]) (N:=["plan","one","other"]) (osc:=aj zZ) rfl rfl (by decide +kernel)) rfl jK (iz rfl (gM A0.YH T.rZ hr hp (ao (dv 0) (ao (dv 1) aq)))) (fun C0 s0 H0 fp0=>(gj rfl (aO (aP 0 (show List.Nodup (["table","side","across","number","other"]:List Str) by decide +kernel)) (aO (aP 1 (show List.Nodup (["table","side","across","number","other"]:List Str) by decide +kernel)) (aO (aP 2 (show List.Nodup (["table","side","across","number","other"]:List Str) by decide +kernel)) (aO (aP 3 (show List.Nodup (["table","side","across","number","other"]:List Str) by decide +kernel)) eE)))))) (fun C0 s0 H0 fp0=>(zN (bh ju (dJ hr.units) (dv 2) (dv 4) (aY _)))) (fun C0 s0 H0 fp0=>(dv 2)) (by decide)) aq)))
  au)))
theorem M8(T:Txt w K mg a)(A0:All P w K mg base a d):Fq P w K mg base a (4*(d+1)+108) (d+1) a.nA a.rN ["kind","tables"] 10:=by
 refine(cg (k:=4*d+111) T.nP.fn uI rfl fun σ0 cdv A outer s H E hr hp=>?_).mono (by omega)
 exact(aa (dh (bh Vw (JQ hr.units) (dv 0) (gh [114,105,110,103]) (aY _)) (aa (aQ (cY aq))
  au) au)
  (aa (sU (Yp (Ue T) (hr.mono (by omega)) rfl T.jX.mg T.jX.fn.kp T.jX.bd (bG (aG iU fC (aG pM (L2.OpR.or d9 mG) aC (dv 1)) aC) aq)) (gj rfl (aO (aP 2 uI.nd) (aO (aP 3 uI.nd) eE))))
  (aa (aQ (jw (gW (N':=["b","x","y"]) (nt:=3) (idx:=[]) (N:=["kind","tables","pairs","adds"]) (osc:=aj rK) rfl rfl (by decide +kernel)) rfl Tf (SM rfl T.Jt (ao (dv 2) (ao (dv 3) aq))) (fun C0 s0 H0 fp0=>(gj rfl (aO (gj rfl (aO (aP 1 (show List.Nodup (["b","x","y"]:List Str) by decide +kernel)) (aO (aP 2 (show List.Nodup (["b","x","y"]:List Str) by decide +kernel)) eE))) (aO (aP 0 (show List.Nodup (["b","x","y"]:List Str) by decide +kernel)) eE)))) (fun C0 s0 H0 fp0=>lA) (fun C0 s0 H0 fp0=>(eX (ao (dv 1) (ao (dv 2) (ao (dv 0) aq))))) (by decide)))
  au)))
theorem Ac(T:Txt w K mg a)(A0:All P w K mg base a d):Fq P w K mg base a (4*(d+1)+108) (d+1) a.d8 a.iM ["self","kind","tables"] 11:=by
 refine(cg (k:=4*d+111) T.BK Aa rfl fun σ0 cdv A outer s H E hr hp=>?_).mono (by omega)
 exact(aa (dh (aaO T.o4 rfl T.yZ (dv 2) (Yi T.o4 rfl T.yZ (dv 1)) rfl) (aa (sX ⟨rfl,rfl,rfl⟩ rfl rfl T.wU (Ri T) (hr.mono (by omega)) T.xT rfl T.Q8)
  au) au)
  (aa (Ko T.aU T.eZ (dv 0) (dv 1))
  (aa (Ko T.aU T.cz (dv 0) (dv 2))
  (aa (Ko T.aU T.oZ (dv 0) (gM A0.Rt T.nP hr hp (ao (dv 1) (ao (dv 2) aq))))
  au))))
theorem Dy(T:Txt w K mg a)(A0:All P w K mg base a d):Fq P w K mg base a (4*(d+1)+108) (d+1) a.fK a.jR ["self"] 12:=by
 refine(cg (k:=4*d+111) T.F_ Dh rfl fun σ0 cdv A outer s H E hr hp=>?_).mono (by omega)
 exact(aa (dh (bh ju (dJ hr.units) (iH T.aU T.eZ (dv 0)) (gh [115,107,105,112]) (aY _)) (aa (aQ (aG iU fC (iH T.aU T.cz (dv 0)) aC))
  au) au)
  (aa (aQ (sW T.aU T.xr A0.zg (hr.mono (by omega)) T.yO hp (dv 0)))
  au))
theorem Ie(T:Txt w K mg a)(A0:All P w K mg base a d):Fq P w K mg base a (4*(d+1)+108) (d+1) a.iQ a.mW ["self"] 13:=by
 refine(cg (k:=4*d+111) T.Lh HD rfl fun σ0 cdv A outer s H E hr hp=>?_).mono (by omega)
 exact(aa (dh (bh ju (dJ hr.units) (iH T.aU T.eZ (dv 0)) (gh [114,105,110,103]) (aY _)) (aa (aQ (aG iU fC (aG pM (L2.OpR.or d9 mG) aC (iH T.aU T.cz (dv 0))) aC))
  au) au)
  (aa (aQ (iH T.aU T.cz (dv 0)))
  au))
theorem Gf(T:Txt w K mg a)(A0:All P w K mg base a d):Fq P w K mg base a (4*(d+1)+108) (d+1) a.gR a.kO ["self"] 14:=by
 refine(cg (k:=4*d+111) T.HN FQ rfl fun σ0 cdv A outer s H E hr hp=>?_).mono (by omega)
 exact(aa (aQ (aG pM (L2.OpR.or d9 mG) aC (iH T.aU T.cz (dv 0))))
  au)
theorem xY(T:Txt w K mg a)(A0:All P w K mg base a d):Fq P w K mg base a (4*(d+1)+108) (d+1) a.cU a.gm ["self","at"] 15:=by
 refine(cg (k:=4*d+111) T.yP xJ rfl fun σ0 cdv A outer s H E hr hp=>?_).mono (by omega)
 exact(aa (dh (PW.pt (uo (bh (Kc (K:=K)) (L2.OpR.or zA (yp hr.yj)) (dv 1) aC (aY _)) (pw_or1 (bh Bh ue (dv 1) (sW T.aU T.uy A0.vP (hr.mono (by omega)) T.vN hp (dv 0)) (aY _))))) (aa (sX ⟨rfl,rfl,rfl⟩ rfl rfl T.wV (Rj T) (hr.mono (by omega)) T.xV rfl T.Q_)
  au) au)
  au)
theorem xZ(T:Txt w K mg a)(A0:All P w K mg base a d):Fq P w K mg base a (4*(d+1)+108) (d+1) a.cV a.gn ["self","table"] 16:=by
 refine(cg (k:=4*d+111) T.yR xK rfl fun σ0 cdv A outer s H E hr hp=>?_).mono (by omega)
 exact(aa (dh (PW.pt (uo (bh (Kc (K:=K)) (L2.OpR.or zA (yp hr.yj)) (dv 1) aC (aY _)) (pw_or1 (bh Bh ue (dv 1) (iH T.aU T.cz (dv 0)) (aY _))))) (aa (sX ⟨rfl,rfl,rfl⟩ rfl rfl T.wW (Rk T) (hr.mono (by omega)) T.xX rfl T.Rb)
  au) au)
  au)
theorem zq(T:Txt w K mg a)(A0:All P w K mg base a d):Fq P w K mg base a (4*(d+1)+108) (d+1) a.dg a.gZ ["self","pair"] 17:=by
 refine(cg (k:=4*d+111) T.Ab yL rfl fun σ0 cdv A outer s H E hr hp=>?_).mono (by omega)
 exact(aa (dh (PW.pt (uo (bh (Kc (K:=K)) (L2.OpR.or zA (yp hr.yj)) (dv 1) aC (aY _)) (pw_or1 (bh Bh ue (dv 1) (sW T.aU T.Ga A0.H_ (hr.mono (by omega)) T.HQ hp (dv 0)) (aY _))))) (aa (sX ⟨rfl,rfl,rfl⟩ rfl rfl T.yX (Ua T) (hr.mono (by omega)) T.yW rfl T.T_)
  au) au)
  au)
theorem Gg(T:Txt w K mg a)(A0:All P w K mg base a d):Fq P w K mg base a (4*(d+1)+108) (d+1) a.gU a.kW ["self","pair"] 18:=by
 refine(cg (k:=4*d+111) T.HR FT rfl fun σ0 cdv A outer s H E hr hp=>?_).mono (by omega)
 exact(aa (iy (lB T.aU T.jt A0.jG (hr.mono (by omega)) T.jF hp (dv 0) (ao (dv 1) aq)))
  (aa (dh (PW.pt (uo (bh ju (dJ hr.units) (iH T.aU T.eZ (dv 0)) (gh [114,105,110,103]) (aY _)) (pw_or1 (bh (Kc (K:=K)) (L2.OpR.or zA (yp hr.yj)) (dv 1) (iH T.aU T.cz (dv 0)) (aY _))))) (aa (aQ aC)
  au) au)
  (aa (aQ aC)
  au)))
theorem Ig(T:Txt w K mg a)(A0:All P w K mg base a d):Fq P w K mg base a (4*(d+1)+108) (d+1) a.iR a.mY ["self","at","table"] 19:=by
 refine(cg (k:=4*d+111) T.Li HF rfl fun σ0 cdv A outer s H E hr hp=>?_).mono (by omega)
 exact(aa (iy (lB T.aU T.xN A0.zj (hr.mono (by omega)) T.yQ hp (dv 0) (ao (dv 1) aq)))
  (aa (iy (lB T.aU T.xO A0.zm (hr.mono (by omega)) T.yS hp (dv 0) (ao (dv 2) aq)))
  (aa (dh (bh ju (dJ hr.units) (iH T.aU T.eZ (dv 0)) (gh [114,105,110,103]) (aY _)) (aa (aQ (lB T.aU T.t8 A0.uW (hr.mono (by omega)) T.uR hp (dv 0) (ao (dv 1) (ao (dv 2) aq))))
  au) au)
  (aa (aQ (lB T.aU T.t_ A0.uX (hr.mono (by omega)) T.uU hp (dv 0) (ao (dv 1) (ao (dv 2) aq))))
  au))))
theorem uc(T:Txt w K mg a)(A0:All P w K mg base a d):Fq P w K mg base a (4*(d+1)+108) (d+1) a.bY a.dM ["self","at","table"] 20:=by
 refine(cg (k:=4*d+111) T.uQ cZ rfl fun σ0 cdv A outer s H E hr hp=>?_).mono (by omega)
 exact(aa (cj 3 cZ.nd (sW T.aU T.xr A0.zg (hr.mono (by omega)) T.yO hp (dv 0)))
  (aa (dh (bh ju (dJ hr.units) (dv 2) aC (aY _)) (aa (aQ (eX (ao (dv 3) (ao (dv 1) (ao (dv 1) aq)))))
  au) au)
  (aa (sU (fB (iH T.aU T.oZ (dv 0)) (aG iU fC (dv 2) aC)) (gj rfl (aO (aP 4 cZ.nd) (aO (aP 5 cZ.nd) (aO (aP 6 cZ.nd) eE)))))
  (aa (aQ (eX (bG (aG fu bQ (aG eV (L2.OpR.or b8 cM) (dv 4) (dv 1)) (dv 3)) (bG (aG fu bQ (aG eV (L2.OpR.or b8 cM) (dv 5) (dv 1)) (dv 3)) (bG (aG fu bQ (aG eV (L2.OpR.or b8 cM) (dv 6) (dv 1)) (dv 3)) aq)))))
  au))))
theorem ud(T:Txt w K mg a)(A0:All P w K mg base a d):Fq P w K mg base a (4*(d+1)+108) (d+1) a.bZ a.dN ["self","at","table"] 21:=by
 refine(cg (k:=4*d+111) T.uT c7 rfl fun σ0 cdv A outer s H E hr hp=>?_).mono (by omega)
 exact(aa (cj 3 c7.nd (iH T.aU T.cz (dv 0)))
  (aa (cj 4 c7.nd (aG S6 vY (dv 3) aC))
  (aa (cj 5 c7.nd (qt (PW.pt (vB (bh ju (dJ hr.units) (iH T.aU T.eZ (dv 0)) (gh [115,107,105,112]) (aY _)) (pw_and1 (bh Bh ue (dv 1) (dv 4) (aY _))))) (aG eV (L2.OpR.or b8 cM) (dv 1) aC) (dv 1)))
  (aa (cj 6 c7.nd (qt (PW.pt (vB (bh ju (dJ hr.units) (iH T.aU T.eZ (dv 0)) (gh [115,104,97,114,101,100]) (aY _)) (pw_and1 (bh Bh ue (dv 2) (dv 4) (aY _))))) (aG eV (L2.OpR.or b8 cM) (dv 1) aC) (dv 1)))
  (aa (aQ (eX (ao (dv 2) (bG (aG eV (L2.OpR.or b8 cM) (dv 3) (aG fu bQ (aG iU fC (dv 2) (dv 5)) (dv 3))) (bG (aG fu bQ (aG eV (L2.OpR.or b8 cM) (dv 2) (dv 6)) (dv 3)) aq)))))
  au)))))
theorem M9(T:Txt w K mg a)(A0:All P w K mg base a d):Fq P w K mg base a (4*(d+1)+108) (d+1) a.nD a.rO ["_law_found"] 22:=by
 refine(cg (k:=4*d+111) T.nQ.fn MT rfl fun σ0 cdv A outer s H E hr hp=>?_).mono (by omega)
 exact(aa (aQ (sS (mO (k:=0) (by decide) rfl T.cA rfl T.Jq boot_int (dv 0)) (uY (Yg (mO (k:=1) (by decide) rfl T.cA rfl T.y_ boot_bool (dv 0))))))
  au)
theorem LK(T:Txt w K mg a)(A0:All P w K mg base a d):Fq P w K mg base a (4*(d+1)+108) (d+1) a.lD a.qH ["_law_found","_law_due"] 23:=by
 refine(cg (k:=4*d+111) T.fU.fn La rfl fun σ0 cdv A outer s H E hr hp=>?_).mono (by omega)
 exact(aa (dh (aaB (dv 1)) (aa (aQ (aaA (dv 0)))
  au) au)
  (aa (dh (jZ (mO (k:=1) (by decide) rfl T.cA rfl T.y_ boot_bool (dv 1)) (fun _=>rfl)) (aa (aQ (sS (mO (k:=1) (by decide) rfl T.cA rfl T.y_ boot_bool (dv 0)) (uY (vA ju (dJ hr.units) (dv 0) (dv 1) (aY _)))))
  au) au)
  (aa (dh (jZ (mO (k:=0) (by decide) rfl T.cA rfl T.Jq boot_int (dv 1)) (fun _=>rfl)) (aa (aQ (sS (gM A0.Ru T.nQ hr hp (ao (dv 0) aq)) (uY (vA ju (dJ hr.units) (dv 0) (dv 1) (aY _)))))
  au) au)
  (aa (dh (jZ (mO (k:=2) (by decide) rfl T.cA rfl T.Js boot_str (dv 1)) (fun _=>rfl)) (aa (aQ (sS (mO (k:=2) (by decide) rfl T.cA rfl T.Js boot_str (dv 0)) (uY (vA ju (dJ hr.units) (dv 0) (dv 1) (aY _)))))
  au) au)
  (aa (dh (PW.pt (uo (PW.pt (vB (jZ (mO (k:=3) (by decide) rfl T.cA rfl T.z8 boot_tuple (dv 1)) (fun _=>rfl)) (pw_and1 (Kf (jZ (mO (k:=3) (by decide) rfl T.cA rfl T.z8 boot_tuple (dv 0)) (fun _=>rfl)))))) (pw_or1 (PW.pt (vB (jZ (mO (k:=4) (by decide) rfl T.cA rfl T.vO boot_list (dv 1)) (fun _=>rfl)) (pw_and1 (Kf (jZ (mO (k:=4) (by decide) rfl T.cA rfl T.vO boot_list (dv 0)) (fun _=>rfl))))))))) (aa (aQ Jj)
  au) au)
  (aa (aQ (sS (vA ju (dJ hr.units) (d7 (m7 (K:=K)) bF rfl T.fW boot_len (ao (dv 0) aq)) (d7 (m7 (K:=K)) bF rfl T.fW boot_len (ao (dv 1) aq)) (aY _)) (uY (d7 ab4 (Sq rfl) rfl T.Rf boot_all (gK (jw (gW (N':=["_law_k","_law_found","_law_due"]) (nt:=1) (idx:=[0,1]) (N:=["_law_found","_law_due"]) (osc:=aj qF) rfl rfl (by decide +kernel)) rfl jL (fX rfl T.eG (rT (d7 (m7 (K:=K)) bF rfl T.fW boot_len (ao (dv 1) aq)) aq)) (fun C0 s0 H0 fp0=>(aP 0 (show List.Nodup (["_law_k","_law_found","_law_due"]:List Str) by decide +kernel))) (fun C0 s0 H0 fp0=>lA) (fun C0 s0 H0 fp0=>(vC (A0.Aw) (hr.mono (by omega)) rfl T.fU.mg T.fU.fn.kp T.fU.bd Bo (jM (fB (dv 1) (dv 0)) (jM (fB (dv 2) (dv 0)) aq)))) (by decide)) aq)))))
  au))))))
theorem LQ(T:Txt w K mg a)(A0:All P w K mg base a d):Fq P w K mg base a (4*(d+1)+108) (d+1) a.lE a.qJ ["_law_m","_law_x","_law_y"] 24:=by
 refine(cg (k:=4*d+111) T.fV.fn Ld rfl fun σ0 cdv A outer s H E hr hp=>?_).mono (by omega)
 exact(aa (aQ (d7 ab8 (RV rfl) rfl T.Rg boot_min (bG (aG fu bQ (aG iU fC (dv 2) (dv 1)) (dv 0)) (bG (aG fu bQ (aG iU fC (dv 1) (dv 2)) (dv 0)) aq))))
  au)
theorem BW(T:Txt w K mg a)(A0:All P w K mg base a d):Fq P w K mg base a (4*(d+1)+108) (d+1) a.gO a.lZ ["_law_m"] 25:=by
 refine(cg (k:=4*d+111) T.gP.fn bU rfl fun σ0 cdv A outer s H E hr hp=>?_).mono (by omega)
 exact(aa (cj 1 bU.nd (cY (zR (cY aq) aq)))
  (aa (iG PassesOwn.leaving rfl jL (fX rfl T.eG (bG (aG S6 vY (aG iU fC (dv 0) aC) aC) aq)) (aP 2 bU.nd)
  (aa (cj 3 bU.nd (cY aq))
  (aa (iG PassesOwn.leaving rfl jK (iz rfl (dv 1)) (aP 4 bU.nd)
  (aa (cj 5 bU.nd (aG eV (L2.OpR.or b8 cM) (jw (gW (N':=["_law_x","_law_y"]) (nt:=2) (idx:=[]) (N:=["_law_m","_law_rows_here","_law_turn","_law_fresh","_law_row","_law_used","_law_left","_law_other","_law_steps"]) (osc:=aj eY) rfl rfl (by decide +kernel)) rfl jK (iz rfl (dv 4)) (fun C0 s0 H0 fp0=>(gj rfl (aO (aP 0 (show List.Nodup (["_law_x","_law_y"]:List Str) by decide +kernel)) (aO (aP 1 (show List.Nodup (["_law_x","_law_y"]:List Str) by decide +kernel)) eE)))) (fun C0 s0 H0 fp0=>lA) (fun C0 s0 H0 fp0=>(dv 0)) (by decide)) (jw (gW (N':=["_law_x","_law_y"]) (nt:=2) (idx:=[]) (N:=["_law_m","_law_rows_here","_law_turn","_law_fresh","_law_row","_law_used","_law_left","_law_other","_law_steps"]) (osc:=aj eY) rfl rfl (by decide +kernel)) rfl jK (iz rfl (dv 4)) (fun C0 s0 H0 fp0=>(gj rfl (aO (aP 0 (show List.Nodup (["_law_x","_law_y"]:List Str) by decide +kernel)) (aO (aP 1 (show List.Nodup (["_law_x","_law_y"]:List Str) by decide +kernel)) eE)))) (fun C0 s0 H0 fp0=>lA) (fun C0 s0 H0 fp0=>(dv 1)) (by decide))))
  (aa (Kl (i:=6) bU.nd rfl (Or.inl rfl) (gW (N':=["_law_number","_law_used"]) (nt:=1) (idx:=[5]) (N:=["_law_m","_law_rows_here","_law_turn","_law_fresh","_law_row","_law_used","_law_left","_law_other","_law_steps"]) (osc:=aj eY) rfl rfl (by decide +kernel)) rfl Oc (GC rfl T.eG (cH aC (ao (dv 0) aq))) (fun C0 s0 H0 fp0=>(aP 0 (show List.Nodup (["_law_number","_law_used"]:List Str) by decide +kernel))) (fun C0 s0 H0 fp0=>(zN (bh (zL (K:=K)) mF (dv 0) (dv 1) rfl))) (fun C0 s0 H0 fp0=>(dv 0)) (by decide))
  (aa (iG PassesOwn.leaving rfl jK (iz rfl (Bl (dv 6) (Fb aC) E_)) (aP 7 bU.nd)
  (aa (Kl (i:=8) bU.nd rfl (Or.inl rfl) (gW (N':=["_law_x","_law_y","_law_m"]) (nt:=2) (idx:=[0]) (N:=["_law_m","_law_rows_here","_law_turn","_law_fresh","_law_row","_law_used","_law_left","_law_other","_law_steps"]) (osc:=aj eY) rfl rfl (by decide +kernel)) rfl jK (iz rfl (dv 4)) (fun C0 s0 H0 fp0=>(gj rfl (aO (aP 0 (show List.Nodup (["_law_x","_law_y","_law_m"]:List Str) by decide +kernel)) (aO (aP 1 (show List.Nodup (["_law_x","_law_y","_law_m"]:List Str) by decide +kernel)) eE)))) (fun C0 s0 H0 fp0=>lA) (fun C0 s0 H0 fp0=>(vC (A0.Ax) (hr.mono (by omega)) rfl T.fV.mg T.fV.fn.kp T.fV.bd Bo (ao (dv 2) (ao (dv 0) (ao (dv 1) aq))))) (by decide))
  (aa (dh (bh (zL (K:=K)) mF (gM A0.Ax T.fV hr hp (ao (dv 0) (jM (fB (dv 6) aC) (ao (dv 7) aq)))) (dv 8) rfl) (aa (iy (zM sO PySem.F.slot_list_append PySem.F.type_list_append jm (dv 3) (bG (aG eV (L2.OpR.or b8 cM) (dv 4) (cY (jx (eX (jM (fB (dv 6) aC) (ao (dv 7) aq))) aq))) aq)))
  au) au)
  au)))
  au))))
  (aa (cj 1 bU.nd (dv 3))
  au))))
  (aa (aQ (dv 1))
  au)))
theorem Ih(T:Txt w K mg a)(A0:All P w K mg base a d):Fq P w K mg base a (4*(d+1)+108) (d+1) a.jQ a.p_ ["_law_m","_law_pairs"] 26:=by
 refine(cg (k:=4*d+111) T.jU.fn jd rfl fun σ0 cdv A outer s H E hr hp=>?_).mono (by omega)
 exact(aa (cj 2 jd.nd (cY (zR (cY aq) aq)))
  (aa (VB PassesOwn.leaving (bh aau Pj (d7 (m7 (K:=K)) bF rfl T.fW boot_len (ao (dv 2) aq)) aC (aY _))
  (aa (cj 3 jd.nd (aaF ab7 PySem.F.slot_list_pop PySem.F.type_list_pop ZV (dv 2)))
  (aa (cj 4 jd.nd (cY aq))
  (aa (iG PassesOwn.leaving rfl jL (fX rfl T.eG (rT (d7 (m7 (K:=K)) bF rfl T.fW boot_len (ao (dv 3) aq)) aq)) (aP 5 jd.nd)
  (aa (cj 4 jd.nd (aG eV (L2.OpR.or b8 cM) (dv 4) (cY (bG (aG fu bQ (aG iU fC (fB (dv 3) (dv 5)) (fB (fB (dv 1) (dv 5)) aC)) (dv 0)) (bG (aG fu bQ (aG iU fC (fB (dv 3) (dv 5)) (fB (fB (dv 1) (dv 5)) aC)) (dv 0)) aq)))))
  au))
  (aa (dh (PW.pt (uo (bh (adp (K:=K)) R1 aC (dv 4) rfl) (pw_or1 (bh Vw (JQ hr.units) (G_ hr.hd rfl T.fW rfl T.Jr (dv 4)) (d7 (m7 (K:=K)) bF rfl T.fW boot_len (ao (dv 4) aq)) (aY _))))) (aa MF
  au) au)
  (aa (dh (bh ju (dJ hr.units) (d7 (m7 (K:=K)) bF rfl T.fW boot_len (ao (dv 3) aq)) (d7 (m7 (K:=K)) bF rfl T.fW boot_len (ao (dv 1) aq)) (aY _)) (aa (aQ (dv 3))
  au) au)
  (aa (iy (zM Vv PySem.F.slot_list_extend PySem.F.type_list_extend R4 (dv 2) (gK (jw (gW (N':=["_law_b","_law_row"]) (nt:=1) (idx:=[3]) (N:=["_law_m","_law_pairs","_law_rows_here","_law_row","_law_found","_law_k"]) (osc:=aj pR) rfl rfl (by decide +kernel)) rfl Yb (SQ rfl T.eG (bG (aG iU fC (dv 0) aC) (cH aC (wu (Qx Qw JF aC) aq)))) (fun C0 s0 H0 fp0=>(aP 0 (show List.Nodup (["_law_b","_law_row"]:List Str) by decide +kernel))) (fun C0 s0 H0 fp0=>(zN (bh (zL (K:=K)) mF (dv 0) (dv 1) rfl))) (fun C0 s0 H0 fp0=>(aG eV (L2.OpR.or b8 cM) (dv 1) (cY (ao (dv 0) aq)))) (by decide)) aq)))
  au)))))))
  (aa (aQ J_)
  au)))
theorem Dz(T:Txt w K mg a)(A0:All P w K mg base a d):Fq P w K mg base a (4*(d+1)+108) (d+1) a.iB a.nG ["_law_m"] 27:=by
 refine(cg (k:=4*d+111) T.iC.fn pU rfl fun σ0 cdv A outer s H E hr hp=>?_).mono (by omega)
 exact(aa (iG PassesOwn.leaving rfl jK (iz rfl (gM A0.Dw T.gP hr hp (ao (dv 0) aq))) (aP 1 pU.nd)
  (aa (cj 2 pU.nd (gM A0.Lz T.jU hr hp (ao (dv 0) (ao (dv 1) aq))))
  (aa (dh (N6 (dv 2)) (aa (aQ (eX (ao (dv 1) (ao (dv 2) aq))))
  au) au)
  au)))
  (aa (aQ J_)
  au))
theorem Ad(T:Txt w K mg a)(A0:All P w K mg base a d):Fq P w K mg base a (4*(d+1)+108) (d+1) a.bV a.j9 ["_law_number"] 28:=by
 refine(aaR (k:=4*d+111) T.fL.fn n6 rfl fun σ0 cdv A outer s H E hr hp=>?_).mono (by omega);have q0:QS (cB (CXE P w) P w K mg base ["_law_number","_law_some"] "_law_some_plan" (aj bK) a.bV cdv A outer s H E) ((bA bK).getD 0 (.Pass ⟨0,0,0,0⟩)) (tS Pg (cn a) E d σ0 (.asg (.nm 1) (.pr .lst [(.pr .tup [(.cst (.str [115,116,114,97,105,103,104,116])),(.cst (.int 3))]),(.pr .tup [(.cst (.str [115,107,105,112])),(.cst (.int 4))]),(.pr .tup [(.cst (.str [115,104,97,114,101,100])),(.cst (.int 4))]),(.pr .tup [(.cst (.str [115,116,114,97,105,103,104,116])),(.cst (.int 5))]),(.pr .tup [(.cst (.str [114,105,110,103])),(.cst (.int 4))]),(.pr .tup [(.cst (.str [115,107,105,112])),(.cst (.int 6))]),(.pr .tup [(.cst (.str [115,104,97,114,101,100])),(.cst (.int 6))])]))):=(Tv (i:=1) n6.nd rfl (Or.inl rfl) (Tt (m8 [115,116,114,97,105,103,104,116] (m8 [115,107,105,112] (m8 [115,104,97,114,101,100] (m8 [115,116,114,97,105,103,104,116] (m8 [114,105,110,103] (m8 [115,107,105,112] (m8 [115,104,97,114,101,100] Tu)))))))));have q1:QS (cB (CXE P w) P w K mg base ["_law_number","_law_some"] "_law_some_plan" (aj bK) a.bV cdv A outer s H E) ((bA bK).getD 1 (.Pass ⟨0,0,0,0⟩)) (tS Pg (cn a) E d σ0 (.asg (.nm 1) (.pr .add [(.var 1),(.pr .lst [(.pr .tup [(.cst (.str [115,116,114,97,105,103,104,116])),(.cst (.int 7))]),(.pr .tup [(.cst (.str [114,105,110,103])),(.cst (.int 5))]),(.pr .tup [(.cst (.str [115,107,105,112])),(.cst (.int 8))]),(.pr .tup [(.cst (.str [115,104,97,114,101,100])),(.cst (.int 8))]),(.pr .tup [(.cst (.str [115,116,114,97,105,103,104,116])),(.cst (.int 9))]),(.pr .tup [(.cst (.str [114,105,110,103])),(.cst (.int 6))])])]))):=(Tv (i:=1) n6.nd rfl (Or.inl rfl) (acg eV (L2.OpR.or b8 cM) ⟨(dv 1)⟩ (Tt (m8 [115,116,114,97,105,103,104,116] (m8 [114,105,110,103] (m8 [115,107,105,112] (m8 [115,104,97,114,101,100] (m8 [115,116,114,97,105,103,104,116] (m8 [114,105,110,103] Tu)))))))));have q2:QS (cB (CXE P w) P w K mg base ["_law_number","_law_some"] "_law_some_plan" (aj bK) a.bV cdv A outer s H E) ((bA bK).getD 2 (.Pass ⟨0,0,0,0⟩)) (tS Pg (cn a) E d σ0 (.ret (.pr .ix [(.var 1),(.pr .mod [(.var 0),(.cst (.int 13))])]))):=⟨(aQ (fB (dv 1) (aG fu bQ (dv 0) aC)))⟩;have z:QSs (cB (CXE P w) P w K mg base ["_law_number","_law_some"] "_law_some_plan" (aj bK) a.bV cdv A outer s H E) (bA bK) (tSs Pg (cn a) E d σ0 tW):=(iI q0 (iI q1 (iI q2 Oi)));exact z
theorem Ae(T:Txt w K mg a)(A0:All P w K mg base a d):Fq P w K mg base a (4*(d+1)+108) (d+1) a.fJ a.j_ ["_law_t"] 29:=by
 refine(cg (k:=4*d+111) T.fM.fn cI rfl fun σ0 cdv A outer s H E hr hp=>?_).mono (by omega)
 exact(aa (cj 1 cI.nd (aG iU fC (aG pM (L2.OpR.or d9 mG) aC (dv 0)) aC))
  (aa (sU (gM A0.Ge T.iC hr hp (ao (dv 1) aq)) (gj rfl (aO (aP 2 cI.nd) (aO (aP 3 cI.nd) eE))))
  (aa (cj 4 cI.nd (cY aq))
  (aa (iG PassesOwn.leaving rfl jL (fX rfl T.eG (ao (dv 1) aq)) (aP 5 cI.nd)
  (aa (cj 6 cI.nd (cY (jx (eX (ao (dv 1) (ao (dv 5) (ao (dv 5) aq)))) aq)))
  (aa (iG PassesOwn.leaving rfl jL (fX rfl T.eG (bG (aG iU fC (dv 0) aC) aq)) (aP 7 cI.nd)
  (aa (iy (zM sO PySem.F.slot_list_append PySem.F.type_list_append jm (dv 6) (jx (eX (bG (aG fu bQ (aG eV (L2.OpR.or b8 cM) (fB (fB (dv 2) (dv 7)) aC) (dv 5)) (dv 1)) (bG (aG fu bQ (aG eV (L2.OpR.or b8 cM) (fB (fB (dv 2) (dv 7)) aC) (dv 5)) (dv 1)) (bG (aG fu bQ (aG eV (L2.OpR.or b8 cM) (fB (dv 3) (dv 7)) (dv 5)) (dv 1)) aq)))) aq)))
  au))
  (aa (iy (zM sO PySem.F.slot_list_append PySem.F.type_list_append jm (dv 4) (ao (dv 6) aq)))
  au))))
  (aa (aQ (dv 4))
  au)))))
theorem L_(T:Txt w K mg a)(A0:All P w K mg base a d):Fq P w K mg base a (4*(d+1)+108) (d+1) a.lF a.qK ["_law_kind","_law_t"] 30:=by
 refine(cg (k:=4*d+111) T.lK.fn iK rfl fun σ0 cdv A outer s H E hr hp=>?_).mono (by omega)
 exact(aa (dh (bh ju (dJ hr.units) (dv 0) (gh [114,105,110,103]) (aY _)) (aa (aQ (gM A0.BV T.fM hr hp (ao (dv 1) aq)))
  au) au)
  (aa (cj 2 iK.nd (cY aq))
  (aa (iG PassesOwn.leaving rfl jL (fX rfl T.eG (V0 (qt (bh ju (dJ hr.units) (dv 0) (gh [115,107,105,112]) (aY _)) (aG iU fC (dv 1) aC) (dv 1)) aq)) (aP 3 iK.nd)
  (aa (cj 4 iK.nd (qt (PW.pt (vB (bh ju (dJ hr.units) (dv 0) (gh [115,107,105,112]) (aY _)) (pw_and1 (bh Bh ue (aG pM (L2.OpR.or d9 mG) aC (dv 3)) (dv 1) (aY _))))) (aG eV (L2.OpR.or b8 cM) (dv 3) aC) (dv 3)))
  (aa (cj 5 iK.nd (cY aq))
  (aa (iG PassesOwn.leaving rfl jL (fX rfl T.eG (ao (dv 1) aq)) (aP 6 iK.nd)
  (aa (cj 7 iK.nd (qt (PW.pt (vB (bh ju (dJ hr.units) (dv 0) (gh [115,104,97,114,101,100]) (aY _)) (pw_and1 (bh Bh ue (aG pM (L2.OpR.or d9 mG) aC (dv 6)) (dv 1) (aY _))))) aC aC))
  (aa (iy (zM sO PySem.F.slot_list_append PySem.F.type_list_append jm (dv 5) (jx (eX (ao (dv 6) (bG (aG eV (L2.OpR.or b8 cM) (dv 1) (aG fu bQ (aG iU fC (dv 6) (dv 4)) (dv 1))) (bG (aG fu bQ (aG eV (L2.OpR.or b8 cM) (aG eV (L2.OpR.or b8 cM) (dv 6) (dv 3)) (dv 7)) (dv 1)) aq)))) aq)))
  au)))
  (aa (iy (zM sO PySem.F.slot_list_append PySem.F.type_list_append jm (dv 2) (ao (dv 5) aq)))
  au)))))
  (aa (aQ (dv 2))
  au))))
theorem Gh(T:Txt w K mg a)(A0:All P w K mg base a d):Fq P w K mg base a (4*(d+1)+108) (d+1) a.jf a.oX ["_law_number","_law_most"] 31:=by
 refine(cg (k:=4*d+111) T.ji.fn FN rfl fun σ0 cdv A outer s H E hr hp=>?_).mono (by omega)
 exact(aa (aQ (fB (cY (wu (Qx Qw JF aC) (ao (dv 1) (bG (aG eV (L2.OpR.or b8 cM) (dv 1) aC) (bG (aG WT JD aC aC) (wu (Qx Qw JF (aG WT JD aC aC)) aq)))))) (aG fu bQ (dv 0) aC)))
  au)
theorem Gi(T:Txt w K mg a)(A0:All P w K mg base a d):Fq P w K mg base a (4*(d+1)+108) (d+1) a.jg a.oY ["_law_rows_here"] 32:=by
 refine(cg (k:=4*d+111) T.jj.fn m9 rfl fun σ0 cdv A outer s H E hr hp=>?_).mono (by omega)
 exact(aa (cj 1 m9.nd (cY aq))
  (aa (iG PassesOwn.leaving rfl jK (iz rfl (dv 0)) (aP 2 m9.nd)
  (aa (cj 1 m9.nd (aG eV (L2.OpR.or b8 cM) (dv 1) (Tc (aax (K:=K)) JL rfl T.vO boot_list (ao (dv 2) aq))))
  au))
  (aa (aQ (dv 1))
  au)))
theorem Wg{a:Adr}{d:Nat}(T:Txt w K mg a)(A0:All P w K mg base a d):All P w K mg base a (d+1):=⟨O1 T A0.toAl,M7 T A0,Rv T A0,We T A0,Wf T A0,M8 T A0,Ac T A0,Dy T A0,Ie T A0,Gf T A0,xY T A0,xZ T A0,zq T A0,Gg T A0,Ig T A0,uc T A0,ud T A0,M9 T A0,LK T A0,LQ T A0,BW T A0,Ih T A0,Dz T A0,Ad T A0,Ae T A0,L_ T A0,Gh T A0,Gi T A0⟩
theorem Ma{a:Adr}(T:Txt w K mg a):∀ d,All P w K mg base a d
 | 0=>all_zero
 | d+1=>Wg T (Ma T d)
end
end My
namespace My
open PySem L2 PyProof.Rows
open Ev
local macro_rules | `(tactic| walk_at "s")=>`(tactic| repeat walk_at "sy")
local macro_rules | `(tactic| walk_at "sy")=>`(tactic| first
 | with_reducible refine aM.mpr ?_
 | with_reducible refine jN.mpr ?_
 | with_reducible refine kI.mpr ?_
 | with_reducible refine qu.mpr ?_
 | with_reducible refine pP.mpr ?_
 | with_reducible refine adZ.mpr ?_
 | with_reducible refine dm.mpr ?_
 | with_reducible refine vH.mpr ?_
 | with_reducible refine aH.mpr ?_
 | with_reducible refine b_.mpr ?_
 | with_reducible refine yz.mpr ?_
 | ((with_reducible refine aN (w:=?w) ?e ?_);(case e=>exact rfl))
 | with_reducible refine KJ.mpr ?_
 | with_reducible refine T3.mpr ?_
 | with_reducible refine CZ.mpr ?_
 | with_reducible refine bC ?_
 | with_reducible refine Ys ?_
 | with_reducible refine aa0 ?_
 | with_reducible refine aa1 ?_
 | with_reducible refine pO.mpr ?_
 | with_reducible refine Jo ?_
 | with_reducible refine Fv ?_
 | with_reducible refine yF ?_
 | with_reducible refine W_ ?_
 | with_reducible refine acv ?_
 | with_reducible refine p_add ?_
 | with_reducible refine ack ?_
 | with_reducible refine acn ?_
 | with_reducible refine ad2 ?_
 | with_reducible refine Yt ?_
 | with_reducible refine Yu ?_
 | with_reducible refine adx ?_
 | with_reducible refine ad7 ?_
 | with_reducible refine ad8 ?_
 | with_reducible refine aaX ?_
 | with_reducible refine acq ?_
 | with_reducible refine ad3 ?_
 | with_reducible refine acw ?_
 | with_reducible refine ad0 ?_
 | with_reducible refine ad4 ?_
 | with_reducible refine ad5 ?_
 | with_reducible refine aaZ ?_
 | with_reducible refine V6 ?_
 | ((with_reducible refine acp ?e ?_);(case e=>first | decide | omega))
 | ((with_reducible refine W9 ?e ?_);(case e=>exact Nat.le_of_ble_eq_true rfl))
 | ((with_reducible refine QX ?e ?_);(case e=>exact Nat.le_of_ble_eq_true rfl))
 | ((with_reducible refine aco ?e ?f ?_);(case e=>first | decide | omega);(case f=>first | decide | omega)))
theorem Uh{h:Hs}{A:Nat->Prop}{ds:List D}{k:Nat}{xs:List W}(l:k<h.n)(a:A k)(g:h.get k=some (.tup xs))(r:Rds h A ds xs):Ev.Rd h A (.tup ds) (.ref k):=by
 simp only[Ev.Rd];exact⟨k,xs,rfl,l,a,g,r⟩
theorem Gj{h:Hs}{A:Nat->Prop}{d:D}{w:W}(r:Ev.Rd h A d w):Rds h A [d] [w]:=by
 unfold Rds;refine⟨_,_,rfl,r,?_⟩;unfold Rds;rfl
theorem YJ{h:Hs}{A:Nat->Prop}:Rds h A [] []:=by unfold Rds;rfl
noncomputable abbrev dR:=Int × Int × Int
noncomputable def kiT:List Nat:=[107,105,110,100]
noncomputable def taT:List Nat:=[116,97,98,108,101,115]
noncomputable def trT:List Nat:=[116,114,105,111,115]
noncomputable def rgT:List Nat:=[114,105,110,103]
noncomputable def skT:List Nat:=[115,107,105,112]
noncomputable def shT:List Nat:=[115,104,97,114,101,100]
noncomputable def fiT:List Nat:=[102,105,114,115,116]
noncomputable def seT:List Nat:=[115,101,99,111,110,100]
structure e_ (h:Hs)(p:Nat)(kd:List Nat)(t:Nat)(tr:List dR):Prop where
 lp:p<h.n
 g:∃ pt ws,h.get p=some (.ins 50 [(kiT,.str kd),(taT,.int (t:Int)),(trT,.ref pt)])/\pt<h.n/\h.get pt=some (.lst ws)/\Rds h (fun _=>True) (tr.map D3) ws
 ok:okC kd=true
 t0:0<t
 t9:t<=9
 len:codes kd rgT=true->tr.length+1=t
theorem e_.ext{h h':Hs}{p:Nat}{kd:List Nat}{t:Nat}{tr:List dR}(x:e_ h p kd t tr)(e:Ext h h'):e_ h' p kd t tr:=
 ⟨bH x.lp e.1,let ⟨pt,ws,a,b,c,d⟩:=x.g;⟨pt,ws,e.get x.lp a,bH b e.1,e.get b c,d.ext e⟩,x.ok,x.t0,x.t9,x.len⟩
noncomputable def rP(kd:List Nat)(t:Nat):Int:=if codes kd rgT then 2*(t:Int) - 1 else t
noncomputable def gQ(kd:List Nat)(t:Nat):Int:=if codes kd skT then(t:Int) - 1 else rP kd t
noncomputable def cW(kd:List Nat)(t:Nat)(tr:List dR)(at' tb:Nat):dR:=
 if codes kd rgT then(if tb=0 then(rP kd t,at',at') else(((tr.getD (tb - 1) (0,0,0)).1+at') % rP kd t,((tr.getD (tb - 1) (0,0,0)).2.1+at') % rP kd t,((tr.getD (tb - 1) (0,0,0)).2.2+at') % rP kd t))
 else(tb,t+((tb:Int) - (if codes kd skT&&decide ((t:Int).fdiv 2<=(at':Int)) then(at':Int)+1 else at')) % t,((tb:Int)+(if codes kd shT&&decide ((t:Int).fdiv 2<=(tb:Int)) then(at':Int)+1 else at')) % t)
theorem Wh{kd:List Nat}{t:Nat}(t0:0<t):0<rP kd t:=by unfold rP;split <;> omega
section
variable{d n p t:Nat}{h:Hs}{Q:W->Hs->Prop}{kd:List Nat}{tr:List dR}
theorem Ui(P:e_ h p kd t tr)(q:Q (.int (rP kd t)) h):wC 13 [.ref p] (a_ Pg (d+1)) (n+1) h Q:=by
 refine(fD rfl rfl).mpr ?_;unfold yM;obtain⟨pt,ws,g,_⟩:=P.g;have t9:=P.t9;refine aM.mpr (pP.mpr (dm.mpr (aH.mpr (oR (aN (w:=.ref p) rfl ⟨p,_,_,rfl,g,rfl,?_⟩)))));walk_at "s";refine zX P.ok rfl ?_;unfold rP at q
 cases e:codes kd rgT with
 | true=>
   rw[show codes kd [114,105,110,103] =true from e];rw[e]at q;refine Fv (aM.mpr (kI.mpr (dm.mpr (aH.mpr (dm.mpr (aH.mpr (yz.mpr (aH.mpr (oR (aN (w:=.ref p) rfl ⟨p,_,_,rfl,g,rfl,?_⟩))))))))));walk_at "s"
   exact q
 | false=>
   rw[show codes kd [114,105,110,103] =false from e];rw[e]at q;refine yF (pO.mpr (bC (aM.mpr (kI.mpr (oR (aN (w:=.ref p) rfl ⟨p,_,_,rfl,g,rfl,?_⟩))))));walk_at "s";exact q
theorem Mf(P:e_ h p kd t tr)(q:Q (.int (gQ kd t)) h):wC 12 [.ref p] (a_ Pg (d+2)) (n+2) h Q:=by
 refine(fD rfl rfl).mpr ?_;unfold vK;obtain⟨pt,ws,g,_⟩:=P.g;have t9:=P.t9;refine aM.mpr (pP.mpr (dm.mpr (aH.mpr (oR (aN (w:=.ref p) rfl ⟨p,_,_,rfl,g,rfl,?_⟩)))));walk_at "s";refine zX P.ok rfl ?_;unfold gQ at q
 cases e:codes kd skT with
 | true=>
   rw[show codes kd [115,107,105,112] =true from e];rw[e]at q;refine Fv (aM.mpr (kI.mpr (dm.mpr (aH.mpr (oR (aN (w:=.ref p) rfl ⟨p,_,_,rfl,g,rfl,?_⟩))))));walk_at "s"
   exact q
 | false=>
   rw[show codes kd [115,107,105,112] =false from e];rw[e]at q;refine yF (pO.mpr (bC (aM.mpr (kI.mpr (gY (aN (w:=.ref p) rfl ⟨p,_,rfl,g,rfl,b_.mpr (Ui P ?_)⟩))))));walk_at "s";exact q
theorem O7(P:e_ h p kd t tr)(q:Q (.int (2*(t:Int))) h):wC 14 [.ref p] (a_ Pg (d+1)) (n+1) h Q:=by
 refine(fD rfl rfl).mpr ?_;unfold xj;obtain⟨pt,ws,g,_⟩:=P.g;have t9:=P.t9;refine aM.mpr (kI.mpr (dm.mpr (aH.mpr (yz.mpr (aH.mpr (oR (aN (w:=.ref p) rfl ⟨p,_,_,rfl,g,rfl,?_⟩)))))));walk_at "s";exact q
theorem Mg{i:Int}(P:e_ h p kd t tr)(i0:0<=i)(i1:i<gQ kd t)(q:Q .non h):wC 15 [.ref p,.int i] (a_ Pg (d+3)) (n+3) h Q:=by
 refine(fD rfl rfl).mpr ?_;unfold qP;obtain⟨pt,ws,g,_⟩:=P.g;refine aM.mpr (pP.mpr (CZ.mpr ?_));walk_at "s";refine zW (decide_eq_false (by omega)) ?_;refine dm.mpr (aH.mpr (aN (w:=.int i) rfl (aH.mpr (gY (aN (w:=.ref p) rfl ⟨p,_,rfl,g,rfl,b_.mpr (Mf P ?_)⟩)))));walk_at "s";refine zW (decide_eq_false (by omega)) ?_;walk_at "s";exact q
theorem Mh{i:Int}(P:e_ h p kd t tr)(i0:0<=i)(i1:i<t)(q:Q .non h):wC 16 [.ref p,.int i] (a_ Pg (d+1)) (n+1) h Q:=by
 refine(fD rfl rfl).mpr ?_;unfold qQ;obtain⟨pt,ws,g,_⟩:=P.g;refine aM.mpr (pP.mpr (CZ.mpr ?_));walk_at "s";refine zW (decide_eq_false (by omega)) ?_;refine dm.mpr (aH.mpr (aN (w:=.int i) rfl (aH.mpr (oR (aN (w:=.ref p) rfl ⟨p,_,_,rfl,g,rfl,?_⟩)))));walk_at "s";refine zW (decide_eq_false (by omega)) ?_;walk_at "s";exact q
theorem qL{i:Int}(P:e_ h p kd t tr)(i0:0<=i)(i1:i<2*(t:Int))(q:Q .non h):wC 17 [.ref p,.int i] (a_ Pg (d+2)) (n+2) h Q:=by
 refine(fD rfl rfl).mpr ?_;unfold n_;obtain⟨pt,ws,g,_⟩:=P.g;refine aM.mpr (pP.mpr (CZ.mpr ?_));walk_at "s";refine zW (decide_eq_false (by omega)) ?_;refine dm.mpr (aH.mpr (aN (w:=.int i) rfl (aH.mpr (gY (aN (w:=.ref p) rfl ⟨p,_,rfl,g,rfl,b_.mpr (O7 P ?_)⟩)))));walk_at "s";refine zW (decide_eq_false (by omega)) ?_;walk_at "s";exact q
noncomputable def O3(s:dR):O:=.tup [.int s.1,.int s.2.1,.int s.2.2]
theorem acJ{i j:Nat}(P:e_ h p kd t tr)(kr:codes kd rgT=true)(lj:j<t)(q:Q (.ref h.n) (h.push (O3 (cW kd t tr i j)))):wC 20 [.ref p,.int (i:Int),.int (j:Int)] (a_ Pg (d+2)) (n+2) h Q:=by
 refine(fD rfl rfl).mpr ?_;unfold oH;obtain⟨pt,ws,g,lpt,gpt,rt⟩:=P.g;have sp:=Wh (kd:=kd) P.t0;refine aM.mpr (jN.mpr (gY (aN (w:=.ref p) rfl ⟨p,_,rfl,g,rfl,b_.mpr (Ui P ?_)⟩)));walk_at "s";unfold cW at q;rw[if_pos kr]at q;refine V7 (fun e=>?_) fun e=>?_
 · have ej:j=0:=by omega
   rw[if_pos ej]at q;walk_at "s";exact q
 · have nj:¬ j=0:=fun z=>e (by omega);rw[if_neg nj]at q;have lt:=P.len kr;obtain⟨x,ex⟩:∃ x,tr[j - 1]? =some x:=⟨_,List.getElem?_eq_getElem (by omega)⟩;have egx:tr.getD (j - 1) (0,0,0)=x:=by rw[List.getD,ex];rfl
   rw[egx]at q;obtain⟨wx,ewx,rdx⟩:=Rds.get rt (show(tr.map D3)[j - 1]? =some (D3 x) by rw[List.getElem?_map,ex];rfl);obtain⟨c,rfl,lc,_,gc⟩:=V9.mp rdx;refine pO.mpr (bC (aM.mpr (K3 (dm.mpr (aH.mpr (oR (aN (w:=.ref p) rfl ⟨p,_,_,rfl,g,rfl,?_⟩)))))));walk_at "s";refine W8 gpt (by omega) (by rw[show((j:Int) - 1).toNat=j - 1 by omega];exact ewx) ?_;refine⟨c,_,_,_,rfl,gc,?_⟩;refine bC (aM.mpr (kI.mpr ?_));walk_at "s";exact q
theorem acK{i j:Nat}(P:e_ h p kd t tr)(kr:codes kd rgT=false)(q:Q (.ref h.n) (h.push (O3 (cW kd t tr i j)))):wC 21 [.ref p,.int (i:Int),.int (j:Int)] (a_ Pg (d+1)) (n+1) h Q:=by
 refine(fD rfl rfl).mpr ?_;unfold oJ;obtain⟨pt,ws,g,lpt,gpt,rt⟩:=P.g;have t0:(0:Int)<t:=by have:=P.t0;omega
 unfold cW at q;rw[if_neg (by rw[kr];decide)]at q;refine aM.mpr (jN.mpr (oR (aN (w:=.ref p) rfl ⟨p,_,_,rfl,g,rfl,?_⟩)));refine bC (aM.mpr (jN.mpr ?_));walk_at "s";refine aaW (by decide) (by decide) ?_;generalize (t:Int).fdiv 2=hf at q ⊢
 have back:∀ {τ:Sg} {c:List Nat} {k:Nat} {z:Nat} {Q':W->Hs->Prop},okC c=true->cN τ 0=some (.ref p)->cN τ 1=some (.int (i:Int))->cN τ k=some (.int (z:Int))->cN τ 4=some (.int hf)->Q' (.int (if codes kd c&&decide (hf<=(z:Int)) then(i:Int)+1 else i)) h->wX (.ite (.and (.pr .eq [(.fld 50 (.var 0) [107,105,110,100]),(.cst (.str c))]) (.pr .ge [(.var k),(.var 4)])) (.pr .add [(.var 1),(.cst (.int 1))]) (.var 1)) (a_ Pg d) n τ h Q':=by
  intro τ c k z Q' oc e0 e1 ek e4 q';refine KJ.mpr (T3.mpr (dm.mpr (aH.mpr (oR (aN e0 ⟨p,_,_,rfl,g,rfl,?_⟩)))));walk_at "s";refine zX P.ok oc ?_
  cases e:codes kd c with
  | false=>
    rw[e]at q'
    exact yF (yF (aN e1 q'))
  | true=>
    rw[e,Bool.true_and]at q';refine Fv (dm.mpr (aH.mpr (aN ek (aH.mpr (aN e4 (b_.mpr (aaX ?_)))))));refine V7 (fun y=>?_) fun y=>?_
    · rw[if_pos (decide_eq_true y)]at q';refine dm.mpr (aH.mpr (aN e1 ?_));walk_at "s";exact q'
    · rw[if_neg (by rw[decide_eq_false y];decide)]at q';exact aN e1 q'
 refine bC (aM.mpr (jN.mpr (back (z:=i) rfl rfl rfl rfl rfl ?_)));refine bC (aM.mpr (jN.mpr (back (z:=j) rfl rfl rfl rfl rfl ?_)));refine bC (aM.mpr (kI.mpr (dm.mpr (aH.mpr ?_))));walk_at "s";exact q
theorem Uj{i j:Nat}(P:e_ h p kd t tr)(li:(i:Int)<gQ kd t)(lj:j<t)(q:Q (.ref h.n) (h.push (O3 (cW kd t tr i j)))):wC 19 [.ref p,.int (i:Int),.int (j:Int)] (a_ Pg (d+4)) (n+4) h Q:=by
 refine(fD rfl rfl).mpr ?_;unfold yN;obtain⟨pt,ws,g,lpt,gpt,rt⟩:=P.g;refine aM.mpr (qu.mpr (gY (aN (w:=.ref p) rfl ⟨p,_,rfl,g,rfl,aH.mpr (aN (w:=.int (i:Int)) rfl (b_.mpr (Mg (d:=d) (n:=n) P (by omega) li ?_)))⟩)));refine bC (aM.mpr (qu.mpr (gY (aN (w:=.ref p) rfl ⟨p,_,rfl,g,rfl,aH.mpr (aN (w:=.int (j:Int)) rfl (b_.mpr (Mh (d:=d+2) (n:=n+2) P (by omega) (by omega) ?_)))⟩))));refine bC (aM.mpr (pP.mpr (dm.mpr (aH.mpr (oR (aN (w:=.ref p) rfl ⟨p,_,_,rfl,g,rfl,?_⟩))))));walk_at "s";refine zX P.ok rfl ?_
 cases e:codes kd rgT with
 | true=>
   rw[show codes kd [114,105,110,103] =true from e];refine Fv (aM.mpr (kI.mpr (gY (aN (w:=.ref p) rfl ⟨p,_,rfl,g,rfl,aH.mpr (aN (w:=.int (i:Int)) rfl (aH.mpr (aN (w:=.int (j:Int)) rfl (b_.mpr (acJ (d:=d+1) (n:=n+1) P e lj ?_)))))⟩))));walk_at "s"
   exact q
 | false=>
   rw[show codes kd [114,105,110,103] =false from e];refine yF (pO.mpr (bC (aM.mpr (kI.mpr (gY (aN (w:=.ref p) rfl ⟨p,_,rfl,g,rfl,aH.mpr (aN (w:=.int (i:Int)) rfl (aH.mpr (aN (w:=.int (j:Int)) rfl (b_.mpr (acK (d:=d+2) (n:=n+2) P e ?_)))))⟩))))));walk_at "s";exact q
end
noncomputable def gC(s:Nat->dR):Nat->Int->Option (Nat × Bool)
 | 0,_=>none
 | j+1,x=>if(s j).2.1=x then some (j,false) else if(s j).1=x then some (j,true) else gC s j x
noncomputable def DG(b:Bool):List Nat:=if b then fiT else seT
noncomputable def q_(h:Hs)(f:Nat)(kvs:List (W × W))(F:Int->Option (Nat × Bool)):Prop:=∀ x,match F x with
 | none=>bM kvs (.int x)=none
 | some (j,b)=>∃ q,bM kvs (.int x)=some (.ref q)/\q<h.n/\q ≠ f/\h.get q=some (.tup [.int (j:Int),.str (DG b)])
theorem q_.to{h h':Hs}{f:Nat}{kvs:List (W × W)}{F:Int->Option (Nat × Bool)}(x:q_ h f kvs F)(n:h.n<=h'.n)(e:∀ k,k<h.n->k ≠ f->h'.get k=h.get k):q_ h' f kvs F:=fun y=>by
 have z:=x y
 cases hF:F y with
 | none=>rw[hF]at z;exact z
 | some jb=>
   rw[hF]at z;obtain⟨q,a,b,c,g⟩:=z;exact⟨q,a,by omega,c,(e q b c).trans g⟩
theorem q_.put{h:Hs}{f:Nat}{kvs:List (W × W)}{F:Int->Option (Nat × Bool)}(x:q_ h f kvs F){q j:Nat}{b:Bool}{k:Int}(lq:q<h.n)(nq:q ≠ f)(g:h.get q=some (.tup [.int (j:Int),.str (DG b)])):q_ h f (dY kvs (.int k) (.ref q)) fun y=>if k=y then some (j,b) else F y:=fun y=>by
 show match (if k=y then some (j,b) else F y) with | none=>_ | some (j,b)=>_
 by_cases e:k=y
 · rw[if_pos e];exact⟨q,by rw[K8 rfl,if_pos (by rw[e])],lq,nq,g⟩
 · rw[if_neg e];have ne:W.int k ≠ .int y:=fun z=>e (by cases z;rfl);have z:=x y
   cases hF:F y with
   | none=>rw[hF]at z;show bM _ _=none;rw[K8 rfl,if_neg ne];exact z
   | some jb=>
     rw[hF]at z;obtain⟨q',a,b,c,g⟩:=z;exact⟨q',by rw[K8 rfl,if_neg ne];exact a,b,c,g⟩
section
variable{d n p t:Nat}{h:Hs}{Q:W->Hs->Prop}{kd:List Nat}{tr:List dR}
theorem Rw{i:Nat}(P:e_ h p kd t tr)(li:(i:Int)<gQ kd t)(q:∀ f kvs h',Ext h h'->f<h'.n->h'.get f=some (.dk kvs)->q_ h' f kvs (gC (cW kd t tr i) t)->Q (.ref f) h'):wC 0 [.ref p,.int (i:Int)] (a_ Pg (d+5)) (n+30) h Q:=by
 refine(fD rfl rfl).mpr ?_;unfold Di;have t9:=P.t9;refine aM.mpr (jN.mpr (dm.mpr (b_.mpr (abj ?_))));have P1:=P.ext (Ext.push (o:=.dk []));obtain⟨pt,ws,g,_⟩:=P1.g;refine bC (aM.mpr (yE (C_ (oR (aN (w:=.ref p) rfl ⟨p,_,_,rfl,g,rfl,?_⟩)))));refine⟨t,rfl,by omega,by omega,wz 0 t,fun j τ h2=>∃ u3 u4 u5 kvs,τ= [some (.ref p),some (.int (i:Int)),some (.ref h.n),u3,u4,u5]/\Ext h h2/\h.n<h2.n/\h2.get h.n=some (.dk kvs)/\q_ h2 h.n kvs (gC (cW kd t tr i) j)/\kvs.length<=2*j,fun _ _ _ _=>zV,by rw[cT];omega,⟨none,none,none,[],rfl,.push,cu,aZ,fun x=>rfl,by simp⟩,?_,?_⟩
 · rintro j w τ h2 m ej lm ⟨u3,u4,u5,kvs,rfl,x2,l2,g2,hs,lk⟩;have lj:j<t:=by have:=(bu ej).1;rw[cT]at this;exact this
   rw[tu lj]at ej;cases ej;rw[show(0:Int)+Int.ofNat j=(j:Int) by show 0+(j:Int)=(j:Int);omega];rw[cT]at lm;obtain⟨m,rfl⟩:∃ m',m=m'+4:=⟨m - 4,by omega⟩;have P2:=P.ext x2;obtain⟨pt2,ws2,gg2,_⟩:=P2.g;refine⟨[some (.ref p),some (.int (i:Int)),some (.ref h.n),some (.int (j:Int)),u4,u5],rfl,?_⟩;refine aM.mpr (Fw (Hj (gY (aN (w:=.ref p) rfl ⟨p,_,rfl,gg2,rfl,aH.mpr (aN (w:=.int (i:Int)) rfl (aH.mpr (aN (w:=.int (j:Int)) rfl (b_.mpr (Uj (d:=d) (n:=m) P2 li lj ?_)))))⟩))));generalize hs':cW kd t tr i j=s;refine yz.mpr ⟨h2.n,[.int s.1,.int s.2.1,.int s.2.2],2,rfl,rfl,Nat.lt_succ_self 2,aZ,?_⟩;refine⟨_,.int s.1,.int s.2.1,rfl,aZ,?_⟩;have x3:Ext h2 ((h2.push (O3 s)).push (.tup (List.take 2 [W.int s.1,.int s.2.1,.int s.2.2]))):=Ext.push.trans .push;have g3:=x3.get l2 g2;have l3:=bH l2 x3.1;have hs3:=hs.to x3.1 fun k l _=>x3.2 k l;generalize (h2.push (O3 s)).push (.tup (List.take 2 [W.int s.1,.int s.2.1,.int s.2.2]))=h3 at *;refine bC (aM.mpr (Ov ?_));walk_at "s";refine⟨h.n,kvs,rfl,Ext.push.get l3 g3,rfl,by omega,?_⟩
   have hs4:q_ ((h3.push (.tup [.int (j:Int),.str [102,105,114,115,116]])).set h.n (.dk (dY kvs (.int s.1) (.ref h3.n)))) h.n (dY kvs (.int s.1) (.ref h3.n)) fun y=>if s.1=y then some (j,true) else gC (cW kd t tr i) j y:=
    q_.to (h:=h3.push (.tup [.int (j:Int),.str [102,105,114,115,116]])) ((hs3.to Ext.push.1 fun k l _=>Ext.push.2 k l).put cu (by omega) aZ) (by rw[Hs.pK];exact aA _) fun k l n=>by rw[Hs.get_set,if_neg n]
   have x4:Ext h ((h3.push (.tup [.int (j:Int),.str [102,105,114,115,116]])).set h.n (.dk (dY kvs (.int s.1) (.ref h3.n)))):=((x2.trans x3).trans .push).set (aA _);have l4:h.n<((h3.push (.tup [.int (j:Int),.str [102,105,114,115,116]])).set h.n (.dk (dY kvs (.int s.1) (.ref h3.n)))).n:=by rw[Hs.pK,Hs.pJ];omega
   have g4:((h3.push (.tup [.int (j:Int),.str [102,105,114,115,116]])).set h.n (.dk (dY kvs (.int s.1) (.ref h3.n)))).get h.n=some (.dk (dY kvs (.int s.1) (.ref h3.n))):=by rw[Hs.get_set,if_pos rfl]
   have lk4:=Hr kvs (.int s.1) (.ref h3.n);generalize (h3.push (.tup [.int (j:Int),.str [102,105,114,115,116]])).set h.n (.dk (dY kvs (.int s.1) (.ref h3.n)))=h4 at *;generalize dY kvs (.int s.1) (.ref h3.n)=kv4 at *;refine bC (aM.mpr (Ov ?_));walk_at "s";refine⟨h.n,kv4,rfl,Ext.push.get l4 g4,rfl,by omega,?_⟩
   have hs5:q_ ((h4.push (.tup [.int (j:Int),.str [115,101,99,111,110,100]])).set h.n (.dk (dY kv4 (.int s.2.1) (.ref h4.n)))) h.n (dY kv4 (.int s.2.1) (.ref h4.n)) fun y=>if s.2.1=y then some (j,false) else if s.1=y then some (j,true) else gC (cW kd t tr i) j y:=
    q_.to (h:=h4.push (.tup [.int (j:Int),.str [115,101,99,111,110,100]])) ((hs4.to Ext.push.1 fun k l _=>Ext.push.2 k l).put cu (by omega) aZ) (by rw[Hs.pK];exact aA _) fun k l n=>by rw[Hs.get_set,if_neg n]
   refine bC (pO.mpr (Jo ⟨_,_,_,_,rfl,(x4.trans .push).set (aA _),by rw[Hs.pK,Hs.pJ];omega,by rw[Hs.get_set,if_pos rfl],?_,by have:=Hr kv4 (.int s.2.1) (.ref h4.n);omega⟩));have e:gC (cW kd t tr i) (j+1)=fun y=>if s.2.1=y then some (j,false) else if s.1=y then some (j,true) else gC (cW kd t tr i) j y:=by funext y;rw[gC,hs']
   rw[e];exact hs5
 · rintro τ h2 ⟨u3,u4,u5,kvs,rfl,x2,l2,g2,hs,lk⟩;walk_at "s";rw[cT]at hs;exact q h.n kvs h2 x2 l2 g2 hs
noncomputable abbrev Meet:=Nat × Bool × Int × Int
noncomputable def Ju(s:Nat->dR)(jb:Nat × Bool):Meet:=(jb.1,jb.2,if jb.2 then(s jb.1).2.1 else(s jb.1).1,(s jb.1).2.2)
noncomputable abbrev D4(m:Meet):D:=.tup [.int (m.1:Int),.str (DG m.2.1),.int m.2.2.1,.int m.2.2.2]
theorem Mi{s:Nat->dR}{x:Int}{jb:Nat × Bool}:∀ {t:Nat},gC s t x=some jb->jb.1<t
 | 0,e=>by cases e
 | t+1,e=>by
   unfold gC at e
   split at e
   · cases e;exact Nat.lt_succ_self _
   · split at e
     · cases e;exact Nat.lt_succ_self _
     · have:=Mi e;omega
theorem Uk{i:Nat}{x:Int}{jb:Nat × Bool}(P:e_ h p kd t tr)(li:(i:Int)<gQ kd t)(hw:gC (cW kd t tr i) t x=some jb)(q:∀ f h',Ext h h'->h.n<=f->f<h'.n->h'.get f=some (.tup [.int (jb.1:Int),.str (DG jb.2),.int (Ju (cW kd t tr i) jb).2.2.1,.int (Ju (cW kd t tr i) jb).2.2.2])->Q (.ref f) h'):wC 1 [.ref p,.int (i:Int),.int x] (a_ Pg (d+6)) (n+40) h Q:=by
 refine(fD rfl rfl).mpr ?_;unfold Hu;refine aM.mpr (Fw (dm.mpr (aH.mpr (vH.mpr ?_))));walk_at "s";refine Rw (d:=d) (n:=n+9) P li fun f kvs h1 x1 l1 g1 hs=>?_;walk_at "s";have z:=hs x;rw[hw]at z;obtain⟨qq,e1,lq,nq,gq⟩:=z;refine abk g1 rfl e1 ⟨qq,_,_,rfl,gq,?_⟩;have P1:=P.ext x1;obtain⟨pt,ws,g,_⟩:=P1.g;refine bC (aM.mpr (K3 (gY (aN (w:=.ref p) rfl ⟨p,_,rfl,g,rfl,aH.mpr (aN (w:=.int (i:Int)) rfl (aH.mpr (aN (w:=.int (jb.1:Int)) rfl (b_.mpr (Uj (d:=d+1) (n:=n+35) P1 li (Mi hw) ?_)))))⟩))));refine⟨h1.n,_,_,_,rfl,aZ,?_⟩;unfold Ju at q;generalize cW kd t tr i jb.1=s at q;obtain⟨j,b⟩:=jb;refine bC (aM.mpr (jN.mpr (KJ.mpr ?_)));walk_at "s"
 cases b with
 | true=>
   refine zX rfl rfl (Fv ?_);walk_at "s"
   exact q _ _ (x1.trans (Ext.push.trans .push)) (Nat.le_trans x1.1 Ext.push.1) cu aZ
 | false=>
   refine zX rfl rfl (yF ?_);walk_at "s";exact q _ _ (x1.trans (Ext.push.trans .push)) (Nat.le_trans x1.1 Ext.push.1) cu aZ
noncomputable def qe(S:Nat->Nat->dR)(t:Nat)(x:Int)(m:Nat):List Meet:=(List.range m).map fun i=>match gC (S i) t x with
 | some jb=>Ju (S i) jb
 | none=>(0,true,0,0)
theorem YK{x:Int}{m:Nat}(P:e_ h p kd t tr)(em:gQ kd t=m)(lm:m<=20)(x0:0<=x)(x1:x<2*(t:Int))(hw:∀ i,i<m->(gC (cW kd t tr i) t x).isSome=true)(q:∀ f us h',Ext h h'->h.n<=f->f<h'.n->h'.get f=some (.lst us)->Rds h' (fun k=>h.n<=k) ((qe (cW kd t tr) t x m).map D4) us->Q (.ref f) h'):wC 2 [.ref p,.int x] (a_ Pg (d+7)) (n+80) h Q:=by
 refine(fD rfl rfl).mpr ?_;unfold OD;obtain⟨pt,ws,g,_⟩:=P.g;refine aM.mpr (qu.mpr (gY (aN (w:=.ref p) rfl ⟨p,_,rfl,g,rfl,aH.mpr (aN (w:=.int x) rfl (b_.mpr (qL (d:=d+4) (n:=n+77) P x0 x1 ?_)))⟩)));refine bC (aM.mpr (kI.mpr (comp_map (C_ (gY (aN (w:=.ref p) rfl ⟨p,_,rfl,g,rfl,b_.mpr (Mf (d:=d+4) (n:=n+77) P ?_)⟩))))));rw[em];refine⟨m,rfl,by omega,by omega,.refl,wz 0 m,(qe (cW kd t tr) t x m).map D4,fun _=>False,fun _ _=>zV,fun _ z=>z.elim,by rw[cT];simp[qe],by rw[cT];omega,by rw[cT];omega,?_,?_⟩
 · intro i w d' h2 k ei ed lk x2 l2;have li:i<m:=by have:=(bu ei).1;rw[cT]at this;exact this
   rw[tu li]at ei;cases ei;rw[show(0:Int)+Int.ofNat i=(i:Int) by show 0+(i:Int)=(i:Int);omega];rw[cT]at lk;obtain⟨k,rfl⟩:∃ k',k=k'+40:=⟨k - 40,by omega⟩;unfold qe at ed;rw[List.getElem?_map,List.getElem?_map,List.getElem?_range li]at ed;simp only[Option.map_some,Option.some.injEq]at ed
   cases hF:gC (cW kd t tr i) t x with
   | none=>have:=hw i li;rw[hF]at this;cases this
   | some jb=>
     rw[hF]at ed;subst ed;refine⟨[some (.int (i:Int)),some (.ref p),some (.int x)],rfl,?_⟩;walk_at "s";refine Uk (d:=d) (n:=k) (P.ext x2) (by rw[em];omega) hF fun f h3 x3 lo3 l3 g3=>⟨x3,?_⟩
     exact Uh l3 (.inr lo3) g3 (by
      unfold Rds;refine⟨_,_,rfl,Dc,?_⟩;unfold Rds;refine⟨_,_,rfl,yG,?_⟩;unfold Rds;refine⟨_,_,rfl,Dc,?_⟩
      exact Gj Dc)
 · intro h3 x3 r3;obtain⟨f,us,e,lf,_,gf,rf⟩:=KY.mp r3;cases e;walk_at "s";exact q h.n us h3 x3 (aA _) lf gf (rf.imp fun k _ a=>a.elim (fun z=>z.elim) id)
end
noncomputable abbrev DR(r:List dR):D:=.lst (r.map D3)
theorem BX:∀ rows:List (List dR),(∀ r ∈ rows,r.length<=30)->rows.flatten.length<=30*rows.length
 | [],_=>aA _
 | r::rows,l=>by
   have:=l r (List.mem_cons_self ..);have:=BX rows fun r hr=>l r (List.mem_cons_of_mem _ hr);rw[List.flatten_cons,List.length_append,List.length_cons];omega
section
variable{d n p:Nat}{h:Hs}{Q:W->Hs->Prop}{A:Nat->Prop}{rows:List (List dR)}{rws:List W}
theorem Wi(lp:p<h.n)(gp:h.get p=some (.lst rws))(rr:Rds h A (rows.map DR) rws)(lr:rows.length<=30)(lc:∀ r ∈ rows,r.length<=30)
 (q:∀ f us h',Ext h h'->h.n<=f->f<h'.n->h'.get f=some (.lst us)->Rds h' A (rows.flatten.map D3) us->Q (.ref f) h'):wC 32 [.ref p] (a_ Pg (d+1)) (n+60) h Q:=by
 refine(fD rfl rfl).mpr ?_;unfold xq;have wl:rws.length=rows.length:=by rw[rr.length,List.length_map]
 walk_at "s";refine yE (Jm ?_);walk_at "s";refine⟨p,rws,rfl,.inl ⟨Ext.push.get lp gp,rws,fun i τ h2=>∃(f:Nat) (us:List W) (v:Option W),τ= [some (.ref p),some (.ref f),v]/\Ext h h2/\h.n<=f/\f<h2.n/\h2.get f=some (.lst us)/\Rds h2 A ((rows.take i).flatten.map D3) us,fun i τ h2 ⟨_,_,_,_,x,_⟩=>.inl ⟨p,rfl,x.get lp gp⟩,by omega,⟨h.n,[],none,rfl,.push,aA _,cu,aZ,by simpa using YJ⟩,?_,?_⟩⟩
 · rintro i w τ h2 m ei lm ⟨f,us,v,rfl,x2,lf0,lf,gf,ru⟩;obtain⟨dd,ed,rd⟩:=Rds.at rr ei;rw[List.getElem?_map]at ed;obtain⟨r,er,rfl⟩:=Option.map_eq_some_iff.mp ed;obtain⟨pc,cws,rfl,lpc,_,gpc,rcs⟩:=KY.mp rd;refine⟨[some (.ref p),some (.ref f),some (.ref pc)],rfl,?_⟩;walk_at "s";refine aaY (x2.get lpc gpc) ?_;walk_at "s";have lu:=ru.length;have lcw:=rcs.length;have fl:=BX (rows.take i) fun r hr=>lc r (List.mem_of_mem_take hr);have l30:=lc r (List.mem_of_getElem? er);rw[List.length_map]at lu lcw;rw[List.length_take]at fl;refine acu (Ext.push.get lf gf) aZ (by omega) ?_;walk_at "s";refine⟨_,us++cws,_,rfl,x2.trans (Ext.push.trans .push),Nat.le_trans x2.1 Ext.push.1,cu,aZ,?_⟩;rw[List.take_add_one,er,List.flatten_append,List.map_append];have z:Rds h2 A (((rows.take i).flatten.map D3)++r.map D3) (us++cws):=ru.append (rcs.ext x2);simpa using z.ext (Ext.push.trans .push)
 · rintro τ h2 ⟨f,us,v,rfl,x2,lf0,lf,gf,ru⟩;walk_at "s";rw[wl,List.take_length]at ru;exact q f us h2 x2 lf0 lf gf ru
end
noncomputable def Rx:D->Option dR
 | .tup [.int a,.int b,.int c]=>some (a,b,c)
 | _=>none
noncomputable def Mj{α β:Type}(f:α->Option β):List α->Option (List β)
 | []=>some []
 | x::xs=>match f x,Mj f xs with
   | some y,some ys=>some (y::ys)
   | _,_=>none
noncomputable def Ry:D->Option (List dR)
 | .lst ds=>Mj Rx ds
 | _=>none
noncomputable def Xg:D->Option (List (List dR))
 | .lst ds=>Mj Ry ds
 | _=>none
theorem Gk{α β:Type}{f:α->Option β}{g:β->α}(hf:∀ x y,f x=some y->x=g y):∀ {xs:List α} {ys:List β},Mj f xs=some ys->xs=ys.map g
 | [],ys,e=>by cases e;rfl
 | x::xs,ys,e=>by
   unfold Mj at e
   split at e
   · rename_i y ys' e1 e2;cases e;rw[hf x y e1,Gk hf e2];rfl
   · cases e
theorem Wj:∀(d:D) (t:dR),Rx d=some t->d=D3 t:=by
 intro d t e;unfold Rx at e
 split at e
 · cases e;rfl
 · cases e
theorem O8:∀(d:D) (r:List dR),Ry d=some r->d=DR r:=by
 intro d r e;unfold Ry at e
 split at e
 · rw[Gk Wj e]
 · cases e
noncomputable def aX:List (List Nat × Int):=[([115,116,114,97,105,103,104,116],3),([115,107,105,112],4),([115,104,97,114,101,100],4),([115,116,114,97,105,103,104,116],5),([114,105,110,103],4),([115,107,105,112],6),([115,104,97,114,101,100],6),([115,116,114,97,105,103,104,116],7),([114,105,110,103],5),([115,107,105,112],8),([115,104,97,114,101,100],8),([115,116,114,97,105,103,104,116],9),([114,105,110,103],6)]
noncomputable def Rz(w:W)(g:Hs):Option (List Nat × Int × List dR):=match w with
 | .ref p=>match g.get p with
   | some (.ins 50 [(a,.str kd),(b,.int t),(c,.ref q)])=>if codes a kiT&&(codes b taT&&(codes c trT&&Nat.ble (p+1) g.n)) then match rdD g 12 (.ref q) with
      | some d=>match Ry d with
        | some tr=>some (kd,t,tr)
        | none=>none
      | none=>none
     else none
   | _=>none
 | _=>none
theorem Wl{w:W}{g h:Hs}{kd:List Nat}{t:Nat}{tr:List dR}(e:Rz w g=some (kd,(t:Int),tr))(ok:okC kd=true)(t0:0<t)(t9:t<=9)(len:codes kd rgT=true->tr.length+1=t):∃ p,shW h.n w= .ref p/\e_ (h.cat g) p kd t tr:=by
 unfold Rz at e
 split at e
 · rename_i p
   split at e
   · rename_i a kd' b t' c q eg
     split at e
     · rename_i cc;simp only[Bool.and_eq_true]at cc;obtain⟨c1,c2,c3,c4⟩:=cc;have c1:=cG.mp c1;have c2:=cG.mp c2;have c3:=cG.mp c3;subst c1 c2 c3
       split at e
       · rename_i dd ed
         split at e
         · rename_i tr' et;cases e;have lp:p<g.n:=Nat.le_of_ble_eq_true c4;have r:=De (h:=h) 12 _ _ ed;rw[O8 _ _ et]at r;obtain⟨pt,ws,ep,lpt,_,gpt,rt⟩:=KY.mp r;have ep:h.n+q=pt:=by cases ep;rfl
           subst ep;exact⟨h.n+p,rfl,by rw[Dd];omega,⟨h.n+q,ws,Fy lp eg,lpt,gpt,rt.imp fun _ _ _=>trivial⟩,ok,t0,t9,len⟩
         · cases e
       · cases e
     · cases e
   · cases e
 · cases e
noncomputable def RB(r:R A):Option (List Nat × Int × List dR):=match r with
 | .ok (.w w) g=>Rz w g
 | _=>none
noncomputable def abu(k:List Nat × Int):Option (List Nat × Int × List dR):=RB ((X.make 50 11 [(.var 2),(.var 3)]).f (a_ Pg 13) 20000 [none,none,some (.str k.1),some (.int k.2),none,none,none,none,none,none] (.mk 0 .lf))
noncomputable def abv(k:List Nat × Int):Option D:=Q0 (bJ 30 [.str k.1,.int k.2] (a_ Pg 13) 20000 (.mk 0 .lf))
noncomputable def DN(G:List Meet)(y:Int):Nat:=(G.filter fun m=>decide (m.2.2.1=y)).length
noncomputable def Wm(wZ:List dR)(x y:Int):Nat:=(wZ.filter fun u=>(decide (u.1=x)&&decide (u.2.1=y))||(decide (u.1=y)&&decide (u.2.1=x))).length
noncomputable def okP(k:List Nat × Int)(tr:List dR)(wZ:List dR)(t m:Nat):Bool:=(List.range (2*t)).all fun x=>((List.range m).all fun i=>(gC (cW k.1 t tr i) t (x:Int)).isSome)&&(fun G=>(List.range (2*t)).all fun y=>Nat.beq (DN G (y:Int)) (Wm wZ x y)) (qe (cW k.1 t tr) t x m)
noncomputable def oh(k:List Nat × Int):Bool:=match abu k,abv k with
 | some (kd,t,tr),some d=>match Xg d with
   | some rows=>codes kd k.1&&(ieq t k.2&&(ieq t (t.toNat:Int)&&(decide (0<t.toNat/\t.toNat<=9)&&((!codes k.1 rgT||Nat.beq (tr.length+1) t.toNat)&&(ieq (gQ k.1 t.toNat) ((gQ k.1 t.toNat).toNat:Int)&&(decide ((gQ k.1 t.toNat).toNat<=12)&&(decide (rows.length<=12)&&((rows.all fun r=>decide (r.length<=12))&&okP k tr rows.flatten t.toNat (gQ k.1 t.toNat).toNat))))))))
   | none=>false
 | _,_=>false
theorem rr0:oh (aX.getD 0 ([],0))=true:=by decide +kernel
theorem rr1:oh (aX.getD 1 ([],0))=true:=by decide +kernel
theorem rr2:oh (aX.getD 2 ([],0))=true:=by decide +kernel
theorem rr3:oh (aX.getD 3 ([],0))=true:=by decide +kernel
theorem rr4:oh (aX.getD 4 ([],0))=true:=by decide +kernel
theorem rr5:oh (aX.getD 5 ([],0))=true:=by decide +kernel
theorem rr6:oh (aX.getD 6 ([],0))=true:=by decide +kernel
theorem rr7:oh (aX.getD 7 ([],0))=true:=by decide +kernel
theorem rr8:oh (aX.getD 8 ([],0))=true:=by decide +kernel
theorem rr9:oh (aX.getD 9 ([],0))=true:=by decide +kernel
theorem adG:oh (aX.getD 10 ([],0))=true:=by decide +kernel
theorem adH:oh (aX.getD 11 ([],0))=true:=by decide +kernel
theorem adI:oh (aX.getD 12 ([],0))=true:=by decide +kernel
theorem abw:∀ k,k<13->oh (aX.getD k ([],0))=true
 | 0,_=>rr0
 | 1,_=>rr1
 | 2,_=>rr2
 | 3,_=>rr3
 | 4,_=>rr4
 | 5,_=>rr5
 | 6,_=>rr6
 | 7,_=>rr7
 | 8,_=>rr8
 | 9,_=>rr9
 | 10,_=>adG
 | 11,_=>adH
 | 12,_=>adI
 | k+13,l=>absurd l (by omega)
theorem okK:∀ k,k<13->okC (aX.getD k ([],0)).1=true:=by decide +kernel
noncomputable def qg(k:Nat):Option D:=Q0 (bJ 28 [.int (Int.ofNat k)] (a_ Pg 13) 100 (.mk 0 .lf))
theorem rp0:qg 0=some (.tup [.str (aX.getD 0 ([],0)).1,.int (aX.getD 0 ([],0)).2]):=by kernel_rfl
theorem rp1:qg 1=some (.tup [.str (aX.getD 1 ([],0)).1,.int (aX.getD 1 ([],0)).2]):=by kernel_rfl
theorem rp2:qg 2=some (.tup [.str (aX.getD 2 ([],0)).1,.int (aX.getD 2 ([],0)).2]):=by kernel_rfl
theorem rp3:qg 3=some (.tup [.str (aX.getD 3 ([],0)).1,.int (aX.getD 3 ([],0)).2]):=by kernel_rfl
theorem rp4:qg 4=some (.tup [.str (aX.getD 4 ([],0)).1,.int (aX.getD 4 ([],0)).2]):=by kernel_rfl
theorem rp5:qg 5=some (.tup [.str (aX.getD 5 ([],0)).1,.int (aX.getD 5 ([],0)).2]):=by kernel_rfl
theorem rp6:qg 6=some (.tup [.str (aX.getD 6 ([],0)).1,.int (aX.getD 6 ([],0)).2]):=by kernel_rfl
theorem rp7:qg 7=some (.tup [.str (aX.getD 7 ([],0)).1,.int (aX.getD 7 ([],0)).2]):=by kernel_rfl
theorem rp8:qg 8=some (.tup [.str (aX.getD 8 ([],0)).1,.int (aX.getD 8 ([],0)).2]):=by kernel_rfl
theorem rp9:qg 9=some (.tup [.str (aX.getD 9 ([],0)).1,.int (aX.getD 9 ([],0)).2]):=by kernel_rfl
theorem adJ:qg 10=some (.tup [.str (aX.getD 10 ([],0)).1,.int (aX.getD 10 ([],0)).2]):=by kernel_rfl
theorem adK:qg 11=some (.tup [.str (aX.getD 11 ([],0)).1,.int (aX.getD 11 ([],0)).2]):=by kernel_rfl
theorem adL:qg 12=some (.tup [.str (aX.getD 12 ([],0)).1,.int (aX.getD 12 ([],0)).2]):=by kernel_rfl
theorem abx:∀ k,k<13->qg k=some (.tup [.str (aX.getD k ([],0)).1,.int (aX.getD k ([],0)).2])
 | 0,_=>rp0
 | 1,_=>rp1
 | 2,_=>rp2
 | 3,_=>rp3
 | 4,_=>rp4
 | 5,_=>rp5
 | 6,_=>rp6
 | 7,_=>rp7
 | 8,_=>rp8
 | 9,_=>rp9
 | 10,_=>adJ
 | 11,_=>adK
 | 12,_=>adL
 | k+13,l=>absurd l (by omega)
theorem YL{k:List Nat × Int}(e:oh k=true):∃(t m:Nat) (tr:List dR) (rows:List (List dR)),k.2=(t:Int)/\abu k=some (k.1,(t:Int),tr)/\abv k=some (.lst (rows.map DR))/\0<t/\t<=9/\(codes k.1 rgT=true->tr.length+1=t)/\gQ k.1 t=(m:Int)/\m<=12/\rows.length<=12/\(∀ r ∈ rows,r.length<=12)/\okP k tr rows.flatten t m=true:=by
 unfold oh at e
 split at e
 · rename_i kd t tr d e1 e2
   split at e
   · rename_i rows e3;simp only[Bool.and_eq_true,decide_eq_true_eq,List.all_eq_true]at e;obtain⟨a1,a2,a3,a4,a5,a6,a7,a8,a9,a10⟩:=e;have a1:=cG.mp a1;rw[jn]at a2 a3 a6;simp only[decide_eq_true_eq]at a2 a3 a6;unfold Xg at e3
     split at e3
     · refine⟨t.toNat,(gQ k.1 t.toNat).toNat,tr,rows,by rw[<- a3];exact a2.symm,by rw[e1,a1,<- a3],by rw[e2,Gk O8 e3],a4.1,a4.2,fun z=>?_,a6,a7,a8,a9,a10⟩;rw[z]at a5;simpa using Nat.eq_of_beq_eq_true (by simpa using a5)
     · cases e3
   · cases e
 · cases e
theorem aby{k:List Nat × Int}{tr wZ:List dR}{t m:Nat}(e:okP k tr wZ t m=true){x:Nat}(lx:x<2*t):(∀ i,i<m->(gC (cW k.1 t tr i) t (x:Int)).isSome=true)/\∀ y,y<2*t->DN (qe (cW k.1 t tr) t x m) (y:Int)=Wm wZ x y:=by
 unfold okP at e;have e:=List.all_eq_true.mp e x (List.mem_range.mpr lx);rw[Bool.and_eq_true]at e;refine⟨fun i li=>List.all_eq_true.mp e.1 i (List.mem_range.mpr li),fun y ly=>?_⟩;exact Nat.eq_of_beq_eq_true (List.all_eq_true.mp e.2 y (List.mem_range.mpr ly))
theorem acL{h:Hs}{τ:Sg}{i j l o k:Nat}{a b c e:W}(z:h.get k=some (.tup [a,b,c,e])):bx h 9 (.tup [.nm i,.nm j,.nm l,.nm o]) (.ref k) τ=some (setAt (setAt (setAt (setAt τ (some a) i) (some b) j) (some c) l) (some e) o):=by
 show Option.rec (motive:=fun _=>Option Sg) none (fun o'=>O.rec (motive:=fun _=>Option Sg) (fun xs=>bindL (bx h 8) [.nm i,.nm j,.nm l,.nm o] xs τ) (fun _=>none) (fun _ _=>none) (fun _=>none) (fun _=>none) (fun _=>none) o') (h.get k)=_;rw[z];rfl
theorem adM{h:Hs}{A:Nat->Prop}{m:Meet}{w:W}(r:Ev.Rd h A (D4 m) w):∃ p,w= .ref p/\p<h.n/\A p/\h.get p=some (.tup [.int (m.1:Int),.str (DG m.2.1),.int m.2.2.1,.int m.2.2.2]):=by
 simp only[D4,Ev.Rd,Rds]at r;obtain⟨p,ws,rfl,l,a,g,_,_,rfl,rfl,_,_,rfl,rfl,_,_,rfl,rfl,_,_,rfl,rfl,rfl⟩:=r;exact⟨p,rfl,l,a,g⟩
noncomputable def npT:List Nat:=[110,111,32,112,97,105,114]
section
variable{d n p t:Nat}{h:Hs}{Q:W->Hs->Prop}{kd:List Nat}{tr:List dR}
theorem YM{x y m:Nat}(P:e_ h p kd t tr)(em:gQ kd t=m)(lm:m<=20)(lx:x<2*t)(ly:y<2*t)(hw:∀ i,i<m->(gC (cW kd t tr i) t (x:Int)).isSome=true)(q:∀ h',Ext h h'->Q (.int (DN (qe (cW kd t tr) t x m) (y:Int):Nat)) h'):wC 3 [.ref p,.int (x:Int),.int (y:Int)] (a_ Pg (d+8)) (n+120) h Q:=by
 refine(fD rfl rfl).mpr ?_;unfold FW;obtain⟨pt,ws,g,_⟩:=P.g;refine aM.mpr (qu.mpr (gY (aN (w:=.ref p) rfl ⟨p,_,rfl,g,rfl,aH.mpr (aN (w:=.int (x:Int)) rfl (b_.mpr (qL (d:=d+5) (n:=n+117) P (by omega) (by omega) ?_)))⟩)));refine bC (aM.mpr (qu.mpr (gY (aN (w:=.ref p) rfl ⟨p,_,rfl,g,rfl,aH.mpr (aN (w:=.int (y:Int)) rfl (b_.mpr (qL (d:=d+5) (n:=n+117) P (by omega) (by omega) ?_)))⟩))));refine bC (aM.mpr (kI.mpr (dm.mpr (aH.mpr (Yw (Jm (vH.mpr ?_)))))));walk_at "s";refine YK (d:=d) (n:=n+39) P em lm (by omega) (by omega) hw fun f us h1 x1 lo1 l1 g1 r1=>?_;generalize hG:qe (cW kd t tr) t (x:Int) m=G at r1 q;have lG:G.length=m:=by rw[<- hG];simp[qe]
 have ul:us.length=m:=by rw[r1.length,List.length_map,lG]
 refine⟨f,us,rfl,.inl ⟨g1,x1,us,G.map fun mt=>(decide (mt.2.2.1=(y:Int)),D.int mt.2.2.1),fun h2 x2=>Ol g1 l1 x2,by rw[List.length_map,ul,lG],by omega,by omega,?_,?_⟩⟩
 · intro i w b dd h2 k ei ed lk x2 l2;obtain⟨d1,e1,rd1⟩:=Rds.at r1 ei;rw[List.getElem?_map]at e1 ed;obtain⟨mt,em',rfl⟩:=Option.map_eq_some_iff.mp e1;rw[em']at ed;simp only[Option.map_some,Option.some.injEq,Prod.mk.injEq]at ed;obtain⟨rfl,rfl⟩:=ed;obtain⟨c,rfl,lc,_,gc⟩:=adM rd1;refine⟨_,acL (x2.get lc gc),?_⟩;walk_at "s";refine⟨rfl,.refl,fun _=>?_⟩;walk_at "s";exact⟨.refl,Dc⟩
 · intro vs h3 x3 l3 g3 r3;walk_at "s";refine W7 g3 ?_;walk_at "s"
   have lv:vs.length=DN G (y:Int):=by
    rw[r3.length,List.length_map,List.filter_map,List.length_map];rfl
   rw[lv];exact q _ (x1.trans x3)
theorem O9{i:Int}(P:e_ h p kd t tr)(b:i<0\/2*(t:Int)<=i):bJ 17 [.ref p,.int i] (a_ Pg (d+2)) (n+2) h= .ex 4 [(jE,.str npT)] h:=by
 refine abl rfl rfl ?_;unfold n_;obtain⟨pt,ws,g,_⟩:=P.g;refine Q3 (abm (CZ.mpr ?_));walk_at "s";refine V7 (fun _=>⟨true,rfl,rfl⟩) fun e=>?_;refine dm.mpr (aH.mpr (aN (w:=.int i) rfl (aH.mpr (gY (aN (w:=.ref p) rfl ⟨p,_,rfl,g,rfl,b_.mpr (O7 P ?_)⟩)))));walk_at "s";exact⟨true,by rw[decide_eq_true (show 2*(t:Int)<=i by omega)],rfl⟩
theorem Wn{x y:Int}(P:e_ h p kd t tr)(b:(x<0\/2*(t:Int)<=x)\/(0<=x/\x<2*(t:Int))/\(y<0\/2*(t:Int)<=y)):bJ 3 [.ref p,.int x,.int y] (a_ Pg (d+3)) (n+3) h= .ex 4 [(jE,.str npT)] h:=by
 refine abl rfl rfl ?_;unfold FW;obtain⟨pt,ws,g,_⟩:=P.g
 rcases b with b | ⟨⟨b0,b1⟩,b⟩
 · exact Q3 (Ow (Ox (aN (w:=.ref p) rfl ⟨p,_,rfl,g,rfl,aH.mpr (aN (w:=.int x) rfl (b_.mpr (O9 (d:=d) (n:=n) P b)))⟩)))
 · refine acG (qu.mpr (gY (aN (w:=.ref p) rfl ⟨p,_,rfl,g,rfl,aH.mpr (aN (w:=.int x) rfl (b_.mpr (qL (d:=d) (n:=n) P b0 b1 ⟨_,rfl,?_⟩)))⟩)));exact Q3 (Ow (Ox (aN (w:=.ref p) rfl ⟨p,_,rfl,g,rfl,aH.mpr (aN (w:=.int y) rfl (b_.mpr (O9 (d:=d) (n:=n) P b)))⟩)))
theorem acM{k mo:Int}(k0:0<=k)(m0:0<=mo)(m1:mo<=1000)(q:∀ z h',Ext h h'->(z<0\/mo<=z)->Q (.int z) h'):wC 31 [.int k,.int mo] (a_ Pg (d+1)) (n+1) h Q:=by
 refine(fD rfl rfl).mpr ?_;unfold xm;walk_at "s";refine Xa (by decide) (by decide) ?_;walk_at "s";refine Xa (by decide) (by decide) ?_;walk_at "s";have e5:(k % 5).toNat<5:=by omega
 refine W8 aZ (by omega) (vI (l:=[-1,mo,mo+1,10 ^ (40:Int).toNat,-(10 ^ (40:Int).toNat)]) e5) ?_;walk_at "s";refine q _ _ .push ?_;have big:(1000:Int)<=10 ^ (40:Int).toNat:=by decide
 generalize (10:Int) ^ (40:Int).toNat=B at big;generalize (k % 5).toNat=j at e5
 match j,e5 with
 | 0,_=>exact .inl (by show(-1:Int)<0;decide)
 | 1,_=>exact .inr (by show mo<=mo;omega)
 | 2,_=>exact .inr (by show mo<=mo+1;omega)
 | 3,_=>exact .inr (by show mo<=B;omega)
 | 4,_=>exact .inl (by show -B<0;omega)
end
section
variable{K:Ks}{n pa:Nat}{τ:Sg}{h:Hs}{Q:W->Hs->Prop}{A:Nat->Prop}{ahead:List dR}{aws:List W}{a b:Int}
theorem YQ(a b c e:Int):cR (Dp a b) (Dp c e)=(decide (a=c)&&decide (b=e)):=by
 have z:∀ x y:Int,ieq x y=decide (x=y):=fun x y=>by rw[jn]
 simp only[Dp,cR,sH,z];cases decide (a=c) <;> cases decide (b=e) <;> rfl
theorem acN(lpa:pa<h.n)(gpa:h.get pa=some (.lst aws))(ra:Rds h A (ahead.map D3) aws)(la:ahead.length<=1000)(t3:cN τ 6=some (.int a))(t4:cN τ 7=some (.int b))(t7:cN τ 5=some (.ref pa))(q:∀ h',Ext h h'->Q (.int (Wm ahead a b:Nat)) h'):
 wX (.pr .len [(.comp 1 [6,7] (.seq (.var 5)) (.nm 0) (some (.pr .inD [(.slice (.var 0) none (some (.cst (.int 2)))),(.pr .lst [(.pr .tup [(.var 1),(.var 2)]),(.pr .tup [(.var 2),(.var 1)])])])) none (.var 0))]) K (n+1010) τ h Q:=by
 have al:aws.length=ahead.length:=by rw[ra.length,List.length_map]
 refine dm.mpr (aH.mpr (MN (Jm (aN t7 ?_))))
 let P:W->Bool:=fun w=>match w with
  | .ref k=>match h.get k with
    | some (.tup [.int c,.int e,.int _])=>(decide (c=a)&&decide (e=b))||(decide (c=b)&&decide (e=a))
    | _=>false
  | _=>false
 have hP:∀(u:dR) w,Ev.Rd h A (D3 u) w->P w=((decide (u.1=a)&&decide (u.2.1=b))||(decide (u.1=b)&&decide (u.2.1=a))):=fun u w r=>by
  obtain⟨k,rfl,lk,_,gk⟩:=V9.mp r;show(match h.get k with | some (.tup [.int c,.int e,.int _])=>(decide (c=a)&&decide (e=b))||(decide (c=b)&&decide (e=a)) | _=>false)=_;rw[gk]
 refine⟨pa,_,rfl,.inl ⟨gpa,.refl,aws,P,fun h2 x2=>Ol gpa lpa x2,by omega,by omega,?_,?_⟩⟩
 · intro i w h2 m ei lm x2 l2;obtain⟨dd,ed,rd⟩:=Rds.at ra ei;rw[List.getElem?_map]at ed;obtain⟨u,eu,rfl⟩:=Option.map_eq_some_iff.mp ed;rw[hP u w rd];obtain⟨k,rfl,lk,_,gk⟩:=V9.mp rd
   have eb:lN 1 [6,7] τ= [none,some (.int a),some (.int b)]:=by
    show [none,cN τ 6,cN τ 7] =_;rw[t3,t4]
   rw[eb];refine⟨[some (.ref k),some (.int a),some (.int b)],rfl,?_⟩;have g2:=x2.get lk gk;refine dm.mpr (aH.mpr (Hj (aN (w:=.ref k) rfl (yz.mpr ?_))));refine⟨k,[.int u.1,.int u.2.1,.int u.2.2],2,rfl,rfl,Nat.lt_succ_self 2,g2,?_⟩;refine aH.mpr (dm.mpr (aH.mpr (dm.mpr (aH.mpr (aN (w:=.int a) rfl (aH.mpr (aN (w:=.int b) rfl (b_.mpr (QX (Nat.le_of_ble_eq_true rfl) ?_)))))))));refine aH.mpr (dm.mpr (aH.mpr (aN (w:=.int b) rfl (aH.mpr (aN (w:=.int a) rfl (b_.mpr (QX (Nat.le_of_ble_eq_true rfl) ?_)))))));refine b_.mpr (W9 (Nat.le_of_ble_eq_true rfl) (b_.mpr ?_));have e1:(h2.push (O.tup (List.take 2 [W.int u.1,.int u.2.1,.int u.2.2])))=h2.push (.tup [.int u.1,.int u.2.1]):=rfl;rw[e1];have y1:Ext h2 (h2.push (.tup [.int u.1,.int u.2.1])):=.push;have f1:(h2.push (.tup [.int u.1,.int u.2.1])).get h2.n=some (.tup [.int u.1,.int u.2.1]):=aZ;have m1:h2.n<(h2.push (.tup [.int u.1,.int u.2.1])).n:=cu;generalize h2.push (.tup [.int u.1,.int u.2.1])=k1 at *;have y2:Ext k1 (k1.push (.tup [.int a,.int b])):=.push;have f2:(k1.push (.tup [.int a,.int b])).get k1.n=some (.tup [.int a,.int b]):=aZ;have m2:k1.n<(k1.push (.tup [.int a,.int b])).n:=cu;generalize k1.push (.tup [.int a,.int b])=k2 at *;have y3:Ext k2 (k2.push (.tup [.int b,.int a])):=.push;have f3:(k2.push (.tup [.int b,.int a])).get k2.n=some (.tup [.int b,.int a]):=aZ;have m3:k2.n<(k2.push (.tup [.int b,.int a])).n:=cu;generalize k2.push (.tup [.int b,.int a])=k3 at *;have y4:Ext k3 (k3.push (.lst [.ref k1.n,.ref k2.n])):=.push;refine acC (d:=Dp u.1 u.2.1) (ds:=[Dp a b,Dp b a]) (A:=fun _=>True) (B:=fun _=>True) (V8.mpr ⟨_,rfl,?_,trivial,(y2.trans (y3.trans y4)).get m1 f1⟩) (KY.mpr ⟨_,_,rfl,cu,trivial,aZ,?_⟩) (by simp[j6,uq]) (by simp[j6,uq]) (by simp[okD,yC]) (by simp[okD,yC]) ?_
   · have:=y2.1;have:=y3.1;have:=y4.1;omega
   · unfold Rds;refine⟨_,_,rfl,V8.mpr ⟨_,rfl,?_,trivial,(y3.trans y4).get m2 f2⟩,Gj (V8.mpr ⟨_,rfl,?_,trivial,y4.get m3 f3⟩)⟩
     · have:=y3.1;have:=y4.1;omega
     · have:=y4.1;omega
   · have ea:([Dp a b,Dp b a].any fun e=>cR e (Dp u.1 u.2.1))=((decide (u.1=a)&&decide (u.2.1=b))||(decide (u.1=b)&&decide (u.2.1=a))):=by
      simp only[List.any_cons,List.any_nil,Bool.or_false,YQ];have c:∀ x y:Int,decide (x=y)=decide (y=x):=fun x y=>decide_eq_decide.mpr eq_comm;rw[c a u.1,c b u.2.1,c b u.1,c a u.2.1]
     rw[ea];refine⟨rfl,y1.trans (y2.trans (y3.trans y4)),fun _=>?_⟩;exact aN (w:=.ref k) rfl ⟨rfl,.refl⟩
 · intro h3 x3 l3 g3;have rf:Rds h3 A ((ahead.filter fun u=>(decide (u.1=a)&&decide (u.2.1=b))||(decide (u.1=b)&&decide (u.2.1=a))).map D3) (aws.filter P):=(Rds.aa3 hP ra).ext x3;refine b_.mpr (W7 g3 ?_);rw[rf.length,List.length_map];exact q _ x3
end
section
variable{d n:Nat}{h:Hs}{Q:W->Hs->Prop}{A B:Nat->Prop}
theorem YS{i:Int}(q:Q (.bl true) h):wC 23 [.int i,.int i] (a_ Pg (d+2)) (n+2) h Q:=by
 refine(fD rfl rfl).mpr ?_;unfold Aq;walk_at "s";refine yF ?_;walk_at "s";refine(fD rfl rfl).mpr ?_;unfold Dj;walk_at "s";rw[decide_eq_true rfl];exact q
end
theorem runs(ns:List Int)(l63:ns.length<=63):wC 33 [.ref 0] (a_ Pg 14) 5000 (Bx ns) fun w _=>w= .bl true:=by
 refine(fD (n:=4999) (d:=13) rfl rfl).mpr ?_;unfold Jp;have gs:(Bx ns).get 0=some (.scr ns):=aZ (h:=.mk 0 .lf);have ls:0<(Bx ns).n:=cu (h:=.mk 0 .lf);generalize Bx ns=h0 at gs ls;refine aM.mpr (jN.mpr ?_);walk_at "s";refine aba gs l63 (by decide) ?_;walk_at "s";refine abb (ls:=[13,5,60]) aZ (by decide) (by decide) fun hD=>?_;generalize jq _ [13,5,60] =row at hD;generalize ed:(Hs.push _ (.lst (row.map W.int)))=h1;generalize en:Hs.n _=pr;have gr:h1.get pr=some (.lst (row.map W.int)):=by rw[<- ed,<- en];exact aZ
 have lr:pr<h1.n:=by rw[<- ed,<- en];exact cu
 clear ed en gs ls;have rl:row.length=3:=Hh hD;have d0:0<=row.getD 0 0/\row.getD 0 0<13:=wB (k:=0) hD (by decide);have d1:0<=row.getD 1 0/\row.getD 1 0<5:=wB (k:=1) hD (by decide);have d2:0<=row.getD 2 0/\row.getD 2 0<60:=wB (k:=2) hD (by decide);obtain⟨k,hk,ek⟩:∃ k:Nat,k<13/\row.getD 0 0=Int.ofNat k:=⟨(row.getD 0 0).toNat,by omega,by show row.getD 0 0=(((row.getD 0 0).toNat:Nat):Int);omega⟩;refine bC (aM.mpr (Fw (T8 (ws:=[.int (Int.ofNat k)]) rfl (abx k hk) ?_)));walk_at "s";refine KQ (q:=0) gr (vI (by omega)) ?_;refine b_.mpr ⟨by rw[ek],fun w2 h2 x2 r2=>?_⟩;have ok:=abw k hk;have oK:=okK k hk;generalize hkk:aX.getD k ([],0)=kk at r2 ok oK;obtain⟨t,m,tr,rows,et,eL,eR,t0,t9,len,em,lm,b1,b2,bP⟩:=YL ok;simp only[Ev.Rd]at r2;obtain⟨pk,wk,rfl,lpk,_,gpk,rk⟩:=r2;simp only[Rds,Ev.Rd]at rk;obtain⟨_,_,rfl,rfl,_,_,rfl,rfl,rfl⟩:=rk;refine⟨pk,_,_,rfl,gpk,?_⟩;have eL2:RB ((X.make 50 11 [(.var 2),(.var 3)]).f (a_ Pg 13) 20000 [none,none,some (.str kk.1),some (.int kk.2),none,none,none,none,none,none] (.mk 0 .lf))=some (kk.1,(t:Int),tr):=eL;unfold RB at eL2
 split at eL2
 case h_2=>cases eL2
 rename_i w3 g3 e3;refine bC (aM.mpr (jN.mpr (abf (w:=w3) (g:=g3) e3 ?_)));obtain⟨p,ep,P⟩:=Wl (h:=h2) eL2 oK t0 t9 len;rw[ep];have x3:Ext h2 (h2.cat g3):=Fx;generalize h2.cat g3=h3 at *;have x13:=x2.trans x3;refine bC (aM.mpr (jN.mpr (vH.mpr (aH.mpr (T8 (ws:=[.str kk.1,.int kk.2]) rfl eR ?_)))));walk_at "s";refine⟨rfl,fun w4 h4 x4 r4=>?_⟩;obtain⟨p4,rws,rfl,l4,_,g4,rr4⟩:=KY.mp r4;have abz:∀ r ∈ rows,r.length<=30:=fun r hr=>by have:=b2 r hr;omega
 refine b_.mpr (Wi (d:=12) (n:=4939) l4 g4 rr4 (by omega) abz fun p5 us5 h5 x5 lo5 l5 g5 r5=>?_);have fl:=BX rows abz;generalize rows.flatten=wZ at *;have x35:=x4.trans x5;have P5:=P.ext x35;have gr5:=(x13.trans x35).get lr gr;have lr5:=bH lr (x13.trans x35).1;rw[et];refine bC (aM.mpr (yE (C_ ?_)));walk_at "s";refine⟨2*(t:Int),rfl,by omega,by omega,wz 0 (2*t),fun i τ h=>∃ u6 u7 u8 u9,τ= [some (.ref 0),some (.ref pr),some (.str kk.1),some (.int (t:Int)),some (.ref p),some (.ref p5),u6,u7,u8,u9]/\Ext h5 h,fun _ _ _ _=>by rw[show(2*(t:Int)).toNat=2*t by omega];exact zV,by rw[cT];omega,⟨_,_,_,_,rfl,.refl⟩,?_,?_⟩
 · rintro x w τ h mx ex lmx ⟨u6,u7,u8,u9,rfl,xh⟩;have lx:x<2*t:=by have:=(bu ex).1;rw[cT]at this;exact this
   rw[tu lx]at ex;cases ex;rw[show(0:Int)+Int.ofNat x=(x:Int) by show 0+(x:Int)=(x:Int);omega];rw[cT]at lmx;obtain⟨oW,oF⟩:=aby bP lx;refine⟨[some (.ref 0),some (.ref pr),some (.str kk.1),some (.int (t:Int)),some (.ref p),some (.ref p5),some (.int (x:Int)),u7,u8,u9],rfl,?_⟩;refine aM.mpr (yE (C_ ?_));walk_at "s";refine⟨2*(t:Int),rfl,by omega,by omega,wz 0 (2*t),fun i τ h=>∃ u7 u8 u9,τ= [some (.ref 0),some (.ref pr),some (.str kk.1),some (.int (t:Int)),some (.ref p),some (.ref p5),some (.int (x:Int)),u7,u8,u9]/\Ext h5 h,fun _ _ _ _=>by rw[show(2*(t:Int)).toNat=2*t by omega];exact zV,by rw[cT];omega,⟨_,_,_,rfl,xh⟩,?_,?_⟩
   · rintro y w τ h my ey lmy ⟨u7,u8,u9,rfl,xy⟩;have ly:y<2*t:=by have:=(bu ey).1;rw[cT]at this;exact this
     rw[tu ly]at ey;cases ey;rw[show(0:Int)+Int.ofNat y=(y:Int) by show 0+(y:Int)=(y:Int);omega];rw[cT]at lmy;obtain⟨my,rfl⟩:∃ m',my=m'+1010:=⟨my - 1010,by omega⟩;refine⟨[some (.ref 0),some (.ref pr),some (.str kk.1),some (.int (t:Int)),some (.ref p),some (.ref p5),some (.int (x:Int)),some (.int (y:Int)),u8,u9],rfl,?_⟩;refine aM.mpr (jN.mpr (acN (bH l5 xy.1) (xy.get l5 g5) (r5.ext xy) (by omega) rfl rfl rfl fun h6 x6=>?_));refine bC (aM.mpr (pP.mpr ?_));walk_at "s";refine YM (d:=5) (n:=my+890) (P5.ext (xy.trans x6)) em (by omega) lx ly oW fun h7 x7=>?_;rw[oF y ly];walk_at "s";refine YS (d:=11) (n:=my+1008) ?_;walk_at "s";exact⟨_,_,_,rfl,xy.trans (x6.trans x7)⟩
   · rintro τ h ⟨u7,u8,u9,rfl,xy⟩;exact bC (pO.mpr (Jo ⟨_,_,_,_,rfl,xy⟩))
 · rintro τ h6 ⟨u6,u7,u8,u9,rfl,xh⟩;have gr6:=xh.get lr5 gr5;have T0:(0:Int)<2*(t:Int):=by omega
   refine bC (aM.mpr (jN.mpr (vH.mpr ?_)));walk_at "s";refine KQ (q:=1) gr6 (vI (by omega)) ?_;walk_at "s";refine acM (d:=12) (n:=4998) d1.1 (by omega) (by omega) fun bad h7 x7 hb=>?_;have gr7:=(xh.trans x7).get lr5 gr5;refine bC (aM.mpr (yE (Jm ?_)));walk_at "s";refine KQ (q:=2) gr7 (vI (by omega)) ?_;walk_at "s";refine KQ (q:=2) (Ext.push.get (bH lr5 (xh.trans x7).1) gr7) (vI (by omega)) ?_;walk_at "s";have z0:=Int.emod_nonneg (row.getD 2 0) (show 2*(t:Int) ≠ 0 by omega);have z1:=Int.emod_lt_of_pos (row.getD 2 0) T0;generalize row.getD 2 0 % (2*(t:Int))=z at z0 z1;have y1:Ext h7 (h7.push (.tup [.int bad,.int z])):=.push;have f1:(h7.push (.tup [.int bad,.int z])).get h7.n=some (.tup [.int bad,.int z]):=aZ;have m1:h7.n<(h7.push (.tup [.int bad,.int z])).n:=cu;generalize h7.push (.tup [.int bad,.int z])=k1 at *;have y2:Ext k1 (k1.push (.tup [.int z,.int bad])):=.push;have f2:(k1.push (.tup [.int z,.int bad])).get k1.n=some (.tup [.int z,.int bad]):=aZ;have m2:k1.n<(k1.push (.tup [.int z,.int bad])).n:=cu;generalize k1.push (.tup [.int z,.int bad])=k2 at *;have y3:Ext k2 (k2.push (.tup [.int bad,.int bad])):=.push;have f3:(k2.push (.tup [.int bad,.int bad])).get k2.n=some (.tup [.int bad,.int bad]):=aZ;have m3:k2.n<(k2.push (.tup [.int bad,.int bad])).n:=cu;generalize k2.push (.tup [.int bad,.int bad])=k3 at *;have y4:Ext k3 (k3.push (.lst [.ref h7.n,.ref k1.n,.ref k2.n])):=.push;have f4:(k3.push (.lst [.ref h7.n,.ref k1.n,.ref k2.n])).get k3.n=some (.lst [.ref h7.n,.ref k1.n,.ref k2.n]):=aZ;have m4:k3.n<(k3.push (.lst [.ref h7.n,.ref k1.n,.ref k2.n])).n:=cu;generalize k3.push (.lst [.ref h7.n,.ref k1.n,.ref k2.n])=k4 at *
   have pairs:∀(i:Nat) w,[W.ref h7.n,.ref k1.n,.ref k2.n][i]? =some w->∃(q:Nat) (a b:Int),w= .ref q/\q<k4.n/\k4.get q=some (.tup [.int a,.int b])/\((a<0\/2*(t:Int)<=a)\/(0<=a/\a<2*(t:Int))/\(b<0\/2*(t:Int)<=b)):=fun i w e=>by
    have n4:=y4.1;have n3:=y3.1;have n2:=y2.1
    match i,e with
    | 0,e=>cases e;exact⟨h7.n,bad,z,rfl,by omega,(y2.trans (y3.trans y4)).get m1 f1,.inl hb⟩
    | 1,e=>cases e;exact⟨k1.n,z,bad,rfl,by omega,(y3.trans y4).get m2 f2,.inr ⟨⟨z0,z1⟩,hb⟩⟩
    | 2,e=>cases e;exact⟨k2.n,bad,bad,rfl,by omega,y4.get m3 f3,.inl hb⟩
    | i+3,e=>simp at e
   have x7k:=x7.trans (y1.trans (y2.trans (y3.trans y4)));have P4:=P5.ext (xh.trans x7k);refine⟨k3.n,_,rfl,.inl ⟨f4,[.ref h7.n,.ref k1.n,.ref k2.n],fun i τ h=>∃ u6 u7,τ= [some (.ref 0),some (.ref pr),some (.str kk.1),some (.int (t:Int)),some (.ref p),some (.ref p5),u6,u7,u8,some (.int bad)]/\Ext k4 h,fun i τ h ⟨_,_,_,e⟩=>.inl ⟨k3.n,rfl,e.get m4 f4⟩,by simp,⟨_,_,rfl,.refl⟩,?_,?_⟩⟩
   · rintro i w τ h mm ei lmm ⟨u6,u7,rfl,e⟩;obtain⟨q,a,b,rfl,lq,gq,hab⟩:=pairs i w ei;refine⟨[some (.ref 0),some (.ref pr),some (.str kk.1),some (.int (t:Int)),some (.ref p),some (.ref p5),some (.int a),some (.int b),u8,some (.int bad)],?_,?_⟩
     · show Option.rec (motive:=fun _=>Option Sg) none (fun o=>O.rec (motive:=fun _=>Option Sg) (fun xs=>bindL (bx h 8) [.nm 6,.nm 7] xs _) (fun _=>none) (fun _ _=>none) (fun _=>none) (fun _=>none) (fun _=>none) o) (h.get q)=_;rw[e.get lq gq];rfl
     obtain⟨mm,rfl⟩:∃ m',mm=m'+3:=⟨mm - 3,by simp at lmm;omega⟩;refine aM.mpr (pP.mpr (dm.mpr (aH.mpr ?_)));have ee:(X.call 3 [.var 0,.var 1,.var 2]).f (a_ Pg 11) (mm+3) (lN 0 [4,6,7] [some (.ref 0),some (.ref pr),some (.str kk.1),some (.int (t:Int)),some (.ref p),some (.ref p5),some (.int a),some (.int b),u8,some (.int bad)]) h= .ex 4 [(jE,.str npT)] h:=Yv (ws:=[.ref p,.int a,.int b]) (h1:=h) rfl (Wn (d:=8) (n:=mm) (P4.ext e) hab);refine aa2 (w:=.str npT) ee (by decide) rfl ?_;walk_at "s"
     have rdN:∀ {h':Hs} {q:Nat},q<h'.n->h'.get q=some (.tup [.str noT,.str npT])->Ev.Rd h' (fun _=>True) (.tup [.str noT,.str npT]) (.ref q):=fun l g=>Uh l trivial g (by
      unfold Rds;refine⟨_,_,rfl,yG,?_⟩
      exact Gj yG)
     refine acs (rdN (bH cu Ext.push.1) (Ext.push.get cu aZ)) (rdN cu aZ) (by simp[j6,uq]) (by simp[j6,uq]) (by simp only[okD,yC];rfl) (by simp only[okD,yC];rfl) ?_;rw[Hf];exact W_ (pO.mpr (bC (pO.mpr (Jo ⟨_,_,rfl,e.trans (Ext.push.trans .push)⟩))))
   · rintro τ h ⟨u6,u7,rfl,e⟩;walk_at "s";rfl
end My
namespace My
open PySem L2 PyProof.Rows
open Ev
section
variable{P:Program}{w:World}{K:ak}{mg:Str->Option Value}{base:Heap}{a:Adr}
structure LC (P:Program)(w:World)(K:ak)(mg:Str->Option Value)(base:Heap)(a:Adr)(X:Cx)(E:XK):Prop where
 T:Txt w K mg a
 A2:All P w K mg base a 13
 hr:bD 191 X.A
 hp:Passes (CXE P w) X E
 AL:All P w K mg base a 11
 LH:Qz (cn a) X a.code
 hrT:bD (182+1) X.A
 hrL:∀ e1 e2,bD 182 ((X.A.deeper e1).deeper e2)
theorem adN{σ0:L2.St}{A:Around}{outer:List Env}{s:Shared}{H:Hp}{E:XK}(C:LC P w K mg base a (cB (CXE P w) P w K mg base ["_law_script","_law_row","_law_kind","_law_t","_law_plan","_law_seats","_law_one","_law_other","_law_due","_law_bad"] "law" (aj bz) a.dZ (.ref a.code) A outer s H E) E):QS (cB (CXE P w) P w K mg base ["_law_script","_law_row","_law_kind","_law_t","_law_plan","_law_seats","_law_one","_law_other","_law_due","_law_bad"] "law" (aj bz) a.dZ (.ref a.code) A outer s H E) ((bA bz).getD 0 (.Pass ⟨0,0,0,0⟩)) (tS Pg (cn a) E 13 σ0 (.asg (.nm 1) (.pr .draw [(.pr .cell [(.var 0),(.cst (.int 0))]),(.pr .lst [(.cst (.int 13)),(.cst (.int 5)),(.cst (.int 60))])]))):=by
 have T:=C.T;have A2:=C.A2;have hr:=C.hr;have hp:=C.hp;have AL:=C.AL;have LH:=C.LH;have hrT:=C.hrT;have hrL:=C.hrL;have SD:=Ln (P:=P) (w:=w) (base:=base) T;have SC:=Lr (P:=P) (w:=w) (base:=base) T;exact⟨(cj 1 kJ.nd (Xd (k:=2) aa_ T.lH SD (hr.mono (by omega)) rfl (rT (Xd (k:=1) (aa9 (K:=K)) T.lJ SC (hr.mono (by omega)) rfl (ao (dv 0) (cH aC aq))) (zR (cY (cH aC (cH aC (cH aC aq)))) aq))))⟩
theorem adO{σ0:L2.St}{A:Around}{outer:List Env}{s:Shared}{H:Hp}{E:XK}(C:LC P w K mg base a (cB (CXE P w) P w K mg base ["_law_script","_law_row","_law_kind","_law_t","_law_plan","_law_seats","_law_one","_law_other","_law_due","_law_bad"] "law" (aj bz) a.dZ (.ref a.code) A outer s H E) E):QS (cB (CXE P w) P w K mg base ["_law_script","_law_row","_law_kind","_law_t","_law_plan","_law_seats","_law_one","_law_other","_law_due","_law_bad"] "law" (aj bz) a.dZ (.ref a.code) A outer s H E) ((bA bz).getD 1 (.Pass ⟨0,0,0,0⟩)) (tS Pg (cn a) E 13 σ0 (.asg (.tup [(.nm 2),(.nm 3)]) (.iso 100 28 [(.pr .ix [(.var 1),(.cst (.int 0))])]))):=by
 have T:=C.T;have A2:=C.A2;have hr:=C.hr;have hp:=C.hp;have AL:=C.AL;have LH:=C.LH;have hrT:=C.hrT;have hrL:=C.hrL;exact⟨(sU (T7 A2.BR T.fL hr hp (jM (fB (dv 1) aC) aq)) (gj rfl (aO (aP 2 kJ.nd) (aO (aP 3 kJ.nd) eE))))⟩
theorem adP{σ0:L2.St}{A:Around}{outer:List Env}{s:Shared}{H:Hp}{E:XK}(C:LC P w K mg base a (cB (CXE P w) P w K mg base ["_law_script","_law_row","_law_kind","_law_t","_law_plan","_law_seats","_law_one","_law_other","_law_due","_law_bad"] "law" (aj bz) a.dZ (.ref a.code) A outer s H E) E):QS (cB (CXE P w) P w K mg base ["_law_script","_law_row","_law_kind","_law_t","_law_plan","_law_seats","_law_one","_law_other","_law_due","_law_bad"] "law" (aj bz) a.dZ (.ref a.code) A outer s H E) ((bA bz).getD 2 (.Pass ⟨0,0,0,0⟩)) (tS Pg (cn a) E 13 σ0 (.asg (.nm 4) (.K7 20000 [2,3] (.make 50 11 [(.var 2),(.var 3)])))):=by
 have T:=C.T;have A2:=C.A2;have hr:=C.hr;have hp:=C.hp;have AL:=C.AL;have LH:=C.LH;have hrT:=C.hrT;have hrL:=C.hrL;exact⟨(cj 4 kJ.nd (Yz (Yh T.Gb A2.BP (hr.mono (by omega)) rfl T.YF T.BL hp (ao (dv 2) (ao (dv 3) aq)))))⟩
theorem adQ{σ0:L2.St}{A:Around}{outer:List Env}{s:Shared}{H:Hp}{E:XK}(C:LC P w K mg base a (cB (CXE P w) P w K mg base ["_law_script","_law_row","_law_kind","_law_t","_law_plan","_law_seats","_law_one","_law_other","_law_due","_law_bad"] "law" (aj bz) a.dZ (.ref a.code) A outer s H E) E):QS (cB (CXE P w) P w K mg base ["_law_script","_law_row","_law_kind","_law_t","_law_plan","_law_seats","_law_one","_law_other","_law_due","_law_bad"] "law" (aj bz) a.dZ (.ref a.code) A outer s H E) ((bA bz).getD 3 (.Pass ⟨0,0,0,0⟩)) (tS Pg (cn a) E 13 σ0 (.asg (.nm 5) (.call 32 [(.iso 20000 30 [(.var 2),(.var 3)])]))):=by
 have T:=C.T;have A2:=C.A2;have hr:=C.hr;have hp:=C.hp;have AL:=C.AL;have LH:=C.LH;have hrT:=C.hrT;have hrL:=C.hrL;exact⟨(cj 5 kJ.nd (gM A2.Ib T.jj hr hp (rT (T7 A2.M6 T.lK hr hp (ao (dv 2) (ao (dv 3) aq))) aq)))⟩
theorem adR{σ0:L2.St}{A:Around}{outer:List Env}{s:Shared}{H:Hp}{E:XK}(C:LC P w K mg base a (cB (CXE P w) P w K mg base ["_law_script","_law_row","_law_kind","_law_t","_law_plan","_law_seats","_law_one","_law_other","_law_due","_law_bad"] "law" (aj bz) a.dZ (.ref a.code) A outer s H E) E):QS (cB (CXE P w) P w K mg base ["_law_script","_law_row","_law_kind","_law_t","_law_plan","_law_seats","_law_one","_law_other","_law_due","_law_bad"] "law" (aj bz) a.dZ (.ref a.code) A outer s H E) ((bA bz).getD 4 (.Pass ⟨0,0,0,0⟩)) (tS Pg (cn a) E 13 σ0 (.for_ (.o5 [(.pr .mul [(.cst (.int 2)),(.var 3)])]) (.nm 6) [(.for_ (.o5 [(.pr .mul [(.cst (.int 2)),(.var 3)])]) (.nm 7) [(.asg (.nm 8) (.pr .len [(.comp 1 [6,7] (.seq (.var 5)) (.nm 0) (some (.pr .inD [(.slice (.var 0) none (some (.cst (.int 2)))),(.pr .lst [(.pr .tup [(.var 1),(.var 2)]),(.pr .tup [(.var 2),(.var 1)])])])) none (.var 0))])),
 (.ife (.pr .v9 [(.pr .truth [(.call 23 [(.call 3 [(.var 4),(.var 6),(.var 7)]),(.var 8)])])]) [(.ret (.cst (.bl false)))] [])])])):=by
 have T:=C.T;have A2:=C.A2;have hr:=C.hr;have hp:=C.hp;have AL:=C.AL;have LH:=C.LH;have hrT:=C.hrT;have hrL:=C.hrL
 exact⟨(iG PassesOwn.leaving rfl jL (fX rfl T.eG (bG (aG pM (L2.OpR.or d9 mG) aC (dv 3)) aq)) (aP 6 kJ.nd)
  (aa (iG PassesOwn.leaving rfl jL (fX rfl T.eG (bG (aG pM (L2.OpR.or d9 mG) aC (dv 3)) aq)) (aP 7 kJ.nd)
  (aa (cj 8 kJ.nd (d7 (m7 (K:=K)) bF rfl T.fW boot_len (gK (jw (gW (N':=["_law_seat","_law_one","_law_other"]) (nt:=1) (idx:=[6,7]) (N:=["_law_script","_law_row","_law_kind","_law_t","_law_plan","_law_seats","_law_one","_law_other","_law_due","_law_bad"]) (osc:=aj bz) rfl rfl (by decide +kernel)) rfl jK (iz rfl (dv 5)) (fun C0 s0 H0 fp0=>(aP 0 (show List.Nodup (["_law_seat","_law_one","_law_other"]:List Str) by decide +kernel))) (fun C0 s0 H0 fp0=>(zN (bh acy (aa5 hr.units) (Bl (dv 0) E_ (Fb aC)) (cY (jx (eX (ao (dv 1) (ao (dv 2) aq))) (jx (eX (ao (dv 2) (ao (dv 1) aq))) aq))) rfl))) (fun C0 s0 H0 fp0=>(dv 0)) (by decide)) aq)))
  (aa (dh (Kf (jZ (gM A2.Aw T.fU hr hp (rT (gM A2.O6 T.nJ hr hp (ao (dv 4) (ao (dv 6) (ao (dv 7) aq)))) (ao (dv 8) aq))) (fun _=>rfl))) (aa (aQ Jj)
  au) au)
  au)))
  au))⟩
theorem adS{σ0:L2.St}{A:Around}{outer:List Env}{s:Shared}{H:Hp}{E:XK}(C:LC P w K mg base a (cB (CXE P w) P w K mg base ["_law_script","_law_row","_law_kind","_law_t","_law_plan","_law_seats","_law_one","_law_other","_law_due","_law_bad"] "law" (aj bz) a.dZ (.ref a.code) A outer s H E) E):QS (cB (CXE P w) P w K mg base ["_law_script","_law_row","_law_kind","_law_t","_law_plan","_law_seats","_law_one","_law_other","_law_due","_law_bad"] "law" (aj bz) a.dZ (.ref a.code) A outer s H E) ((bA bz).getD 5 (.Pass ⟨0,0,0,0⟩)) (tS Pg (cn a) E 13 σ0 (.asg (.nm 9) (.call 31 [(.pr .ix [(.var 1),(.cst (.int 1))]),(.pr .mul [(.cst (.int 2)),(.var 3)])]))):=by
 have T:=C.T;have A2:=C.A2;have hr:=C.hr;have hp:=C.hp;have AL:=C.AL;have LH:=C.LH;have hrT:=C.hrT;have hrL:=C.hrL;exact⟨(cj 9 kJ.nd (gM A2.Ia T.ji hr hp (jM (fB (dv 1) aC) (bG (aG pM (L2.OpR.or d9 mG) aC (dv 3)) aq))))⟩
theorem adT{σ0:L2.St}{A:Around}{outer:List Env}{s:Shared}{H:Hp}{E:XK}(C:LC P w K mg base a (cB (CXE P w) P w K mg base ["_law_script","_law_row","_law_kind","_law_t","_law_plan","_law_seats","_law_one","_law_other","_law_due","_law_bad"] "law" (aj bz) a.dZ (.ref a.code) A outer s H E) E):QS (cB (CXE P w) P w K mg base ["_law_script","_law_row","_law_kind","_law_t","_law_plan","_law_seats","_law_one","_law_other","_law_due","_law_bad"] "law" (aj bz) a.dZ (.ref a.code) A outer s H E) ((bA bz).getD 6 (.Pass ⟨0,0,0,0⟩)) (tS Pg (cn a) E 13 σ0 (.for_ (.seq (.pr .lst [(.pr .tup [(.var 9),(.pr .mod [(.pr .ix [(.var 1),(.cst (.int 2))]),(.pr .mul [(.cst (.int 2)),(.var 3)])])]),(.pr .tup [(.pr .mod [(.pr .ix [(.var 1),(.cst (.int 2))]),(.pr .mul [(.cst (.int 2)),(.var 3)])]),(.var 9)]),(.pr .tup [(.var 9),(.var 9)])])) (.tup [(.nm 6),(.nm 7)]) [(.ife (.pr .ne [(.told 5 [4,6,7] (.call 3 [(.var 0),(.var 1),(.var 2)])),(.pr .tup [(.cst (.str [110,111])),(.cst (.str [110,111,32,112,97,105,114]))])]) [(.ret (.cst (.bl false)))] [])])):=by
 have T:=C.T;have A2:=C.A2;have hr:=C.hr;have hp:=C.hp;have AL:=C.AL;have LH:=C.LH;have hrT:=C.hrT;have hrL:=C.hrL
 exact⟨(iG PassesOwn.leaving rfl jK (iz rfl (cY (jx (eX (ao (dv 9) (bG (aG fu bQ (fB (dv 1) aC) (aG pM (L2.OpR.or d9 mG) aC (dv 3))) aq))) (jx (eX (bG (aG fu bQ (fB (dv 1) aC) (aG pM (L2.OpR.or d9 mG) aC (dv 3))) (ao (dv 9) aq))) (jx (eX (ao (dv 9) (ao (dv 9) aq))) aq))))) (gj rfl (aO (aP 6 kJ.nd) (aO (aP 7 kJ.nd) eE)))
  (aa (dh (bh Vw (JQ hr.units) (Ye (w2:="") (NT:=[]) (nx:=5) LH (fun _=>rfl) hrT T.iu.fn Lb T.iu.bd rfl T.iu.mg T.iu.fn.kp rfl (by decide +kernel) (by decide +kernel) (by decide +kernel) rfl (Or.inl rfl) rfl T.jk T.HS (by decide) (by decide) (by decide) (by decide) (by decide) (hXs T)
  (gW (N':=["_law_plan","_law_one","_law_other"]) (nt:=0) (idx:=[4,6,7]) (N:=["_law_script","_law_row","_law_kind","_law_t","_law_plan","_law_seats","_law_one","_law_other","_law_due","_law_bad"]) (osc:=aj bz) rfl rfl (by decide +kernel)) rfl rfl rfl (fun _ _ _ _ _=>rfl)
  (fun cdv s1 H1 E2 E' pn f c' clos s H E3=>by
    exact(vC (AL.O6) ((hrL _ _).mono (by omega)) rfl T.nJ.mg T.nJ.fn.kp T.nJ.bd (Be (E:=E3) Own.lam rfl (fun _ _ _ z=>z)) (ao (dv 0) (ao (dv 1) (ao (dv 2) aq)))))) (eX (cH (gh [110,111]) (cH (gh [110,111,32,112,97,105,114]) aq))) (aY _)) (aa (aQ Jj)
  au) au)
  au))⟩
theorem adU{σ0:L2.St}{A:Around}{outer:List Env}{s:Shared}{H:Hp}{E:XK}(C:LC P w K mg base a (cB (CXE P w) P w K mg base ["_law_script","_law_row","_law_kind","_law_t","_law_plan","_law_seats","_law_one","_law_other","_law_due","_law_bad"] "law" (aj bz) a.dZ (.ref a.code) A outer s H E) E):QS (cB (CXE P w) P w K mg base ["_law_script","_law_row","_law_kind","_law_t","_law_plan","_law_seats","_law_one","_law_other","_law_due","_law_bad"] "law" (aj bz) a.dZ (.ref a.code) A outer s H E) ((bA bz).getD 7 (.Pass ⟨0,0,0,0⟩)) (tS Pg (cn a) E 13 σ0 (.ret (.cst (.bl true)))):=by
 have T:=C.T;have A2:=C.A2;have hr:=C.hr;have hp:=C.hp;have AL:=C.AL;have LH:=C.LH;have hrT:=C.hrT;have hrL:=C.hrL;exact⟨(aQ Jj)⟩
theorem abA(T:Txt w K mg a){oc kV doc pm ct:Value}{od an:Option Addr}{osl:Array (Option Value)}
 (lk:K.lookup a.dZ=some ⟨oc,od,.func (PySem.W.fnOf "law" "law" (iw bz) (bA bz) (aj bz) .none kV doc pm an (.ref a.code) ct),osl⟩) (hcd:PySem.W.codeIn K (.ref a.code) "law" =true)
 (hch:PySem.W.codeHdIn K a.code a.tbl=true) (KX:K.In base) (bm:base.BuiltinsAt mg a.tbl):
 bB P w K mg base (CXE P w) 192 a.dZ (PySem.W.fnOf "law" "law" (iw bz) (bA bz) (aj bz) .none kV doc pm an (.ref a.code) ct) ["_law_script"] (vJ a.tbl):=by
 refine(abg (Pg:=Pg) (cl:=cn a) (k:=191) (d:=13) (i:=33) (b:=Jp) lk hcd kJ rfl fun σ0 A outer s H E hr hp=>?_).imp (YC rfl runs);have C:LC P w K mg base a (cB (CXE P w) P w K mg base ["_law_script","_law_row","_law_kind","_law_t","_law_plan","_law_seats","_law_one","_law_other","_law_due","_law_bad"] "law" (aj bz) a.dZ (.ref a.code) A outer s H E) E:=⟨T,Ma T 13,hr,hp,Ma T 11,⟨rfl,rfl,PySem.W.codeHd_of_K KX hch,bm,rfl⟩,hr.mono (by omega),fun e1 e2=>((hr.mono (show 184<=191 by omega)).deeper e1).deeper e2⟩;have z:QSs (cB (CXE P w) P w K mg base ["_law_script","_law_row","_law_kind","_law_t","_law_plan","_law_seats","_law_one","_law_other","_law_due","_law_bad"] "law" (aj bz) a.dZ (.ref a.code) A outer s H E) (bA bz) (tSs Pg (cn a) E 13 σ0 Jp):=(iI (adN C) (iI (adO C) (iI (adP C) (iI (adQ C) (iI (adR C) (iI (adS C) (iI (adT C) (iI (adU C) Oi))))))));exact z
end
end My
namespace My
open PySem L2 PyProof.Rows Ev PySem.W
theorem all_mk{l:OpenLaw}{w:World}{K:Frag}{h:Heap}{mg:Str->Option Value}{fa tbl:Addr}{m_ o9 rW rY lC jO qy j8 pY vL jP je o_ nA mV oM oN nD lD qI lE gO jQ iB bV fJ lF jf jg dZ code aR pq pA pB pD qz cQ d8 fK iQ gR cU cV dg gU iR bY bZ bI dw dz dB dD eF ir rm rz rA rB:Addr}(X:K.In h)(G:h.Ns mainGlobals mg)(hfa:mg "law" =some (.ref fa))
 {abB Ul Gm Gn Gp Gq:Option Addr} {abC Gr Gs Gu Gv:Array (Option Value)} {abD Um Uo Up Uq:Value} {xx xF xG xH:Int} {Ii Ij Ik Il:Tok} {zu:Nat} {DP DQ DW DX:Tok} {Im:Nat} {DY D_ Ea:Tok} {Io:Nat} {Eb Ec Ed:Tok} {Ip:Nat} {Ef Eg Eh Ei Ej:Tok} {Ir:Nat} {l_:Tok} {qd:Tok}
 (nH:∃ fd,DK K "seats_in" wG m_ fd)
 (jW:∃ fd,DK K "meeting" yJ o9 fd)
 (rZ:∃ fd,DK K "guide" zY rW fd)
 (nJ:∃ fd,DK K "faced" zZ rY fd)
 (jB:∃ fd,DK K "need_ring" uH lC fd)
 (gw:∃ fd,DK K "all_unlike" tK jO fd)
 (qC:∃ fd,DK K "differ" tL qy fd)
 (kh:∃ fd,DK K "pairings" rH j8 fd)
 (nM:∃ fd,DK K "starters" rJ pY fd)
 (vM:∃ fd,DK K "fits" Dg vL fd)
 (iT:∃ fd,DK K "first_from" tM jP fd)
 (jh:∃ fd,DK K "first_adder" qU je fd)
 (jX:∃ fd,DK K "planned" yK o_ fd)
 (nP:∃ fd,DK K "trios_of" rK nA fd)
 (jT:∃ fd,DK K "_law_mixed" tQ mV fd)
 (lH:∃ fd,DK K "_law_draw" uJ oM fd)
 (lJ:∃ fd,DK K "_law_cell" uK oN fd)
 (nQ:∃ fd,DK K "_law_num" wJ nD fd)
 (fU:∃ fd,DK K "_law_same" qF lD fd)
 (iu:∃ fd,DK K "_law_told" uL qI fd)
 (fV:∃ fd,DK K "_law_step" uM lE fd)
 (gP:∃ fd,DK K "_law_starters" eY gO fd)
 (jU:∃ fd,DK K "_law_adder" pR jQ fd)
 (iC:∃ fd,DK K "_law_planned" qw iB fd)
 (fL:∃ fd,DK K "_law_some_plan" bK bV fd)
 (fM:∃ fd,DK K "_law_ring_rows" o6 fJ fd)
 (lK:∃ fd,DK K "_law_rows" uN lF fd)
 (ji:∃ fd,DK K "_law_far_of" qW jf fd)
 (jj:∃ fd,DK K "_law_joined" qX jg fd)
 (Xh:nsIn K mainGlobals "law" =some (some (.ref dZ)))
 (Xi:K.lookup dZ=some ⟨abD,abB,.func (fnOf "law" "law" (iw bz) (bA bz) (aj bz) .none Um Uo Up Ul (.ref code) Uq),abC⟩)
 (Ur:codeIn K (.ref code) "law" =true)
 (abE:keepIn K (.ref dZ)=true)
 (Ml:nsIn K mainGlobals "StandError" =some (some (.ref aR)))
 (Us:nsIn K mainGlobals "BadRing" =some (some (.ref pq)))
 (Ut:nsIn K mainGlobals "BadPlan" =some (some (.ref pA)))
 (Uu:nsIn K mainGlobals "NoRound" =some (some (.ref pB)))
 (Uv:nsIn K mainGlobals "NoTable" =some (some (.ref pD)))
 (Wo:nsIn K mainGlobals "NoPair" =some (some (.ref qz)))
 (abF:nsIn K mainGlobals "Plan" =some (some (.ref cQ)))
 (fO:∃ fd,MK K cQ "__init__" "Plan.__init__" o7 d8 fd)
 (jV:∃ fd,MK K cQ "rounds" "Plan.rounds" qx fK fd)
 (mZ:∃ fd,MK K cQ "sets" "Plan.sets" tR iQ fd)
 (k_:∃ fd,MK K cQ "pairs" "Plan.pairs" qY gR fd)
 (gF:∃ fd,MK K cQ "need_round" "Plan.need_round" mQ cU fd)
 (gG:∃ fd,MK K cQ "need_table" "Plan.need_table" mR cV fd)
 (g8:∃ fd,MK K cQ "need_pair" "Plan.need_pair" n8 dg fd)
 (lg:∃ fd,MK K cQ "field" "Plan.field" qZ gU fd)
 (m5:∃ fd,MK K cQ "seat" "Plan.seat" tU iR fd)
 (dU:∃ fd,MK K cQ "one_field_seat" "Plan.one_field_seat" jy bY fd)
 (dW:∃ fd,MK K cQ "two_field_seat" "Plan.two_field_seat" jz bZ fd)
 (dX:∃ fd,IK K aR "__init__" "StandError.__init__" jA bI fd)
 (dF:∃ fd,IK K pq "__init__" "BadRing.__init__" lQ dw fd)
 (dG:∃ fd,IK K pA "__init__" "BadPlan.__init__" lR dz fd)
 (dH:∃ fd,IK K pB "__init__" "NoRound.__init__" lU dB fd)
 (dI:∃ fd,IK K pD "__init__" "NoTable.__init__" lV dD fd)
 (eN:∃ fd,IK K qz "__init__" "NoPair.__init__" mU eF fd)
 (YT:plainGet K cQ Str.empty=true)
 (YW:hasDictIn K cQ=true)
 (YX:plainOver K cQ=true)
 (YZ:findIn K (.ref cQ) "__setattr__" =some (some (.builtin "object.__setattr__")))
 (eZ:findIn K (.ref cQ) "kind" =some none)
 (cz:findIn K (.ref cQ) "tables" =some none)
 (oZ:findIn K (.ref cQ) "trios" =some none)
 (Gb:makesIn K cQ=true)
 (Y0:keepIn K (.ref cQ)=true)
 (Mm:jJ K aR)
 (uz:XK1 K pq aR)
 (uA:XK1 K pA aR)
 (uB:XK1 K pB aR)
 (uC:XK1 K pD aR)
 (w5:XK1 K qz aR)
 (ci1:specialIn K (.ref aR) "__getattribute__" =some (some (.builtin "type.__getattribute__")))
 (ci2:readsIn K aR (.type "type")=true)
 (ci3:findCls K (.ref aR) (.type "type") "__init__" =some (.val (.ref bI)))
 (ci4:handedIn (.ref bI)=true)
 (M_:nsIn K mainGlobals "TABLES_OF" =some (some (.ref ir)))
 (Mp:K.lookup ir=some ⟨.type "dict",none,.dict (List.toArray [⟨xx,.str (nm [115,116,114,97,105,103,104,116]) Ii,.ref rm⟩,⟨xF,.str (nm [115,107,105,112]) Ij,.ref rz⟩,⟨xG,.str (nm [115,104,97,114,101,100]) Ik,.ref rA⟩,⟨xH,.str (nm [114,105,110,103]) Il,.ref rB⟩]) zu,#[]⟩)
 (Iu:xx=PyData.keyHash w.params (nm [115,116,114,97,105,103,104,116]))
 (Iw:K.lookup rm=some ⟨.type "tuple",Gm,.seq (List.toArray [.int 3 DP,.int 5 DQ,.int 7 DW,.int 9 DX]) Im,Gr⟩)
 (Iz:xF=PyData.keyHash w.params (nm [115,107,105,112]))
 (IV:K.lookup rz=some ⟨.type "tuple",Gn,.seq (List.toArray [.int 4 DY,.int 6 D_,.int 8 Ea]) Io,Gs⟩)
 (IW:xG=PyData.keyHash w.params (nm [115,104,97,114,101,100]))
 (I9:K.lookup rA=some ⟨.type "tuple",Gp,.seq (List.toArray [.int 4 Eb,.int 6 Ec,.int 8 Ed]) Ip,Gu⟩)
 (I_:xH=PyData.keyHash w.params (nm [114,105,110,103]))
 (Ja:K.lookup rB=some ⟨.type "tuple",Gq,.seq (List.toArray [.int 2 Ef,.int 3 Eg,.int 4 Eh,.int 5 Ei,.int 6 Ej]) Ir,Gv⟩)
 (Mq:(ir==sysModules)=false)
 (BZ:nsIn K mainGlobals "GREATEST_RING" =some (some (.int (11) l_)))
 (Jb:nsIn K mainGlobals "LEAST_RING" =some (some (.int (3) qd)))
 (tY:nsIn K mainGlobals "ValueError" =some none)
 (Rc:nsIn K mainGlobals "abs" =some none)
 (Rf:nsIn K mainGlobals "all" =some none)
 (y_:nsIn K mainGlobals "bool" =some none)
 (Jq:nsIn K mainGlobals "int" =some none)
 (cA:nsIn K mainGlobals "isinstance" =some none)
 (fW:nsIn K mainGlobals "len" =some none)
 (vO:nsIn K mainGlobals "list" =some none)
 (Rg:nsIn K mainGlobals "min" =some none)
 (eG:nsIn K mainGlobals "range" =some none)
 (Jr:nsIn K mainGlobals "set" =some none)
 (Js:nsIn K mainGlobals "str" =some none)
 (z8:nsIn K mainGlobals "tuple" =some none)
 (Jt:nsIn K mainGlobals "zip" =some none)
 (hch:codeHdIn K code tbl=true):
 ∃ fd:FuncData,(∀(s:Shared) (v:Value),BindsTo s fd ⟨[v],[]⟩ [("_law_script",v)])/\∀ base:Heap,K.In base->base.Ns mainGlobals mg->base.BuiltinsAt mg tbl->bB l.prog w K mg base (CXE l.prog w) 192 fa fd ["_law_script"] (vJ tbl):=by
 have e:=hfa.symm.trans (mg_of X G Xh);cases e;obtain⟨rM,nH⟩:=nH;obtain⟨uw,jW⟩:=jW;obtain⟨z6,rZ⟩:=rZ;obtain⟨z7,nJ⟩:=nJ;obtain⟨qG,jB⟩:=jB;obtain⟨pW,gw⟩:=gw;obtain⟨wO,qC⟩:=qC;obtain⟨pX,kh⟩:=kh;obtain⟨wQ,nM⟩:=nM;obtain⟨Dl,vM⟩:=vM;obtain⟨pZ,iT⟩:=iT;obtain⟨oV,jh⟩:=jh;obtain⟨ux,jX⟩:=jX;obtain⟨rN,nP⟩:=nP;obtain⟨tX,jT⟩:=jT;obtain⟨uO,lH⟩:=lH;obtain⟨uP,lJ⟩:=lJ;obtain⟨rO,nQ⟩:=nQ;obtain⟨qH,fU⟩:=fU;obtain⟨Ar,iu⟩:=iu;obtain⟨qJ,fV⟩:=fV;obtain⟨lZ,gP⟩:=gP;obtain⟨p_,jU⟩:=jU;obtain⟨nG,iC⟩:=iC;obtain⟨j9,fL⟩:=fL;obtain⟨j_,fM⟩:=fM;obtain⟨qK,lK⟩:=lK;obtain⟨oX,ji⟩:=ji;obtain⟨oY,jj⟩:=jj;obtain⟨iM,fO⟩:=fO;obtain⟨jR,jV⟩:=jV;obtain⟨mW,mZ⟩:=mZ;obtain⟨kO,k_⟩:=k_;obtain⟨gm,gF⟩:=gF;obtain⟨gn,gG⟩:=gG;obtain⟨gZ,g8⟩:=g8;obtain⟨kW,lg⟩:=lg;obtain⟨mY,m5⟩:=m5;obtain⟨dM,dU⟩:=dU;obtain⟨dN,dW⟩:=dW;obtain⟨fQ,dX⟩:=dX;obtain⟨iV,dF⟩:=dF;obtain⟨iW,dG⟩:=dG;obtain⟨iY,dH⟩:=dH;obtain⟨iZ,dI⟩:=dI;obtain⟨jr,eN⟩:=eN;have Xj:=Cp (st:=bz) Xi Ur abE;have Gw:KTup K rm [3,5,7,9]:=fun H=>.inr ⟨_,_,_,Iw,rfl,rfl,(show 4<=sizeLine by decide),.cons ⟨_,rfl⟩ (.cons ⟨_,rfl⟩ (.cons ⟨_,rfl⟩ (.cons ⟨_,rfl⟩ (.nil))))⟩;have Gx:KTup K rz [4,6,8]:=fun H=>.inr ⟨_,_,_,IV,rfl,rfl,(show 3<=sizeLine by decide),.cons ⟨_,rfl⟩ (.cons ⟨_,rfl⟩ (.cons ⟨_,rfl⟩ (.nil)))⟩;have Gy:KTup K rA [4,6,8]:=fun H=>.inr ⟨_,_,_,I9,rfl,rfl,(show 3<=sizeLine by decide),.cons ⟨_,rfl⟩ (.cons ⟨_,rfl⟩ (.cons ⟨_,rfl⟩ (.nil)))⟩;have Gz:KTup K rB [2,3,4,5,6]:=fun H=>.inr ⟨_,_,_,Ja,rfl,rfl,(show 5<=sizeLine by decide),.cons ⟨_,rfl⟩ (.cons ⟨_,rfl⟩ (.cons ⟨_,rfl⟩ (.cons ⟨_,rfl⟩ (.cons ⟨_,rfl⟩ (.nil)))))⟩;have o4:QD K w ir tV:=⟨⟨_,zu,Mp,⟨⟨_,_,rfl,Iu⟩,⟨⟨_,_,rfl,Iz⟩,⟨⟨_,_,rfl,IW⟩,⟨⟨_,_,rfl,I_⟩,trivial⟩⟩⟩⟩,.cons Gw (.cons Gx (.cons Gy (.cons Gz (.nil))))⟩,Mq⟩;have T:Txt w K mg ⟨m_,_,o9,_,rW,_,rY,_,lC,_,jO,_,qy,_,j8,_,pY,_,vL,_,jP,_,je,_,o_,_,nA,_,mV,_,oM,_,oN,_,nD,_,lD,_,qI,_,lE,_,gO,_,jQ,_,iB,_,bV,_,fJ,_,lF,_,jf,_,jg,_,fa,_,d8,_,fK,_,iQ,_,gR,_,cU,_,cV,_,dg,_,gU,_,iR,_,bY,_,bZ,_,bI,_,dw,_,dz,_,dB,_,dD,_,eF,_,aR,pq,pA,pB,pD,qz,cQ,ir,l_,qd,tbl,code⟩:=⟨nH.df X G,jW.df X G,rZ.df X G,nJ.df X G,jB.df X G,gw.df X G,qC.df X G,kh.df X G,nM.df X G,vM.df X G,iT.df X G,jh.df X G,jX.df X G,nP.df X G,jT.df X G,lH.df X G,lJ.df X G,nQ.df X G,fU.df X G,iu.df X G,fV.df X G,gP.df X G,jU.df X G,iC.df X G,fL.df X G,fM.df X G,lK.df X G,ji.df X G,jj.df X G,⟨Xj,fbn Xj,mg_of X G Xh⟩,fO.F,fbn fO.F,jV.F,fbn jV.F,jV.mt,mZ.F,fbn mZ.F,mZ.mt,k_.F,fbn k_.F,k_.mt,gF.F,fbn gF.F,gF.mt,gG.F,fbn gG.F,gG.mt,g8.F,fbn g8.F,g8.mt,lg.F,fbn lg.F,lg.mt,m5.F,fbn m5.F,m5.mt,dU.F,fbn dU.F,dU.mt,dW.F,fbn dW.F,dW.mt,dX.F,fbn dX.F,dF.F,fbn dF.F,dG.F,fbn dG.F,dH.F,fbn dH.F,dI.F,fbn dI.F,eN.F,fbn eN.F,⟨YT,YW,YX,YZ⟩,eZ,cz,oZ,⟨Gb,fO.a,fO.n,Y0⟩,mg_of X G abF,⟨uz.X,dF.a,dF.n,uz.k⟩,uz.s,uz.w,mg_of X G Us,⟨uA.X,dG.a,dG.n,uA.k⟩,uA.s,uA.w,mg_of X G Ut,⟨uB.X,dH.a,dH.n,uB.k⟩,uB.s,uB.w,mg_of X G Uu,⟨uC.X,dI.a,dI.n,uC.k⟩,uC.s,uC.w,mg_of X G Uv,⟨w5.X,eN.a,eN.n,w5.k⟩,w5.s,w5.w,mg_of X G Wo,Mm,⟨ci1,ci2,ci3,ci4,dX.F.kp⟩,mg_of X G Ml,o4,mg_of X G M_,mg_of X G BZ,mg_of X G Jb,mg_none_of X G tY,mg_none_of X G Rc,mg_none_of X G Rf,mg_none_of X G y_,mg_none_of X G Jq,mg_none_of X G cA,mg_none_of X G fW,mg_none_of X G vO,mg_none_of X G Rg,mg_none_of X G eG,mg_none_of X G Jr,mg_none_of X G Js,mg_none_of X G z8,mg_none_of X G Jt⟩;exact⟨fnOf "law" "law" (iw bz) (bA bz) (aj bz) .none Um Uo Up Ul (.ref code) Uq,fun s v=>.of_eq rfl,fun base KB _ bm=>abA T Xi Ur hch KB bm⟩
end My
namespace PySem.W.Fast
def tw18304167407803234549:=Nat
def tw14146600965936852277:=Nat
def tw18437853309212237845:=Nat
def tw1908821805584875957:=Nat
def tw17448399061390669973:=Nat
def tw1271763768601720213:=Nat
def tw7164034878997374709:=Nat
def tw15278570264341315029:=Nat
def tw16451847306446370613:=Nat
def tw4772929480182828629:=Nat
def tw11093833408999095221:=Nat
def tw8427708530645014165:=Nat
def tw4175283038172094612:=Nat
def tw16875458137661183124:=Nat
def tw16221632905179882708:=Nat
def tw3314931891919702580:=Nat
def tw11795477947693369076:=Nat
def tw1215931990343833172:=Nat
def tw8463210516350803892:=Nat
def tw5267176180841654932:=Nat
def tw17666267418074936020:=Nat
def tw15893763591761040564:=Nat
def tw2489765366341255060:=Nat
def tw16252457564032438228:=Nat
def tw9267363023789850580:=Nat
def tw4029652656812729428:=Nat
def tw18421204604570728903:=Nat
def tw10487585696662796871:=Nat
def tw15605664504444226439:=Nat
def tw14536371236195710855:=Nat
def tw12577193505572299495:=Nat
def tw11224043589330851975:=Nat
def tw637826127425866663:=Nat
def tw14934720085886144775:=Nat
def tw7522768876246522342:=Nat
def tw5295525957737114150:=Nat
def tw10812711049544497030:=Nat
def tw14583735114897260134:=Nat
def tw9306147275832922918:=Nat
def tw4637141043562591366:=Nat
def tw12215101347730825414:=Nat
def tw9557441862485742790:=Nat
def tw5938795827474067654:=Nat
def tw12994504003704570790:=Nat
def tw14042727528031215942:=Nat
def tw3690895196261418438:=Nat
def tw5979297461067779238:=Nat
def tw6703523970193445446:=Nat
def tw15661839714329309809:=Nat
def tw16919059659824584081:=Nat
def tw11085977039650568721:=Nat
def tw10887901850491325361:=Nat
def tw4032612293925960401:=Nat
def tw6148031206699521137:=Nat
def tw16650948364415165553:=Nat
def tw300773828057598193:=Nat
def tw2395275499217879696:=Nat
def tw16760175008994061072:=Nat
def tw15172273864196718832:=Nat
def tw1905098376301782640:=Nat
def tw17659609877186244048:=Nat
def tw3338917067850634032:=Nat
def tw2250517226548251216:=Nat
def tw220927127642435504:=Nat
def tw5719958713401597539:=Nat
def tw14126979766784372387:=Nat
def tw9938585156569962211:=Nat
def tw10522649912654042179:=Nat
def tw10872061927371087043:=Nat
def tw11634746819445487523:=Nat
def tw7998379171625860067:=Nat
def tw4030415572713467875:=Nat
def tw7206756049906867235:=Nat
def tw14590427534010755107:=Nat
def tw1567562502480821347:=Nat
def tw16050173687502202019:=Nat
def tw6072902237345226307:=Nat
def tw832599874924482115:=Nat
def tw1662366775308439843:=Nat
def tw18418352864249339587:=Nat
def tw8482483474162191107:=Nat
def tw6196268323481231107:=Nat
def tw11055237726750714850:=Nat
def tw3874903944156865858:=Nat
def tw8041125582114626594:=Nat
def tw1204190699777220994:=Nat
def tw18443528028668452962:=Nat
def tw10985405412801992130:=Nat
def tw17259787123456053602:=Nat
def tw5279140660989921634:=Nat
def tw7904269194682323778:=Nat
def tw9703974659180232226:=Nat
def tw11319386386222451298:=Nat
def tw12971502733317626466:=Nat
def tw17829626774585246658:=Nat
def tw11789164586594091010:=Nat
def tw2984299225941842658:=Nat
def tw13520114773894233954:=Nat
def tw15796146197946261346:=Nat
def tw8764713187426822338:=Nat
def tw10080834165028402370:=Nat
def tw10012113111410131117:=Nat
def tw8830159138402574285:=Nat
def tw15859636214042375181:=Nat
def tw2736930602747910157:=Nat
def tw13020707162301213101:=Nat
def tw17760290768561369581:=Nat
def tw13690913822051590701:=Nat
def tw10632086068557322509:=Nat
def tw10872312607748417133:=Nat
def tw2506295815123182189:=Nat
def tw14089410219373993421:=Nat
def tw10045065854260954925:=Nat
def tw1965908042571712077:=Nat
def tw15073009584030479341:=Nat
def tw15758199988800449581:=Nat
def tw17691192587321577517:=Nat
def tw1722643261481242220:=Nat
def tw7311657092566101324:=Nat
def tw1682937905254875820:=Nat
def tw14710712203442819884:=Nat
def tw4321117738735300652:=Nat
def tw5710322549068680012:=Nat
def tw15987124609311330380:=Nat
def tw2663307563194707372:=Nat
def tw17149509803713918047:=Nat
def tw12203787695202030687:=Nat
def tw15996073756356453183:=Nat
def tw7830307380530672927:=Nat
def tw14753632273201279391:=Nat
def tw11125870972987541919:=Nat
def tw14964640464841042111:=Nat
def tw5537383218650045983:=Nat
def tw7972908583316118911:=Nat
def tw3106583415441907423:=Nat
def tw10622348312832151263:=Nat
def tw15080140963705184959:=Nat
def tw14700187674108821086:=Nat
def tw15575548054657788222:=Nat
def tw1063483892555324798:=Nat
def tw8679269012169319806:=Nat
def tw2737485058319389470:=Nat
def tw17289068465810543454:=Nat
def tw8745530600057814590:=Nat
def tw1925332061195806750:=Nat
def tw7853068165157491806:=Nat
def tw810689026841083166:=Nat
def tw16538125557387947358:=Nat
def tw14003841979628582014:=Nat
def tw8139169290887281033:=Nat
def tw2870201892413652073:=Nat
def tw2008486993109324233:=Nat
def tw8395647541618630825:=Nat
def tw7019528084780732649:=Nat
def tw10805072161942557929:=Nat
def tw5884267245152602697:=Nat
def tw16566863170055772745:=Nat
def tw15748500640413968681:=Nat
def tw7488825531269500201:=Nat
def tw2996966284959872713:=Nat
def tw13506864587153141513:=Nat
def tw1979482009481033193:=Nat
def tw11590250302006470185:=Nat
def tw2866424179055063721:=Nat
def tw13905575565763243817:=Nat
def tw13773349454592274281:=Nat
def tw8766223539280544969:=Nat
def tw9794497649988227720:=Nat
def tw12260410772090876680:=Nat
def tw12710429529911978472:=Nat
def tw15109069045798930248:=Nat
def tw11253281781611300520:=Nat
def tw2465944525848151720:=Nat
def tw1497886882317559944:=Nat
def tw4891508652005133576:=Nat
def tw17360609319657151752:=Nat
def tw8876905999905187816:=Nat
def tw6970592477925657576:=Nat
def tw10574274615418992616:=Nat
def tw11080377787520996680:=Nat
def tw3817490506736153768:=Nat
def tw12011270317719588360:=Nat
def tw3676855350327020776:=Nat
def tw9147141137584554568:=Nat
def tw3416642629650233659:=Nat
def tw3922671496645126459:=Nat
def tw725362139623006875:=Nat
def tw14832696108250980059:=Nat
def tw14174400049654038011:=Nat
def tw11666766448853375547:=Nat
def tw16328649454516046747:=Nat
def tw18304516990119523483:=Nat
def tw11749154523834483867:=Nat
def tw12304081548480684091:=Nat
def tw9177525123469557147:=Nat
def tw7702923213998724571:=Nat
def tw11151728297733943994:=Nat
def tw12281812448474338394:=Nat
def tw7190223050357242010:=Nat
def tw16075373401879568666:=Nat
def tw10952851119641432410:=Nat
def tw18416757549723958330:=Nat
def tw2880915799621084282:=Nat
def tw15034776982807434778:=Nat
def tw2121530985924915450:=Nat
def tw16681102194578119258:=Nat
def tw10641583758468361594:=Nat
def tw11256806352851750618:=Nat
def tw7792594883627086266:=Nat
def tw245242752380667386:=Nat
def tw6668141704538425178:=Nat
def tw12933130322743861146:=Nat
def tw7020075590726161157:=Nat
def tw12126058780914099685:=Nat
def tw4052378862525201957:=Nat
def tw1170202857140283333:=Nat
def tw18289647877338137253:=Nat
def tw16815510855477657317:=Nat
def tw9775776357390064709:=Nat
def tw11373561037602025253:=Nat
def tw11368469384767006917:=Nat
def tw13413809870401708293:=Nat
def tw13325051595081427173:=Nat
def tw3823393509208396069:=Nat
def tw8624086786770626181:=Nat
def tw2990394625899080548:=Nat
def tw1368997135032821604:=Nat
def tw2584004778431294724:=Nat
def tw8456290402877968420:=Nat
def tw18382616393626775652:=Nat
def tw16501463353414165604:=Nat
def tw885940760757341636:=Nat
def tw10854486360390387204:=Nat
def tw3446169960039187972:=Nat
def tw11475196766243441892:=Nat
def tw11460338558651465956:=Nat
def tw2669291062510822276:=Nat
def tw7613109305619813988:=Nat
def tw15086828388598687396:=Nat
def tw9348329091467752452:=Nat
def tw12349962792273322724:=Nat
def tw12212411906843002967:=Nat
def tw13726628779488219959:=Nat
def tw11236795311920910487:=Nat
def tw17357778232789835927:=Nat
def tw18262353863222662295:=Nat
def tw11732791874988937079:=Nat
def tw14667275349253546263:=Nat
def tw4437149288345714967:=Nat
def tw18267885101983194103:=Nat
def tw17403743568391005719:=Nat
def tw2999184937394531927:=Nat
def tw5497310855144714839:=Nat
def tw10303086741947034935:=Nat
def tw6213736703450679671:=Nat
def tw11264580504317259479:=Nat
def tw5881635651401331479:=Nat
def tw11313803517464377111:=Nat
def tw16509224012379520791:=Nat
def tw11629150004997339639:=Nat
def tw836098629880469463:=Nat
def tw14435843553340354295:=Nat
def tw247551327358876854:=Nat
def tw2462052635509946902:=Nat
def tw2186155137149766902:=Nat
def tw15647260464348068278:=Nat
def tw14642818080442547990:=Nat
def tw11908030101228100374:=Nat
def tw9342511304476229462:=Nat
def tw17396263134721828406:=Nat
def tw5499588961635532694:=Nat
def tw1508754232621624214:=Nat
def tw2976008258381934550:=Nat
def tw16430519294688143030:=Nat
def tw1178517081122125846:=Nat
def tw8869663894634526806:=Nat
def tw9648176109981932758:=Nat
def tw9503889024579955990:=Nat
def tw729101797091153910:=Nat
def tw11961476356588070966:=Nat
def tw11332824753599228982:=Nat
def tw15713494446471396758:=Nat
def tw16021289346559240310:=Nat
def tw10320492342743199713:=Nat
def tw11616315366444375361:=Nat
def tw12572412056481673441:=Nat
def tw17278891651658786369:=Nat
def tw11114682717084747169:=Nat
def tw2212772293745271553:=Nat
def tw16662482129702759009:=Nat
def tw10538856954373076641:=Nat
def tw10346181016795438081:=Nat
def tw4876013133072317569:=Nat
def tw14458741345066639201:=Nat
def tw4662594157834201088:=Nat
def tw8230449696236234272:=Nat
def tw17393634269739489888:=Nat
def tw13933854626036224608:=Nat
def tw7865457818446629472:=Nat
def tw274868511587784352:=Nat
def tw4196834515118020992:=Nat
def tw14009200641025158880:=Nat
def tw15930496965753092544:=Nat
def tw13705987554332569216:=Nat
def tw14066199438803953760:=Nat
def tw13346884451517867840:=Nat
def tw12471674907387458720:=Nat
def tw10523324344058025267:=Nat
def tw18185234118955685235:=Nat
def tw6737263905069598803:=Nat
def tw679370518283186259:=Nat
def tw1772674373377771603:=Nat
def tw2929068526512665747:=Nat
def tw17694907738900932819:=Nat
def tw1654576461994603059:=Nat
def tw8536896285833472563:=Nat
def tw8404907568159355155:=Nat
def tw7156512471437862579:=Nat
def tw5647306606734976691:=Nat
def tw366013095536689971:=Nat
def tw13075887200092631987:=Nat
def tw14397846975799961235:=Nat
def tw10302986362624656371:=Nat
def tw12927781439397770963:=Nat
def tw7493467528522504307:=Nat
def tw17888077043507740787:=Nat
def tw9697205114777703603:=Nat
def tw5625492584348846418:=Nat
def tw7991357706149190034:=Nat
def tw2771700648137608946:=Nat
def tw16922407201233315634:=Nat
def tw5307176656437079570:=Nat
def tw10980875547691415538:=Nat
def tw11283570101833657042:=Nat
def tw3527080033344299122:=Nat
def tw12239149920868292786:=Nat
def tw3566679500403450034:=Nat
def tw15117149266897834002:=Nat
def tw14510187455642372114:=Nat
def tw8904526289346967922:=Nat
def tw17877357194692472178:=Nat
def tw12499461649652216018:=Nat
def tw18045564864695034418:=Nat
def tw6253011829211912818:=Nat
def tw4191639837944218141:=Nat
def tw10721203502231267709:=Nat
def tw4982643164942201565:=Nat
def tw16446449014184982365:=Nat
def tw5208939280462031773:=Nat
def tw5439056792300947069:=Nat
def tw11952505186123264989:=Nat
def tw14671666226147790877:=Nat
def tw2050365181849026653:=Nat
def tw7490504639166227549:=Nat
def tw4152217822855061661:=Nat
def tw11824542328350885149:=Nat
def tw14678399057380048893:=Nat
def tw9413522058830256477:=Nat
def tw8880205657806081437:=Nat
def tw8182861555908634108:=Nat
def tw16198999264154309468:=Nat
def tw18168184243006224476:=Nat
def tw17894664151407070300:=Nat
def tw2296982971153731740:=Nat
def tw14312363820351169820:=Nat
def tw18329748473459404860:=Nat
def tw8931825966779728284:=Nat
def tw14159583255069908092:=Nat
def tw4414548526422675932:=Nat
def tw12535329701176557756:=Nat
def tw1512941887866025212:=Nat
def tw10548901801916499196:=Nat
def tw17116426322161475900:=Nat
def tw16919452152995465532:=Nat
def tw2879914365228502748:=Nat
def tw11127335710448850716:=Nat
def tw16669711843783378735:=Nat
def tw5095377033367291663:=Nat
def tw5981647963412353135:=Nat
def tw9724641556938737551:=Nat
def tw6244407734982311151:=Nat
def tw6755118567332041007:=Nat
def tw9850067239575170479:=Nat
def tw12018137414093415983:=Nat
def tw15671996006589669647:=Nat
def tw3164717274177561871:=Nat
def tw10781928334302957167:=Nat
def tw6552262846689028431:=Nat
def tw17708551151477165902:=Nat
def tw2783483234158032846:=Nat
def tw1621446935139686702:=Nat
def tw11591602572823559182:=Nat
def tw7899424970423621710:=Nat
def tw3795654764443726:=Nat
def tw16380587010613671342:=Nat
def tw13946543790294017518:=Nat
def tw11031827049554955470:=Nat
def tw1807745163823779502:=Nat
def tw8662160126237956558:=Nat
def tw4444662244448017198:=Nat
def tw3692555932531587662:=Nat
def tw5645011648572506702:=Nat
def tw17276163636600871566:=Nat
def tw17050866650509263566:=Nat
def tw13059610829121220217:=Nat
def tw13729803619785385945:=Nat
def tw15899132630470186745:=Nat
def tw8829037679087318233:=Nat
def tw15738941070475571449:=Nat
def tw2784570729104647769:=Nat
def tw6095182591211976281:=Nat
def tw6577566999791643225:=Nat
def tw8650270425191804569:=Nat
def tw8873161464412807545:=Nat
def tw14602897933165196665:=Nat
def tw2905650236879617465:=Nat
def tw15661952046031359833:=Nat
def tw7689002024321752408:=Nat
def tw17644451405932867640:=Nat
def tw2691635074720136600:=Nat
def tw8455225320344356376:=Nat
def tw7064389092551459128:=Nat
def tw6379534513820852664:=Nat
def tw5376666923406594552:=Nat
def tw13763123108197630808:=Nat
def tw8484742139617793656:=Nat
def tw9218416092966389848:=Nat
def tw2970147844174868280:=Nat
def tw9385004804189595800:=Nat
def tw540791284895622360:=Nat
def tw1143715600962362584:=Nat
def tw12883209577998378936:=Nat
def tw11470099809784822731:=Nat
def tw16106145798429140939:=Nat
def tw1094358679141572555:=Nat
def tw1441509769429179691:=Nat
def tw14100986777281615147:=Nat
def tw6979331279810693419:=Nat
def tw10574717750743214091:=Nat
def tw11851316580319794187:=Nat
def tw2577608632738001259:=Nat
def tw2782653438605969835:=Nat
def tw5437191021195347499:=Nat
def tw11659289312567598635:=Nat
def tw8777795639855339115:=Nat
def tw10050590902164434603:=Nat
def tw4888822573005568395:=Nat
def tw17654062521722896779:=Nat
def tw1636336449447010763:=Nat
def tw1653149556605058699:=Nat
def tw483339159037386379:=Nat
def tw8950963331053983435:=Nat
def tw7696572218871108427:=Nat
def tw6118035330560468139:=Nat
def tw12134390990689543339:=Nat
def tw762075535608615083:=Nat
def tw74388218766130411:=Nat
def tw7625784629097946347:=Nat
def tw11550441067156883691:=Nat
def tw14775928532663471146:=Nat
def tw9426956761919197642:=Nat
def tw10082664416513835178:=Nat
def tw14494670306970059274:=Nat
def tw14778308685598678314:=Nat
def tw7192400465279942058:=Nat
def tw3252617122759989002:=Nat
def tw10870808962450201418:=Nat
def tw9578908897283696170:=Nat
def tw6423898929714566026:=Nat
def tw17986757076566460298:=Nat
def tw4636116219741107818:=Nat
def tw10076224324833057994:=Nat
end PySem.W.Fast
open PySem PySem.W PyProof.Rows
set_option maxRecDepth 100000 in
set_option maxHeartbeats 0 in
theorem PySem.Challenge.cw_byestand_k20_who_meets_whom_holds : PySem.Challenge.rw_byestand_k20_who_meets_whom.Holds := by
 w_on;o_law;k_head;(case hw=>w_witness2)
 k_fill
 first | refine Ev.abh (l:=PySem.Challenge.rw_byestand_k20_who_meets_whom) (tbl:=450) (c:=452) (k:=192) rfl rfl ⟨rfl,by decide,by decide⟩ (fun w h Y=>⟨PySem.W.km_in_of Y,PySem.W.km_tabs_of Y _ (by decide)⟩) (fun P=>⟨rfl,rfl⟩) (fun P=>rfl) ?F
 case F=>
  intro w mg fa h KX G hmg;refine' My.all_mk KX G hmg (Ev.cP ?_ ?_ ?_ ?_) (Ev.cP ?_ ?_ ?_ ?_) (Ev.cP ?_ ?_ ?_ ?_) (Ev.cP ?_ ?_ ?_ ?_) (Ev.cP ?_ ?_ ?_ ?_) (Ev.cP ?_ ?_ ?_ ?_) (Ev.cP ?_ ?_ ?_ ?_) (Ev.cP ?_ ?_ ?_ ?_) (Ev.cP ?_ ?_ ?_ ?_) (Ev.cP ?_ ?_ ?_ ?_) (Ev.cP ?_ ?_ ?_ ?_) (Ev.cP ?_ ?_ ?_ ?_) (Ev.cP ?_ ?_ ?_ ?_) (Ev.cP ?_ ?_ ?_ ?_) (Ev.cP ?_ ?_ ?_ ?_) (Ev.cP ?_ ?_ ?_ ?_) (Ev.cP ?_ ?_ ?_ ?_) (Ev.cP ?_ ?_ ?_ ?_) (Ev.cP ?_ ?_ ?_ ?_) (Ev.cP ?_ ?_ ?_ ?_) (Ev.cP ?_ ?_ ?_ ?_) (Ev.cP ?_ ?_ ?_ ?_) (Ev.cP ?_ ?_ ?_ ?_) (Ev.cP ?_ ?_ ?_ ?_) (Ev.cP ?_ ?_ ?_ ?_) (Ev.cP ?_ ?_ ?_ ?_) (Ev.cP ?_ ?_ ?_ ?_) (Ev.cP ?_ ?_ ?_ ?_) (Ev.cP ?_ ?_ ?_ ?_) ?_ ?_ ?_ ?_ ?_ ?_ ?_ ?_ ?_ ?_ ?_ (Ev.pN ?_ ?_ ?_ ?_ ?_) (Ev.pN ?_ ?_ ?_ ?_ ?_) (Ev.pN ?_ ?_ ?_ ?_ ?_) (Ev.pN ?_ ?_ ?_ ?_ ?_) (Ev.pN ?_ ?_ ?_ ?_ ?_) (Ev.pN ?_ ?_ ?_ ?_ ?_) (Ev.pN ?_ ?_ ?_ ?_ ?_) (Ev.pN ?_ ?_ ?_ ?_ ?_) (Ev.pN ?_ ?_ ?_ ?_ ?_) (Ev.pN ?_ ?_ ?_ ?_ ?_) (Ev.pN ?_ ?_ ?_ ?_ ?_) (Ev.zT ?_ ?_ ?_ ?_ ?_) (Ev.zT ?_ ?_ ?_ ?_ ?_) (Ev.zT ?_ ?_ ?_ ?_ ?_) (Ev.zT ?_ ?_ ?_ ?_ ?_) (Ev.zT ?_ ?_ ?_ ?_ ?_) (Ev.zT ?_ ?_ ?_ ?_ ?_) ?_ ?_ ?_ ?_ ?_ ?_ ?_ ?_ ?_ (Ev.ach ?_ ?_ ?_ ?_) (Ev.CW ?_ ?_ ?_ ?_ ?_ ?_ ?_ ?_) (Ev.CW ?_ ?_ ?_ ?_ ?_ ?_ ?_ ?_) (Ev.CW ?_ ?_ ?_ ?_ ?_ ?_ ?_ ?_) (Ev.CW ?_ ?_ ?_ ?_ ?_ ?_ ?_ ?_) (Ev.CW ?_ ?_ ?_ ?_ ?_ ?_ ?_ ?_) ?_ ?_ ?_ ?_ ?_ ?_ ?_ ?_ ?_ ?_ ?_ ?_ ?_ ?_ ?_ ?_ ?_ ?_ ?_ ?_ ?_ ?_ ?_ ?_ ?_ ?_ ?_ ?_ ?_ ?_ ?_ ?_
  all_goals try first | k_is | rfl
