import PyProof.Rows.All
import Wide.All
import OpenK.AllK
import Wide.FinOn
import Lean
import PyProof.EqAt
import PyProof.EqKinds
import PyProof.TupleCall
import PySem.Challenge.RW_byestand_k23_unevenness_told
import KE.KNestM
import KE.KRevSl
set_option Elab.async false
set_option linter.all false
set_option maxRecDepth 100000
set_option genSizeOf false
noncomputable section
theorem aY{a b c:Nat}(h:a<b)(k:b<=c):a<c:=Nat.lt_of_lt_of_le h k
theorem az(n:Nat):n<=n:=Nat.le_refl n
theorem a_{α:Type _}{xs:List α}{i:Nat}{a:α}(h:xs[i]? =some a):∃ h:i<xs.length,xs[i] =a:=List.getElem?_eq_some_iff.mp h
abbrev aq:=PySem.W.Frag
namespace L2
open PySem PySem.Spec PyProof.Rows
abbrev Key:=Sum Int Str
def Ce:Key->Value->Bool
 | .inl k,v=>Value.isInt k v
 | .inr x,v=>Value.isStrOf x v
def afu(w:World):Key->Int
 | .inl k=>hashInt k
 | .inr x=>hashStr w x
theorem ie:∀ {k:Key} {v:Value},Ce k v=true->(∃ i t,k=Sum.inl i/\v=Value.int i t)\/(∃ x t,k=Sum.inr x/\v=Value.str x t)
 | .inl i,v,h=>by
   obtain⟨t,e⟩:=Value.isInt_shape (k:=i) (v:=v) h
   exact .inl ⟨i,t,rfl,e⟩
 | .inr x,v,h=>by
   obtain⟨t,e⟩:=Value.isStrOf_shape (x:=x) (v:=v) h;exact .inr ⟨x,t,rfl,e⟩
theorem Va(i:Int)(t:Tok):Ce (.inl i) (.int i t)=true:=by simp[Ce,Value.isInt]
theorem Vb(x:Str)(t:Tok):Ce (.inr x) (.str x t)=true:=by simp[Ce,Value.isStrOf]
theorem abK(a b:Int):decide ((Sum.inl a:Key)=Sum.inl b)=(a==b):=by
 by_cases e:a=b
 · subst e;simp
 · have h:¬ (Sum.inl a:Key)=Sum.inl b:=fun q=>e (Sum.inl.inj q);rw[decide_eq_false h];exact(beq_eq_false_iff_ne.mpr e).symm
theorem abL(a b:Str):decide ((Sum.inr a:Key)=Sum.inr b)=decide (a=b):=by
 by_cases e:a=b
 · subst e;simp
 · have h:¬ (Sum.inr a:Key)=Sum.inr b:=fun q=>e (Sum.inr.inj q);rw[decide_eq_false h,decide_eq_false e]
theorem abM(a:Int)(b:Str):decide ((Sum.inl a:Key)=Sum.inr b)=false:=decide_eq_false (fun q=>nomatch q)
theorem abN(a:Str)(b:Int):decide ((Sum.inr a:Key)=Sum.inl b)=false:=decide_eq_false (fun q=>nomatch q)
def iH(prog:Program)(w:World):PySem.KeyKind prog w Key where
 is:=Ce
 hash:=afu w
 inj:=fun v a b ha hb=>by
  rcases ie ha with ⟨i,t,rfl,rfl⟩ | ⟨x,t,rfl,rfl⟩
  · rcases ie hb with ⟨j,u,rfl,e⟩ | ⟨y,u,rfl,e⟩
    · injection e with e1 _;rw[e1]
    · exact nomatch e
  · rcases ie hb with ⟨j,u,rfl,e⟩ | ⟨y,u,rfl,e⟩
    · exact nomatch e
    · injection e with e1 _;rw[e1]
 byValue:=fun k v h=>by
  rcases ie h with ⟨i,t,rfl,rfl⟩ | ⟨x,t,rfl,rfl⟩ <;> rfl
 pyHash:=fun hv h=>by
  rcases ie hv with ⟨i,t,rfl,rfl⟩ | ⟨x,t,rfl,rfl⟩
  · exact wpAny_pyHash_int h
  · exact wpAny_pyHash_str h
 eqBool:=fun hu hv h=>by
  rcases ie hu with ⟨i,t,rfl,rfl⟩ | ⟨x,t,rfl,rfl⟩
  · rcases ie hv with ⟨j,u,rfl,rfl⟩ | ⟨y,u,rfl,rfl⟩
    · rw[abK]at h;exact wpAny_eqBool_int h
    · rw[abM]at h;exact SeqAt.EqAt.int_str i t y u _ _ _ _ h
  · rcases ie hv with ⟨j,u,rfl,rfl⟩ | ⟨y,u,rfl,rfl⟩
    · rw[abN]at h;exact SeqAt.EqAt.str_int x t j u _ _ _ _ h
    · rw[abL]at h;exact wpAny_eqBool_str h
 «strs»:=fun k x t v h=>by
  rcases ie h with ⟨i,u,rfl,e⟩ | ⟨y,u,rfl,e⟩
  · exact nomatch e
  · injection e with e1 _;subst e1;cases v <;> rfl
theorem PL(prog:Program)(w:World)(i:Int)(t:Tok):(iH prog w).is (.inl i) (.int i t)=true:=Va i t
theorem PX(prog:Program)(w:World)(x:Str)(t:Tok):(iH prog w).is (.inr x) (.str x t)=true:=Vb x t
inductive V where
 | non | bl (b:Bool) | int (i:Int) | str (x:Str) | byt (b:Array UInt8) | flt (b:UInt64) | ref (a:Addr) | ty (n:String)
 deriving DecidableEq
def RelV:V->Value->Prop
 | .non,u=>u=Value.none
 | .bl b,u=>u=Value.bool b
 | .int i,u=>∃ t,u=Value.int i t
 | .str x,u=>∃ t,u=Value.str x t
 | .byt b,u=>∃ t,u=Value.bytes b t
 | .flt b,u=>∃ t,u=Value.float b t
 | .ref a,u=>u=Value.ref a
 | .ty n,u=>u=Value.type n
abbrev Vals:List V->List Value->Prop:=Paired RelV
theorem Vals.length{xs:List V}{us:List Value}(r:Vals xs us):xs.length=us.length:=Paired.length r
theorem Vals.get:∀ {xs:List V} {us:List Value} {i:Nat} {x:V},Vals xs us->xs[i]? =some x->∃ u,us[i]? =some u/\RelV x u
 | _,_,_,_,.nil,e=>by simp at e
 | _,_,0,_,.cons r _,e=>by simp at e;subst e;exact⟨_,rfl,r⟩
 | _,_,i+1,x,.cons _ t,e=>by
   obtain⟨u,h1,h2⟩:=Vals.get (i:=i) (x:=x) t (by simpa using e);exact⟨u,by simpa using h1,h2⟩
theorem Vals.append:∀ {xs ys:List V} {us ws:List Value},Vals xs us->Vals ys ws->Vals (xs++ys) (us++ws)
 | _,_,_,_,.nil,s=>s
 | _,_,_,_,.cons r t,s=>.cons r (Vals.append t s)
theorem Vals.take:∀ {xs:List V} {us:List Value} (n:Nat),Vals xs us->Vals (xs.take n) (us.take n)
 | _,_,0,_=>.nil
 | _,_,_+1,.nil=>.nil
 | _,_,n+1,.cons r t=>.cons r (Vals.take n t)
theorem Vals.drop:∀ {xs:List V} {us:List Value} (n:Nat),Vals xs us->Vals (xs.drop n) (us.drop n)
 | _,_,0,r=>r
 | _,_,_+1,.nil=>.nil
 | _,_,n+1,.cons _ t=>Vals.drop n t
def pq:Option V->Option Value->Prop
 | some v,some u=>RelV v u
 | none,none=>True
 | _,_=>False
def KV{κ:Type}:List (κ × V)->List (κ × Value)->Prop:=Paired fun(p:κ × V) (q:κ × Value)=>p.1=q.1/\RelV p.2 q.2
def kV:Key->V
 | .inl i=>.int i
 | .inr x=>.str x
inductive HO where
 | lst (xs:List V)
 | tup (xs:List V)
 | dK (kvs:List (Key × V)) | dT (kvs:List (List Key × V))
 | set (S:Int->Bool) (n:Nat)
 | ins (C dx:Addr) (fs:List (Str × V))
 | own (x:Addr)
 | xd (fs:List (Str × V))
 | met (f x:Addr)
 | rng (lo hi:Int)
 | frz (o:Obj) (u:HO)
 | tbl (ps:Array Value)
 | ext (φ:Heap->Prop)
abbrev Hp:=Addr->Option HO
def upd(H:Hp)(a:Addr)(o:HO):Hp:=fun b=>if b=a then some o else H b
theorem aG{H:Hp}{a:Addr}{o:HO}:upd H a o a=some o:=by unfold upd;rw[if_pos rfl]
theorem aN{H:Hp}{a b:Addr}{o:HO}(h:b ≠ a):upd H a o b=H b:=by unfold upd;rw[if_neg h]
theorem aaw{H:Hp}{a:Addr}{o u:HO}:upd (upd H a o) a u=upd H a u:=by
 funext b;unfold upd;split <;> rfl
theorem ZG{H:Hp}{a b:Addr}{o u:HO}(h:H a=some o)(h':H b=some u)(d:o ≠ u):a ≠ b:=by
 intro e;subst e;rw[h]at h';exact d (Option.some.inj h')
theorem cg{H:Hp}{a b:Addr}{o:HO}(h:H a=some o)(h':H b=none):a ≠ b:=by
 intro e;subst e;rw[h]at h';cases h'
section
variable(P:Program)(w:World)
def b8(H:Hp)(h:Heap)(a:Addr):HO->Prop
 | .lst xs=>xs.length<=sizeLine/\∃(its:List Value) (n:Nat),Vals xs its/\h.get? a=some { cls:=.type "list",data:=.seq its.toArray n }
 | .tup xs=>xs.length<=sizeLine/\∃ its:List Value,Vals xs its/\IsTup h a its.toArray
 | .dK kvs=>kvs.length<=sizeLine/\(a==sysModules)=false/\∃ vs,KV kvs vs/\h.DictOf (iH P w) a vs
 | .dT kvs=>kvs.length<=sizeLine/\(a==sysModules)=false/\∃ xs:List (List Key × Addr × Value),
    Paired (fun(p:List Key × V) (q:List Key × Addr × Value)=>p.1=q.1/\H q.2.1=some (.tup (p.1.map kV))/\RelV p.2 q.2.2) kvs xs/\
    ∃ o es ep,h.get? a=some o/\o.ExactDict/\o.data= .dict es ep/\es.toList=xs.map (entryOfKey (tupleKind (iH P w)))/\(xs.map (·.1)).Nodup
 | .set S n=>h.SetOf (intKind P w) a S n
 | .ins C dx fs=>H dx=some (.own a)/\fs.length<=1000/\dx ≠ a/\h.get? a=some (PySem.W.instObj C dx)/\
    ∃ mA,h.Ns1 dx mA/\(∀ f,pq (fs.lookup f) (mA f))/\PySem.Within mA (fs.map (·.1))
 | .own _=>∃ o,h.get? a=some o
 | .xd fs=>∃ mA,h.Ns1 a mA/\∀ f,pq (fs.lookup f) (mA f)
 | .rng lo hi=>∃ t u v,h.get? a=some { cls:=.type "range",data:=.fields #[.int lo t,.int hi u,.int 1 v] }
 | .frz o u=>h.get? a=some o/\b8 H h a u
 | .tbl ps=>h.get? a=some { cls:=.none,data:=.fields ps }
 | .met f x=>h.get? a=some (PySem.W.methodObj (.ref f) (.ref x))
 | .ext φ=>φ h/\(∃ o,h.get? a=some o)/\∀ h1 h2:Heap,φ h1->(∀ o,h1.get? a=some o->h2.get? a=some o)->φ h2
def HOk(H:Hp)(h:Heap):Prop:=∀ a o,H a=some o->b8 P w H h a o
end
section
variable{P:Program}{w:World}{H H':Hp}{h h':Heap}{a:Addr}{o:HO}
theorem b8.lt(x:b8 P w H h a o):a<h.objs.size:=by
 cases o with
 | lst xs=>obtain⟨_,_,_,_,e⟩:=x;exact Heap.lt_size e
 | tup xs=>obtain⟨_,_,_,p⟩:=x;exact p.lt
 | dK kvs=>obtain⟨_,_,_,_,o,_,_,e,_⟩:=x;exact Heap.lt_size e
 | dT kvs=>obtain⟨_,_,_,_,o,_,_,e,_⟩:=x;exact Heap.lt_size e
 | set S n=>obtain⟨o,_,_,_,e,_⟩:=x;exact Heap.lt_size e
 | ins C dx fs=>obtain⟨_,_,_,e,_⟩:=x;exact Heap.lt_size e
 | own y=>obtain⟨_,e⟩:=x;exact Heap.lt_size e
 | xd fs=>obtain⟨_,⟨_,_,_,e,_⟩,_⟩:=x;exact Heap.lt_size e
 | rng lo hi=>obtain⟨_,_,_,e⟩:=x;exact Heap.lt_size e
 | frz ob u=>obtain⟨e,_⟩:=x;exact Heap.lt_size e
 | tbl ps=>exact Heap.lt_size (show h.get? a=some _ from x)
 | met f y=>exact Heap.lt_size (show h.get? a=some _ from x)
 | ext φ=>obtain⟨_,⟨_,e⟩,_⟩:=x;exact Heap.lt_size e
theorem Paired.pA{α β:Type}{F G:α->β->Prop}:∀ {l₁:List α} {l₂:List β},Paired F l₁ l₂->(∀ a b,F a b->G a b)->Paired G l₁ l₂
 | _,_,.nil,_=>.nil
 | _,_,.cons r t,f=>.cons (f _ _ r) (Paired.pA t f)
theorem b8.stay(x:b8 P w H h a o)(k:∀ b u,(b=a\/H b=some (.own a))->h.get? b=some u->h'.get? b=some u)
 (ho:∀ b,H b=some (.own a)->H' b=some (.own a)) (ht:∀ b xs,H b=some (.tup xs)->H' b=some (.tup xs)):b8 P w H' h' a o:=by
 induction o with
 | lst xs=>obtain⟨z,its,n,r,e⟩:=x;exact⟨z,its,n,r,k _ _ (.inl rfl) e⟩
 | tup xs=>obtain⟨z,its,r,ob,e,c⟩:=x;exact⟨z,its,r,ob,k _ _ (.inl rfl) e,c⟩
 | dK kvs=>obtain⟨z,y,vs,r,ob,es,ep,e,c⟩:=x;exact⟨z,y,vs,r,ob,es,ep,k _ _ (.inl rfl) e,c⟩
 | dT kvs=>
   obtain⟨z,y,xs,r,ob,es,ep,e,c⟩:=x
   exact⟨z,y,xs,Paired.pA r fun p q z=>⟨z.1,ht _ _ z.2.1,z.2.2⟩,ob,es,ep,k _ _ (.inl rfl) e,c⟩
 | set S n=>obtain⟨ob,es,ep,t,e,c⟩:=x;exact⟨ob,es,ep,t,k _ _ (.inl rfl) e,c⟩
 | ins C dx fs=>
   obtain⟨d,z,ne,e,mA,⟨od,es,ep,e2,c⟩,r⟩:=x
   exact⟨ho _ d,z,ne,k _ _ (.inl rfl) e,mA,⟨od,es,ep,k _ _ (.inr d) e2,c⟩,r⟩
 | own y=>obtain⟨ob,e⟩:=x;exact⟨ob,k _ _ (.inl rfl) e⟩
 | xd fs=>obtain⟨mA,⟨od,es,ep,e,c⟩,r⟩:=x;exact⟨mA,⟨od,es,ep,k _ _ (.inl rfl) e,c⟩,r⟩
 | rng lo hi=>obtain⟨t,u,v,e⟩:=x;exact⟨t,u,v,k _ _ (.inl rfl) e⟩
 | frz ob u ih=>obtain⟨e,q⟩:=x;exact⟨k _ _ (.inl rfl) e,ih q⟩
 | tbl ps=>
   have e:h.get? a=some { cls:=.none,data:=.fields ps }:=x;show h'.get? a=some { cls:=.none,data:=.fields ps }
   exact k a _ (.inl rfl) e
 | met f y=>
   have e:h.get? a=some (PySem.W.methodObj (.ref f) (.ref y)):=x;show h'.get? a=some (PySem.W.methodObj (.ref f) (.ref y))
   exact k a _ (.inl rfl) e
 | ext φ=>obtain⟨p,⟨o,e⟩,st⟩:=x;exact⟨st _ _ p fun o q=>k _ _ (.inl rfl) q,⟨o,k _ _ (.inl rfl) e⟩,st⟩
theorem HOk.lt(x:HOk P w H h)(e:H a=some o):a<h.objs.size:=(x a o e).lt
theorem HOk.fresh(x:HOk P w H h)(e:h.objs.size<=a):H a=none:=by
 cases q:H a with
 | none=>rfl
 | some u=>exact absurd (aY (x.lt q) e) (Nat.lt_irrefl _)
theorem HOk.kept(x:HOk P w H h)(k:∀ b u,h.get? b=some u->h'.get? b=some u):HOk P w H h':=fun a o e=>
 (x a o e).stay (fun b u _ q=>k b u q) (fun _ q=>q) fun _ _ q=>q
theorem HOk.laid(x:HOk P w H h)(k:∀ b u,h.get? b=some u->h'.get? b=some u)(hp:h.objs.size<=a)(new:b8 P w (upd H a o) h' a o):HOk P w (upd H a o) h':=fun b u e=>by
 have hn:=x.fresh hp
 by_cases hb:b=a
 · subst hb;rw[aG]at e;cases e;exact new
 · rw[aN hb]at e;exact(x b u e).stay (fun c v _ q=>k c v q) (fun c q=>by rw[aN (cg q hn)];exact q) fun c xs q=>by rw[aN (cg q hn)];exact q
end
def Rd(H:Hp)(a:Addr)(u:HO):Prop:=H a=some u\/∃ o,H a=some (.frz o u)
theorem Rd.ok{P:Program}{w:World}{H:Hp}{h:Heap}{a:Addr}{u:HO}(r:Rd H a u)(x:HOk P w H h):b8 P w H h a u:=by
 rcases r with r | ⟨o,r⟩
 · exact x a u r
 · obtain⟨_,q⟩:=x a _ r;exact q
def Mut:Option HO->Prop
 | some (.lst _)=>True
 | some (.dK _)=>True
 | some (.dT _)=>True
 | some (.set _ _)=>True
 | some (.ins _ _ _)=>True
 | some (.ext _)=>True
 | _=>False
section
variable{P:Program}{w:World}{H:Hp}{h h':Heap}{x e:Addr}{o':HO}
theorem HOk.write(ok:HOk P w H h)(mu:Mut (H x))(he:e=x\/H e=some (.own x))(k:∀ b u,b ≠ e->h.get? b=some u->h'.get? b=some u)(heo:∃ u,h'.get? e=some u)
 (new:b8 P w (upd H x o') h' x o'):HOk P w (upd H x o') h':=fun b u q=>by
 have abO:∀ c y,H c=some (.own y)->c ≠ x:=fun c y r z=>by subst z;rw[r]at mu;exact mu
 have afv:∀ c xs,H c=some (.tup xs)->c ≠ x:=fun c xs r z=>by subst z;rw[r]at mu;exact mu
 by_cases hb:b=x
 · subst hb;rw[aG]at q;cases q;exact new
 · rw[aN hb]at q
   by_cases hbe:b=e
   · have q':H b=some (.own x):=by
      rcases he with z | z
      · exact absurd (hbe.trans z) hb
      · rw[hbe];exact z
     rw[q]at q';cases q';obtain⟨v,hv⟩:=heo;exact⟨v,by rw[hbe];exact hv⟩
   · refine(ok b u q).stay (fun c v hc r=>k c v ?_ r) (fun c r=>by rw[aN (abO c b r)];exact r) fun c xs r=>by rw[aN (afv c xs r)];exact r
     rcases hc with rfl | hc
     · exact hbe
     · rintro rfl
       rcases he with z | z
       · exact abO c b hc z
       · rw[hc]at z;cases z;exact hb rfl
end
structure Un (fs ex:List Addr)(H H':Hp)(h h':Heap):Prop where
 keep:∀ b o,h.get? b=some o->H b=none->b ∉ fs->b ∉ ex->h'.get? b=some o
 slot:∀ b o,h.get? b=some o->H b=none->b ∈ fs->b ∉ ex->∃ sl,h'.get? b=some { o with slots:=sl }
 free:∀ b o,h.get? b=some o->H b=none->b ∉ ex->H' b=none
 there:∀ b o,h.get? b=some o->b ∉ ex->∃ o',h'.get? b=some o'
 tups:∀ b xs,H b=some (.tup xs)->H' b=some (.tup xs)
 qm:∀ b o u,H b=some (.frz o u)->H' b=some (.frz o u)
 qN:∀ b ps,H b=some (.tbl ps)->∃ more,H' b=some (.tbl (ps++more))
section
variable{fs fs' ex ex':List Addr}{H H1 H2:Hp}{h h1 h2 h':Heap}{a x e:Addr}{o:HO}
theorem Un.any(u:Un fs ex H H1 h h1){b:Addr}{ob:Obj}(q:h.get? b=some ob)(n:H b=none)(hx:b ∉ ex):∃ sl,h1.get? b=some { ob with slots:=sl }:=by
 by_cases hb:b ∈ fs
 · exact u.slot b ob q n hb hx
 · exact⟨ob.slots,u.keep b ob q n hb hx⟩
theorem Un.trans(a:Un fs ex H H1 h h1)(b:Un fs ex H1 H2 h1 h2):Un fs ex H H2 h h2 where
 keep:=fun c ob q n hc hx=>b.keep c ob (a.keep c ob q n hc hx) (a.free c ob q n hx) hc hx
 slot:=fun c ob q n hc hx=>by
  obtain⟨sl,e1⟩:=a.slot c ob q n hc hx;obtain⟨sl',e2⟩:=b.slot c _ e1 (a.free c ob q n hx) hc hx;exact⟨sl',e2⟩
 free:=fun c ob q n hx=>by
  obtain⟨o',e1⟩:=a.there c ob q hx;exact b.free c o' e1 (a.free c ob q n hx) hx
 there:=fun c ob q hx=>by
  obtain⟨o',e1⟩:=a.there c ob q hx;exact b.there c o' e1 hx
 tups:=fun c xs q=>b.tups c xs (a.tups c xs q)
 qm:=fun c ob xs q=>b.qm c ob xs (a.qm c ob xs q)
 qN:=fun c ps q=>by
  obtain⟨m1,e1⟩:=a.qN c ps q;obtain⟨m2,e2⟩:=b.qN c _ e1;exact⟨m1++m2,by rw[e2,Array.append_assoc]⟩
theorem Un.kept(k:∀ b u,h.get? b=some u->h'.get? b=some u):Un fs ex H H h h':=
 ⟨fun b ob q _ _ _=>k b ob q,fun b ob q _ _ _=>⟨ob.slots,k b ob q⟩,fun _ _ _ n _=>n,fun b ob q _=>⟨ob,k b ob q⟩,fun _ _ q=>q,fun _ _ _ q=>q,fun _ ps q=>⟨#[],by rw[q];simp⟩⟩
theorem Un.refl:Un fs ex H H h h:=Un.kept fun _ _ q=>q
theorem Un.laid(k:∀ b u,h.get? b=some u->h'.get? b=some u)(hp:h.objs.size<=a)(hn:H a=none):Un fs ex H (upd H a o) h h' where
 keep:=fun b u q _ _ _=>k b u q
 slot:=fun b u q _ _ _=>⟨u.slots,k b u q⟩
 free:=fun b u q n _=>by rw[aN (Nat.ne_of_lt (aY (Heap.lt_size q) hp))];exact n
 there:=fun b u q _=>⟨u,k b u q⟩
 tups:=fun b xs q=>by rw[aN (cg q hn)];exact q
 qm:=fun b u xs q=>by rw[aN (cg q hn)];exact q
 qN:=fun b ps q=>⟨#[],by rw[aN (cg q hn),q];simp⟩
theorem Un.write(mu:Mut (H x))(he:e=x\/H e=some (.own x))(k:∀ b u,b ≠ e->h.get? b=some u->h'.get? b=some u)(heo:∃ u,h'.get? e=some u):Un fs ex H (upd H x o) h h':=by
 have hx:∀ b,H b=none->b ≠ x:=fun b n z=>by subst z;rw[n]at mu;exact mu
 have hb:∀ b,H b=none->b ≠ e:=fun b n z=>by
  subst z
  rcases he with r | r
  · exact hx b n r
  · rw[n]at r;cases r
 have hm:∀ b u,H b=some u->¬ Mut (some u)->b ≠ x:=fun b u q nm z=>by subst z;rw[q]at mu;exact nm mu
 refine⟨fun b u q n _ _=>k b u (hb b n) q,fun b u q n _ _=>⟨u.slots,k b u (hb b n) q⟩,fun b u q n _=>by rw[aN (hx b n)];exact n,fun b u q _=>?_,
  fun b xs q=>by rw[aN (hm b _ q fun z=>z)];exact q,fun b u xs q=>by rw[aN (hm b _ q fun z=>z)];exact q,fun b ps q=>⟨#[],by rw[aN (hm b _ q fun z=>z),q];simp⟩⟩
 by_cases hbe:b=e
 · subst hbe;exact heo
 · exact⟨u,k b u hbe q⟩
theorem Un.mono(u:Un fs ex H H1 h h1)(hs:∀ b ∈ fs,b ∈ fs')(hx:∀ b ∈ ex,b ∈ ex'):Un fs' ex' H H1 h h1:=
 ⟨fun b ob q n hb he=>u.keep b ob q n (fun z=>hb (hs b z)) fun z=>he (hx b z),fun _ _ q n _ he=>u.any q n fun z=>he (hx _ z),fun b ob q n he=>u.free b ob q n fun z=>he (hx b z),fun b ob q he=>u.there b ob q fun z=>he (hx b z),u.tups,u.qm,u.qN⟩
end
def trk(h:Heap)(H:Hp):List Addr:=(List.range h.objs.size).filter fun a=>(H a).isSome
def yE(h:Heap)(H:Hp):Heap:=PySem.W.hideAll h (trk h H)
theorem Vc(h:Heap)(H:Hp):(yE h H).objs.size=h.objs.size:=PySem.W.hideAll_size _ _
theorem XH{h:Heap}{H:Hp}{b:Addr}{o:Obj}(e:h.get? b=some o)(n:H b=none):(yE h H).get? b=some o:=
 PySem.W.hideAll_get _ e fun hm=>by
  have q:(H b).isSome=true:=(List.mem_filter.mp hm).2;rw[n]at q;simp at q
theorem aax{h:Heap}{H:Hp}{b:Addr}{o:Obj}(e:(yE h H).get? b=some o):h.get? b=some o/\H b=none:=by
 have e':h.get? b=some o:=PySem.W.of_hideAll (trk h H) e;refine⟨e',?_⟩
 cases q:H b with
 | none=>rfl
 | some x=>
   have hm:b ∈ trk h H:=List.mem_filter.mpr ⟨List.mem_range.mpr (Heap.lt_size e'),by simp[q]⟩;have z:(yE h H).get? b=none:=PySem.W.hideAll_none (trk h H) hm;rw[z]at e;cases e
def aay(g h:Heap)(L:Addr):List (Addr × Obj):=(List.range h.objs.size).filterMap fun a=>if a=L\/(g.get? a).isSome=true then none else(h.get? a).map fun o=>(a,o)
def rest(g h:Heap)(L d:Addr):List (Addr × Obj):=(aay g h L).filter fun p=>decide (p.1 ≠ d)
structure Mod (K:aq)(mg:Str->Option Value)(base:Heap):Prop where
 kin:K.In base
 glob:base.Ns mainGlobals mg
 blt:∃ mb,base.Ns builtinsNs mb/\∀ x:Str,x ≠ "__name__"->mb x=bootBuiltins x
 nolimit:base.NoLimit
structure Cx where
 prog:Program
 w:World
 K:aq
 mg:Str->Option Value
 base:Heap
 A:Around
 N:List Str
 s₀:Shared
 H₀:Hp
 env:Env
 outer:List Env
 stack:List Env
 ex:List Addr
 fn:Str->Bool
 calm:Bool
 pn:List (Addr × Obj)
 xe:Value->Shared->Prop
def frs(l:List Env):List Addr:=l.filterMap (·.frame)
abbrev Cx.fs(X:Cx):List Addr:=frs X.outer
def Vis(sc:Scope)(x:Str):Prop:=sc.names.lookup x=some .local\/sc.names.lookup x=some .cell\/sc.names.lookup x=some .free
def Loc(sc:Scope)(x:Str):Prop:=sc.names.lookup x=some .local\/sc.names.lookup x=some .cell
def Look(env:Env)(h:Heap)(m:Str->Option Value)(x:Str)(u:Value):Prop:=
 (env.kindOf x=some .local/\m x=some u)\/((env.kindOf x=some .cell\/env.kindOf x=some .free)/\∃ c,env.cells.lookup x=some c/\h.IsCell c (some u))
structure Cx.Ok (X:Cx):Prop where
 mod:Mod X.K X.mg X.base
 kind:X.env.scope.kind= .function
 glob:X.env.globals=mainGlobals
 blt:X.env.builtins=builtinsNs
 above:X.s₀.heap.objs.size<=X.env.locals
 inj:∀ x y c,X.env.cells.lookup x=some c->X.env.cells.lookup y=some c->x=y
 has:∀ x,(X.env.kindOf x=some .cell\/X.env.kindOf x=some .free)->∃ c,X.env.cells.lookup x=some c
 cab:∀ x c,X.fn x=true->X.env.cells.lookup x=some c->X.s₀.heap.objs.size<=c
 hd:X.calm=true->X.A.handled=none
 frames:X.A.frames=some X.stack
 stk:X.stack=X.outer\/(X.stack=X.env::X.outer/\X.env.frame=some X.env.locals)
 exf:∀ b ∈ X.ex,b ≠ X.env.locals/\∀ x c,X.env.cells.lookup x=some c->c ≠ b
 bs:∀ b o,X.base.get? b=some o->X.s₀.heap.get? b=some o/\X.H₀ b=none
 bsz:X.base.objs.size<=X.s₀.heap.objs.size
 H_:∀ b o,X.base.get? b=some o->b ∉ X.ex
 R0:∀ b ∈ X.ex,b ∉ X.fs
 ug:X.s₀.heap.FunFrames X.base X.outer
 frf:∀ b ∈ X.fs,X.H₀ b=none
structure Inv (X:Cx)(pins:List (Addr × Obj))(σ:List (Option V))(H:Hp)(s:Shared):Prop where
 ok:X.Ok
 os:s.os=X.s₀.os
 bare:AllBare s.gens
 base:Un X.fs X.ex X.H₀ H X.s₀.heap s.heap
 loc:∃ m,s.heap.Ns X.env.locals m/\∀(i:Nat) (x:Str) (v:V),X.N[i]? =some x->σ[i]? =some (some v)->Vis X.env.scope x->∃ u,RelV v u/\Look X.env s.heap m x u
 cell:∀ x c,X.env.cells.lookup x=some c->∃ v,s.heap.IsCell c v
 free:H X.env.locals=none
 qO:∀ x c,X.env.cells.lookup x=some c->H c=none
 pin:∀ p ∈ X.pn++pins,s.heap.get? p.1=some p.2/\H p.1=none/\p.1 ≠ X.env.locals/\p.1 ∉ X.fs/\∀ v,p.2.data ≠ .cell v
 hok:HOk X.prog X.w H s.heap
 len:σ.length=X.N.length
section
variable{X:Cx}{pins:List (Addr × Obj)}{σ:List (Option V)}{H H':Hp}{s:Shared}{h':Heap}
theorem Cx.Ok.afw(ok:X.Ok){b:Addr}{o:Obj}(e:X.base.get? b=some o):b ∉ X.fs:=fun hb=>by
 have:=(ok.ug.mem hb).1;rw[e]at this;cases this
theorem Inv.bs(I:Inv X pins σ H s):∀ b o,X.base.get? b=some o->s.heap.get? b=some o/\H b=none:=fun b o e=>
 ⟨I.base.keep b o (I.ok.bs b o e).1 (I.ok.bs b o e).2 (I.ok.afw e) (I.ok.H_ b o e),I.base.free b o (I.ok.bs b o e).1 (I.ok.bs b o e).2 (I.ok.H_ b o e)⟩
theorem Inv.bk(I:Inv X pins σ H s):∀ b o,X.base.get? b=some o->s.heap.get? b=some o:=fun b o e=>(I.bs b o e).1
theorem Inv.mod(I:Inv X pins σ H s):Mod X.K X.mg X.base:=I.ok.mod
theorem Inv.kIn(I:Inv X pins σ H s):X.K.In s.heap:=I.ok.mod.kin.keeps I.bk
theorem Inv.fr(I:Inv X pins σ H s):∃ m,Fr X.base X.env.locals s.heap m:=
 let ⟨m,hn,_⟩:=I.loc
 ⟨m,hn,I.bk,Nat.le_trans I.ok.bsz I.ok.above⟩
theorem Inv.lt(I:Inv X pins σ H s):X.env.locals<s.heap.objs.size:=let ⟨_,hn,_⟩:=I.loc;hn.lt
theorem Inv.sz(I:Inv X pins σ H s):X.s₀.heap.objs.size<=s.heap.objs.size:=Nat.le_trans I.ok.above (Nat.le_of_lt I.lt)
theorem Inv.abP(I:Inv X pins σ H s){a:Addr}(h:s.heap.objs.size<=a):a ∉ X.fs:=fun hb=>by
 obtain⟨_,o,ho,_⟩:=I.ok.ug.mem hb;exact absurd (aY (Heap.lt_size ho) (Nat.le_trans I.sz h)) (Nat.lt_irrefl _)
theorem Inv.cne(I:Inv X pins σ H s):∀ x c,X.env.cells.lookup x=some c->c ≠ X.env.locals:=fun x c e z=>by
 obtain⟨v,o,ho,hd⟩:=I.cell x c e;obtain⟨m,⟨o',es,ep,ho',hd',_⟩,_⟩:=I.loc;rw[z,ho']at ho;cases ho;rw[hd']at hd;cases hd
theorem Inv.ug(I:Inv X pins σ H s):s.heap.FunFrames X.base X.outer:=by
 have all:∀(l:List Env),(∀ b ∈ frs l,b ∈ X.fs)->X.s₀.heap.FunFrames X.base l->s.heap.FunFrames X.base l:=by
  intro l
  induction l with
  | nil=>intro _ _;trivial
  | cons env r ih=>
    intro hs hl;obtain⟨hk,⟨L,o,hf,hn,ho,hd⟩,hr⟩:=hl;have hL:L ∈ X.fs:=hs L (by unfold frs;rw[List.filterMap_cons,hf];exact List.mem_cons_self);obtain⟨sl,e⟩:=I.base.slot L o ho (I.ok.frf L hL) hL fun z=>I.ok.R0 L z hL;exact⟨hk,⟨L,_,hf,hn,e,hd⟩,ih (fun b hb=>hs b (by unfold frs;rw[List.filterMap_cons,hf];exact List.mem_cons_of_mem _ hb)) hr⟩
 exact all X.outer (fun _ hb=>hb) I.ok.ug
theorem Inv.stack(I:Inv X pins σ H s):s.heap.FunFrames X.base X.stack:=by
 rcases I.ok.stk with e | ⟨e,hf⟩
 · rw[e];exact I.ug
 · rw[e];obtain⟨m,hn,_⟩:=I.loc;refine .cons (by rw[I.ok.kind];decide) hf hn ?_ I.ug;exact Heap.get?_none_of_le (Nat.le_trans I.ok.bsz I.ok.above)
theorem Inv.FQ(I:Inv X pins σ H s):∀ b ∈ frs X.stack,b ∈ X.env.locals::X.fs:=fun b hb=>by
 rcases I.ok.stk with e | ⟨e,hf⟩
 · rw[e]at hb;exact List.mem_cons_of_mem _ hb
 · rw[e]at hb;unfold frs at hb;rw[List.filterMap_cons,hf]at hb;exact hb
theorem Inv.Cg(I:Inv X pins σ H s):∀ b ∈ frs X.stack,H b=none:=fun b hb=>by
 rcases List.mem_cons.mp (I.FQ b hb) with e | hb
 · rw[e];exact I.free
 · obtain⟨_,o,ho,_⟩:=I.ok.ug.mem hb;exact I.base.free b o ho (I.ok.frf b hb) fun z=>I.ok.R0 b z hb
theorem Inv.step{g':Array GenState}{t':Nat}{d':Drawn}{ch:List Addr}(I:Inv X pins σ H s)
 (hch:∀ b ∈ ch,(b ∈ X.ex\/X.s₀.heap.objs.size<=b)/\b ≠ X.env.locals/\(∀ x c,X.env.cells.lookup x=some c->c ≠ b)/\∀ p ∈ X.pn++pins,p.1 ≠ b)
 (keep:∀ b o,b ≠ X.env.locals->b ∉ X.fs->b ∉ ch->s.heap.get? b=some o->H b=none->h'.get? b=some o)
 (slot:∀ b o,b ≠ X.env.locals->b ∈ X.fs->b ∉ ch->s.heap.get? b=some o->H b=none->∃ sl,h'.get? b=some { o with slots:=sl }) (free:∀ b o,b ∉ ch->s.heap.get? b=some o->H b=none->H' b=none)
 (there:∀ b o,b ∉ ch->s.heap.get? b=some o->∃ o',h'.get? b=some o')
 (tups:∀ b xs,H b=some (.tup xs)->H' b=some (.tup xs)) (qm:∀ b o u,H b=some (.frz o u)->H' b=some (.frz o u)) (qN:∀ b ps,H b=some (.tbl ps)->∃ more,H' b=some (.tbl (ps++more)))
 (ns:∀ m,s.heap.Ns X.env.locals m->h'.Ns X.env.locals m) (hok:HOk X.prog X.w H' h') (hg:AllBare g'):
 Inv X pins σ H' { s with heap:=h',gens:=g',drawn:=d',toks:=t' }:=by
 have neL:∀ b o,X.s₀.heap.get? b=some o->b ≠ X.env.locals:=fun b o e=>Nat.ne_of_lt (aY (Heap.lt_size e) I.ok.above)
 have neC:∀ b o,X.s₀.heap.get? b=some o->b ∉ X.ex->b ∉ ch:=fun b o e hx hb=>by
  rcases (hch b hb).1 with z | z
  · exact hx z
  · exact absurd (aY (Heap.lt_size e) z) (Nat.lt_irrefl _)
 have cellK:∀ x c,X.env.cells.lookup x=some c->∀ v,s.heap.IsCell c v->h'.IsCell c v:=fun x c e v ⟨o,ho,hd⟩=>by
  have nch:c ∉ ch:=fun z=>(hch c z).2.2.1 x c e rfl
  by_cases hc:c ∈ X.fs
  · obtain⟨sl,q⟩:=slot c o (I.cne x c e) hc nch ho (I.qO x c e);exact⟨_,q,hd⟩
  · exact⟨o,keep c o (I.cne x c e) hc nch ho (I.qO x c e),hd⟩
 refine⟨I.ok,I.os,hg,⟨fun b o e n hb hx=>?_,fun b o e n hb hx=>?_,fun b o e n hx=>?_,fun b o e hx=>?_,fun b xs e=>tups b xs (I.base.tups b xs e),fun b o xs e=>qm b o xs (I.base.qm b o xs e),fun b ps e=>?_⟩,?_,fun x c e=>?_,?_,fun x c e=>?_,fun p hp=>?_,hok,I.len⟩
 · exact keep b o (neL b o e) hb (neC b o e hx) (I.base.keep b o e n hb hx) (I.base.free b o e n hx)
 · obtain⟨sl,e1⟩:=I.base.slot b o e n hb hx;obtain⟨sl',e2⟩:=slot b _ (neL b o e) hb (neC b o e hx) e1 (I.base.free b o e n hx);exact⟨sl',e2⟩
 · obtain⟨o',e1⟩:=I.base.there b o e hx;exact free b o' (neC b o e hx) e1 (I.base.free b o e n hx)
 · obtain⟨o',e1⟩:=I.base.there b o e hx;exact there b o' (neC b o e hx) e1
 · obtain⟨m1,e1⟩:=I.base.qN b ps e;obtain⟨m2,e2⟩:=qN b _ e1;exact⟨m1++m2,by rw[e2,Array.append_assoc]⟩
 · obtain⟨m,hn,hl⟩:=I.loc;refine⟨m,ns m hn,fun i x v e1 e2 e3=>?_⟩;obtain⟨u,r,l⟩:=hl i x v e1 e2 e3;refine⟨u,r,?_⟩
   rcases l with l | ⟨k,c,e,z⟩
   · exact .inl l
   · exact .inr ⟨k,c,e,cellK x c e _ z⟩
 · obtain⟨v,z⟩:=I.cell x c e;exact⟨v,cellK x c e v z⟩
 · obtain⟨m,⟨o,_,_,ho,_⟩,_⟩:=I.loc;exact free _ o (fun z=>(hch _ z).2.1 rfl) ho I.free
 · obtain⟨v,o,ho,hd⟩:=I.cell x c e;exact free c o (fun z=>(hch c z).2.2.1 x c e rfl) ho (I.qO x c e)
 · obtain⟨e,n,ne,nf,d⟩:=I.pin p hp;have nch:p.1 ∉ ch:=fun z=>(hch p.1 z).2.2.2 p hp rfl;exact⟨keep p.1 p.2 ne nf nch e n,free p.1 p.2 nch e n,ne,nf,d⟩
theorem Inv.un{t':Nat}(I:Inv X pins σ H s)(u:Un X.fs [] H H' s.heap h')(hok:HOk X.prog X.w H' h'):Inv X pins σ H' { s with heap:=h',toks:=t' }:=by
 obtain⟨m,⟨o,es,ep,ho,r⟩,_⟩:=id I.loc;obtain⟨sl,hL⟩:=u.any ho I.free (by simp)
 exact I.step (g':=s.gens) (d':=s.drawn) (ch:=[]) (fun _ z=>nomatch z) (fun b o _ hb _ e n=>u.keep b o e n hb (by simp)) (fun b o _ hb _ e n=>u.slot b o e n hb (by simp)) (fun b o _ e n=>u.free b o e n (by simp)) (fun b o _ e=>u.there b o e (by simp)) u.tups u.qm u.qN (fun m' hm=>by
  obtain⟨o',es',ep',ho',r'⟩:=hm;rw[ho]at ho';cases ho'
  exact⟨_,es',ep',hL,r'⟩) hok I.bare
theorem Inv.call{g':Array GenState}{t':Nat}{d':Drawn}{ch:List Addr}(I:Inv X pins σ H s)(u:Un (frs X.stack) ch H H' s.heap h')(hok:HOk X.prog X.w H' h')(hg:AllBare g')
 (hch:∀ b ∈ ch,(b ∈ X.ex\/X.s₀.heap.objs.size<=b)/\b ≠ X.env.locals/\(∀ x c,X.env.cells.lookup x=some c->c ≠ b)/\∀ p ∈ X.pn++pins,p.1 ≠ b):
 Inv X pins σ H' { s with heap:=h',gens:=g',drawn:=d',toks:=t' }:=by
 obtain⟨m,⟨o,es,ep,ho,r⟩,_⟩:=id I.loc;obtain⟨sl,hL⟩:=u.any ho I.free fun z=>(hch _ z).2.1 rfl
 exact I.step (ch:=ch) hch (fun b o hL hb hc e n=>u.keep b o e n (fun z=>(List.mem_cons.mp (I.FQ b z)).elim hL hb) hc) (fun b o _ _ hc e n=>u.any e n hc) (fun b o hc e n=>u.free b o e n hc) (fun b o hc e=>u.there b o e hc) u.tups u.qm u.qN (fun m' hm=>by
  obtain⟨o',es',ep',ho',r'⟩:=hm;rw[ho]at ho';cases ho'
  exact⟨_,es',ep',hL,r'⟩) hok hg
theorem Inv.turned{t':Nat}{it:Addr}(I:Inv X pins σ H s)(k:∀ b o,b ≠ it->s.heap.get? b=some o->h'.get? b=some o)(hn:H it=none)(hL:it ≠ X.env.locals)
 (h1:it ∈ X.ex\/X.s₀.heap.objs.size<=it) (h2:∀ x c,X.env.cells.lookup x=some c->c ≠ it) (h3:∀ p ∈ X.pn++pins,p.1 ≠ it):Inv X pins σ H { s with heap:=h',toks:=t' }:=by
 have nit:∀ b u,H b=some u->b ≠ it:=fun b u e z=>by rw[z,hn]at e;cases e
 refine I.step (g':=s.gens) (d':=s.drawn) (ch:=[it]) (fun b hb=>?_) (fun b o _ _ hc e _=>k b o (fun z=>hc (by simp[z])) e) (fun b o _ _ hc e _=>⟨o.slots,k b o (fun z=>hc (by simp[z])) e⟩) (fun _ _ _ _ n=>n)
  (fun b o hc e=>⟨o,k b o (fun z=>hc (by simp[z])) e⟩) (fun _ _ e=>e) (fun _ _ _ e=>e) (fun b ps e=>⟨#[],by rw[e];simp⟩) (fun m hm=>?_) (fun b u e=>?_) I.bare
 · have e:b=it:=by simpa using hb
   subst e;exact⟨h1,hL,h2,h3⟩
 · obtain⟨o,es,ep,ho,r⟩:=hm;exact⟨o,es,ep,k _ o (Ne.symm hL) ho,r⟩
 · refine(I.hok b u e).stay (fun c v hc q=>k c v ?_ q) (fun _ q=>q) fun _ _ q=>q
   rcases hc with z | z
   · rw[z];exact nit b u e
   · exact nit c _ z
theorem Inv.tok(I:Inv X pins σ H s)(t:Nat):Inv X pins σ H { s with toks:=t }:=I.un (h':=s.heap) (t':=t) Un.refl I.hok
theorem Inv.kept{t':Nat}(I:Inv X pins σ H s)(k:∀ b u,s.heap.get? b=some u->h'.get? b=some u):Inv X pins σ H { s with heap:=h',toks:=t' }:=I.un (Un.kept k) (I.hok.kept k)
theorem Inv.laid{a:Addr}{o:HO}{t':Nat}(I:Inv X pins σ H s)(k:∀ b u,s.heap.get? b=some u->h'.get? b=some u)(hp:s.heap.objs.size<=a)(new:b8 X.prog X.w (upd H a o) h' a o):
 Inv X pins σ (upd H a o) { s with heap:=h',toks:=t' }:=I.un (Un.laid k hp (I.hok.fresh hp)) (I.hok.laid k hp new)
theorem Inv.write{x e:Addr}{o:HO}{t':Nat}(I:Inv X pins σ H s)(mu:Mut (H x))(he:e=x\/H e=some (.own x))(k:∀ b u,b ≠ e->s.heap.get? b=some u->h'.get? b=some u)(heo:∃ u,h'.get? e=some u)
 (new:b8 X.prog X.w (upd H x o) h' x o):Inv X pins σ (upd H x o) { s with heap:=h',toks:=t' }:=I.un (Un.write mu he k heo) (I.hok.write mu he k heo new)
theorem Inv.weak{σ':List (Option V)}(I:Inv X pins σ H s)(hl:σ'.length=σ.length)(w:∀(i:Nat) v,σ'[i]? =some (some v)->σ[i]? =some (some v)):Inv X pins σ' H s:=
 ⟨I.ok,I.os,I.bare,I.base,let ⟨m,hn,hl'⟩:=I.loc;⟨m,hn,fun i x v e1 e2 e3=>hl' i x v e1 (w i v e2) e3⟩,I.cell,I.free,I.qO,I.pin,I.hok,hl.trans I.len⟩
theorem Inv.Ia{ZJ:List (Addr × Obj)}(I:Inv X pins σ H s)(h:∀ p ∈ ZJ,s.heap.get? p.1=some p.2/\H p.1=none/\p.1 ≠ X.env.locals/\p.1 ∉ X.fs/\∀ v,p.2.data ≠ .cell v):Inv X ZJ σ H s:=
 ⟨I.ok,I.os,I.bare,I.base,I.loc,I.cell,I.free,I.qO,fun p hp=>(List.mem_append.mp hp).elim (fun z=>I.pin p (List.mem_append_left _ z)) (h p),I.hok,I.len⟩
theorem Mr{N:List Str}(hN:N.Nodup){i j:Nat}{x:Str}(a:N[i]? =some x)(b:N[j]? =some x):i=j:=by
 obtain⟨h1,e1⟩:=a_ a;obtain⟨h2,e2⟩:=a_ b;exact(List.getElem_inj hN).mp (e1.trans e2.symm)
theorem Vd{M:Model}{A:Around}{E:Value->Shared->Prop}{i:Nat}{x:Str}{v:V}{u:Value}{Q:Unit->Shared->Prop}(I:Inv X pins σ H s)(hN:X.N.Nodup)(hi:X.N[i]? =some x)(hx:Loc X.env.scope x)(r:RelV v u)
 (h:∀ s',Inv X pins (σ.set i (some v)) H s'->(∃ a,Heap.SameBut a s.heap s'.heap/\(a=X.env.locals\/X.env.cells.lookup x=some a))->Q () s') (hf:X.fn x=true\/X.env.scope.names.lookup x=some .local:=by first | exact .inl rfl | exact .inr rfl | assumption):wpAny M A (storeName X.env x u) Q E s:=by
 obtain⟨m,hn,hl⟩:=id I.loc;have hcls:(X.env.scope.kind == .class||(X.env.scope.kind == .module&&X.env.locals != X.env.globals))=false:=by rw[I.ok.kind];rfl
 have abQ:i<σ.length:=by rw[I.len];exact(a_ hi).1
 have cne:=I.cne
 have tracked:∀ {a:Addr} {h':Heap},(∃ o,s.heap.get? a=some o/\H a=none)->Heap.SameBut a s.heap h'->HOk X.prog X.w H h':=fun {a h'} ha hs b ob e=>by
  obtain⟨_,_,hfree⟩:=ha;refine(I.hok b ob e).stay (fun c w' hc q=>(hs.2 c ?_).trans q) (fun _ q=>q) fun _ _ q=>q;rintro rfl
  rcases hc with rfl | hc
  · rw[hfree]at e;cases e
  · rw[hfree]at hc;cases hc
 rcases hx with hk | hk
 · refine wpAny_storeName_local hk hn (fun h' hn' hs=>?_) hcls;obtain⟨oL,_,_,hoL,_⟩:=id hn;refine h _ ⟨I.ok,I.os,I.bare,⟨fun b o e n hb hx=>?_,fun b o e n hb hx=>?_,I.base.free,fun b o e hx=>?_,I.base.tups,I.base.qm,I.base.qN⟩,⟨_,hn',fun j y v' e1 e2 e3=>?_⟩,fun y c e=>?_,I.free,I.qO,fun p hp=>?_,tracked ⟨oL,hoL,I.free⟩ hs,by simpa using I.len⟩ ⟨_,hs,.inl rfl⟩
   · exact(hs.2 b (Nat.ne_of_lt (aY (Heap.lt_size e) I.ok.above))).trans (I.base.keep b o e n hb hx)
   · obtain⟨sl,e1⟩:=I.base.slot b o e n hb hx;exact⟨sl,(hs.2 b (Nat.ne_of_lt (aY (Heap.lt_size e) I.ok.above))).trans e1⟩
   · obtain⟨o',e1⟩:=I.base.there b o e hx;exact⟨o',(hs.2 b (Nat.ne_of_lt (aY (Heap.lt_size e) I.ok.above))).trans e1⟩
   · by_cases hj:j=i
     · subst hj;rw[hi]at e1;cases e1;rw[List.getElem?_set_self abQ]at e2;cases e2;exact⟨u,r,.inl ⟨hk,by simp⟩⟩
     · rw[List.getElem?_set_ne (Ne.symm hj)]at e2;obtain⟨u',r',q⟩:=hl j y v' e1 e2 e3;refine⟨u',r',?_⟩
       rcases q with ⟨k,e⟩ | ⟨k,c,e,z⟩
       · refine .inl ⟨k,?_⟩;have:y ≠ x:=fun e=>hj (Mr hN e1 (e ▸ hi));simp[this,e]
       · exact .inr ⟨k,c,e,z.sameBut hs (cne y c e)⟩
   · obtain⟨w',z⟩:=I.cell y c e;exact⟨w',z.sameBut hs (cne y c e)⟩
   · obtain⟨e,n,ne,nf,d⟩:=I.pin p hp;exact⟨(hs.2 p.1 ne).trans e,n,ne,nf,d⟩
 · have hfn:X.fn x=true:=by
    rcases hf with z | z
    · exact z
    · rw[z]at hk;cases hk
   obtain⟨c,hc⟩:=I.ok.has x (.inl hk);obtain⟨w',z⟩:=I.cell x c hc;refine wpAny_storeName_cell I.ok.kind hk hc z (fun h' hc' hs=>?_);obtain⟨oc,hoc,afx⟩:=id z;refine h { s with heap:=h' } ⟨I.ok,I.os,I.bare,⟨fun b o e n hb hx=>?_,fun b o e n hb hx=>?_,I.base.free,fun b o e hx=>?_,I.base.tups,I.base.qm,I.base.qN⟩,⟨m,hn.sameBut hs (Ne.symm (cne x c hc)),fun j y v' e1 e2 e3=>?_⟩,fun y c' e=>?_,I.free,I.qO,fun p hp=>?_,tracked ⟨oc,hoc,I.qO x c hc⟩ hs,by simpa using I.len⟩ ⟨c,hs,.inr hc⟩
   · exact(hs.2 b (Nat.ne_of_lt (aY (Heap.lt_size e) (I.ok.cab x c hfn hc)))).trans (I.base.keep b o e n hb hx)
   · obtain⟨sl,e1⟩:=I.base.slot b o e n hb hx;exact⟨sl,(hs.2 b (Nat.ne_of_lt (aY (Heap.lt_size e) (I.ok.cab x c hfn hc)))).trans e1⟩
   · obtain⟨o',e1⟩:=I.base.there b o e hx;exact⟨o',(hs.2 b (Nat.ne_of_lt (aY (Heap.lt_size e) (I.ok.cab x c hfn hc)))).trans e1⟩
   · by_cases hj:j=i
     · subst hj;rw[hi]at e1;cases e1;rw[List.getElem?_set_self abQ]at e2;cases e2;exact⟨u,r,.inr ⟨.inl hk,c,hc,hc'⟩⟩
     · rw[List.getElem?_set_ne (Ne.symm hj)]at e2;obtain⟨u',r',q⟩:=hl j y v' e1 e2 e3;refine⟨u',r',?_⟩
       rcases q with q | ⟨k,c',e,z'⟩
       · exact .inl q
       · refine .inr ⟨k,c',e,z'.sameBut hs ?_⟩;rintro rfl;exact hj (Mr hN e1 (I.ok.inj _ _ _ e hc ▸ hi))
   · by_cases hcc:c'=c
     · subst hcc;exact⟨_,hc'⟩
     · obtain⟨w2,z2⟩:=I.cell y c' e;exact⟨w2,z2.sameBut hs hcc⟩
   · obtain⟨e,n,ne,nf,d⟩:=I.pin p hp;refine⟨(hs.2 p.1 ?_).trans e,n,ne,nf,d⟩;intro q;rw[q,hoc]at e;have q':oc=p.2:=Option.some.inj e;exact d w' (by rw[<- q'];exact afx)
theorem yF{M:Model}{A:Around}{E:Value->Shared->Prop}{i:Nat}{x:Str}{v:V}{u:Value}{Q:Unit->Shared->Prop}(I:Inv X pins σ H s)(hN:X.N.Nodup)(hi:X.N[i]? =some x)(hx:Loc X.env.scope x)(r:RelV v u)
 (h:∀ s',Inv X pins (σ.set i (some v)) H s'->Q () s') (hf:X.fn x=true\/X.env.scope.names.lookup x=some .local:=by first | exact .inl rfl | exact .inr rfl | assumption):wpAny M A (storeName X.env x u) Q E s:=
 Vd I hN hi hx r (fun s' I' _=>h s' I') hf
theorem Inv.call'{s':Shared}{ch:List Addr}(I:Inv X pins σ H s)(ho:s'.os=s.os)(u:Un (frs X.stack) ch H H' s.heap s'.heap)(hok:HOk X.prog X.w H' s'.heap)(hg:AllBare s'.gens)
 (hch:∀ b ∈ ch,(b ∈ X.ex\/X.s₀.heap.objs.size<=b)/\b ≠ X.env.locals/\(∀ x c,X.env.cells.lookup x=some c->c ≠ b)/\∀ p ∈ X.pn++pins,p.1 ≠ b):Inv X pins σ H' s':=by
 obtain⟨h',g',d',t',o'⟩:=s';have e:o'=s.os:=ho;subst e;exact I.call (g':=g') (t':=t') (d':=d') u hok hg hch
end
abbrev XK:=Value->Option Addr->Hp->Prop
abbrev St:=List (Option V)
abbrev VK:=V->Hp->Prop
abbrev TE:=St->Hp->VK->Prop
abbrev TT:=St->Hp->(Bool->Hp->Prop)->Prop
abbrev TA:=St->Hp->(List V->Hp->Prop)->Prop
structure Ends where
 nx:St->Hp->Prop
 rt:VK
 bk:St->Hp->Prop:=fun _ _=>False
 ct:St->Hp->Prop:=fun _ _=>False
abbrev TS:=Ends->St->Hp->Prop
def EP(X:Cx)(pins:List (Addr × Obj))(σ:St)(Q:VK)(u:Value)(s':Shared):Prop:=∃ v H',Inv X pins σ H' s'/\RelV v u/\Q v H'
def TP(X:Cx)(pins:List (Addr × Obj))(σ:St)(Q:Bool->Hp->Prop)(b:Bool)(s':Shared):Prop:=∃ H',Inv X pins σ H' s'/\Q b H'
def AP(X:Cx)(pins:List (Addr × Obj))(σ:St)(Q:List V->Hp->Prop)(us:List Value)(s':Shared):Prop:=∃ vs H',Inv X pins σ H' s'/\Vals vs us/\Q vs H'
def SP(X:Cx)(pins:List (Addr × Obj))(D:Ends)(f:Flow)(s':Shared):Prop:=
 match f with
 | .next=>∃ σ' H',Inv X pins σ' H' s'/\D.nx σ' H'
 | .brk=>∃ σ' H',Inv X pins σ' H' s'/\D.bk σ' H'
 | .cont=>∃ σ' H',Inv X pins σ' H' s'/\D.ct σ' H'
 | .ret u=>∃ v σ' H',Inv X pins σ' H' s'/\RelV v u/\D.rt v H'
def PE(X:Cx)(e:Expr)(t:TE):Prop:=
 ∀(pins:List (Addr × Obj)) (s:Shared) (σ:St) (H:Hp) (Q:VK),Inv X pins σ H s->t σ H Q->wpAny (model X.prog X.w) X.A (eval e X.env) (EP X pins σ Q) X.xe s
def PT(X:Cx)(e:Expr)(t:TT):Prop:=
 ∀(pins:List (Addr × Obj)) (s:Shared) (σ:St) (H:Hp) (Q:Bool->Hp->Prop),Inv X pins σ H s->t σ H Q->wpAny (model X.prog X.w) X.A (isTrue e X.env (eval e X.env)) (TP X pins σ Q) X.xe s
def PW(X:Cx)(e:Expr)(t:TT):Prop:=
 ∀(whole:Sem Value) (pins:List (Addr × Obj)) (s:Shared) (σ:St) (H:Hp) (Q:Bool->Hp->Prop),Inv X pins σ H s->t σ H Q->wpAny (model X.prog X.w) X.A (isTrue e X.env whole) (TP X pins σ Q) X.xe s
theorem PW.pt{X:Cx}{e:Expr}{t:TT}(h:PW X e t):PT X e t:=h _
def PA(X:Cx)(es:List Expr)(t:TA):Prop:=
 ∀(pos:Pos) (pins:List (Addr × Obj)) (s:Shared) (σ:St) (H:Hp) (Q:List V->Hp->Prop),Inv X pins σ H s->t σ H Q->wpAny (model X.prog X.w) X.A (spliced (backTo pos (starEach es X.env))) (AP X pins σ Q) X.xe s
def PS(X:Cx)(st:Stmt)(t:TS):Prop:=
 ∀(pins:List (Addr × Obj)) (s:Shared) (σ:St) (H:Hp) (D:Ends),Inv X pins σ H s->t D σ H->wpAny (model X.prog X.w) X.A (exec st X.env) (SP X pins D) X.xe s
def PSs(X:Cx)(st:List Stmt)(t:TS):Prop:=
 ∀(pins:List (Addr × Obj)) (s:Shared) (σ:St) (H:Hp) (D:Ends),Inv X pins σ H s->t D σ H->wpAny (model X.prog X.w) X.A (execs st X.env) (SP X pins D) X.xe s
theorem thn{α:Type}{t:Sem α}{Q Q':α->Shared->Prop}{M:Model}{A:Around}{E:Value->Shared->Prop}{s:Shared}(h:wpAny M A t Q E s)(hQ:∀ a s,Q a s->Q' a s):wpAny M A t Q' E s:=wpAny_mono h hQ fun _ _ x=>x
section
variable{X:Cx}
def abR(i:Nat):TE:=fun σ H Q=>∃ v,σ[i]? =some (some v)/\Q v H
def tC(v:V):TE:=fun _ H Q=>Q v H
theorem Ve{i:Nat}{x:Str}{pos:Pos}(hN:X.N[i]? =some x)(hv:Vis X.env.scope x)(hd:(x==("__debug__":Str))=false:=by decide)(hcd:(x==("__classdict__":Str))=false:=by decide):PE X (.Name x pos) (abR i):=by
 intro pins s σ H Q I h;obtain⟨v,e,h⟩:=h;obtain⟨m,hn,hl⟩:=I.loc;obtain⟨u,r,l⟩:=hl i x v hN e hv;have fin:EP X pins σ Q u s:=⟨v,H,I,r,h⟩
 rcases l with ⟨hk,hm⟩ | ⟨hk,c,hc,hcell⟩
 · exact wpAny_Name (wpAny_loadName_local I.ok.kind hk hn hm fin) hd
 · rcases hk with hk | hk
   · exact wpAny_Name (wpAny_loadName_cell I.ok.kind hk hc hcell fin) hd
   · exact wpAny_Name (wpAny_loadName_free I.ok.kind hk hc hcell fin hcd) hd
theorem dz{i j pos}:PE X (.Constant (.int i) j pos) (tC (.int i)):=fun _ _ _ H _ I h=>wpAny_Constant_int ⟨.int i,H,I.tok _,⟨_,rfl⟩,h⟩
theorem aev{b j pos}:PE X (.Constant (.bool b) j pos) (tC (.bl b)):=fun _ _ _ H _ I h=>Constant_bool ⟨.bl b,H,I,rfl,h⟩
theorem abS{j pos}:PE X (.Constant .none j pos) (tC .non):=fun _ _ _ H _ I h=>Constant_none ⟨.non,H,I,rfl,h⟩
theorem vm{x j pos}:PE X (.Constant (.str x) j pos) (tC (.str x)):=fun _ _ _ H _ I h=>Calls.Constant_str ⟨.str x,H,I.tok _,⟨_,rfl⟩,h⟩
def Gl(X:Cx)(x:Str):Prop:=X.env.kindOf x=some .globalImplicit
theorem uX{E:Value->Shared->Prop}{pins:List (Addr × Obj)}{s:Shared}{σ:St}{H:Hp}{x:Str}{u:Value}{pos:Pos}{Q:Value->Shared->Prop}(I:Inv X pins σ H s)(hg:Gl X x)(hm:X.mg x=some u)(h:Q u s)
 (hd:(x==("__debug__":Str))=false:=by decide):wpAny (model X.prog X.w) X.A (eval (.Name x pos) X.env) Q E s:=
 Calls.Name_function_global I.ok.kind hg (Calls.loadGlobal_global (by rw[I.ok.glob];exact I.mod.glob.keeps I.bk) hm h) hd
theorem qP{E:Value->Shared->Prop}{pins:List (Addr × Obj)}{s:Shared}{σ:St}{H:Hp}{x:Str}{u:Value}{pos:Pos}{Q:Value->Shared->Prop}(I:Inv X pins σ H s)(hg:Gl X x)(hm:X.mg x=none)(hv:bootBuiltins x=some u)(h:Q u s)
 (hn:x ≠ "__name__":=by decide) (hd:(x==("__debug__":Str))=false:=by decide):wpAny (model X.prog X.w) X.A (eval (.Name x pos) X.env) Q E s:=by
 obtain⟨mb,h1,h2⟩:=I.mod.blt;exact Calls.Name_function_global I.ok.kind hg (Calls.loadGlobal_builtin (by rw[I.ok.glob];exact I.mod.glob.keeps I.bk) hm (by rw[I.ok.blt];exact h1.keeps I.bk) ((h2 x hn).trans hv) h) hd
theorem Qw{x:Str}{v:V}{u:Value}{pos:Pos}(hg:Gl X x)(hm:X.mg x=some u)(r:RelV v u)(hd:(x==("__debug__":Str))=false:=by decide):PE X (.Name x pos) (tC v):=
 fun _ _ _ H _ I h=>uX I hg hm ⟨v,H,I,r,h⟩ hd
theorem aaz{x:Str}{v:V}{u:Value}{pos:Pos}(hg:Gl X x)(hm:X.mg x=none)(hv:bootBuiltins x=some u)(r:RelV v u)(hn:x ≠ "__name__":=by decide)(hd:(x==("__debug__":Str))=false:=by decide):PE X (.Name x pos) (tC v):=
 fun _ _ _ H _ I h=>qP I hg hm hv ⟨v,H,I,r,h⟩ hn hd
variable{a b:Expr}{ta tb:TE}{pos:Pos}
def PC(X:Cx)(op:CmpOp)(a b:Expr)(t:TE):Prop:=
 ∀(pins:List (Addr × Obj)) (s:Shared) (σ:St) (H:Hp) (Q:VK),Inv X pins σ H s->t σ H Q->
  wpAny (model X.prog X.w) X.A (eval a X.env) (fun v s₁=>wpAny (model X.prog X.w) X.A (eval b X.env) (fun u s₂=>wpAny (model X.prog X.w) X.A (compareOp op v u) (EP X pins σ Q) X.xe s₂) X.xe s₁) X.xe s
theorem Ms(b:Expr){op:CmpOp}(h:op ≠ .In)(h2:op ≠ .NotIn):behindInMarks op b=false:=by
 have e1:(op==CmpOp.In)=false:=by cases op <;> first | rfl | exact absurd rfl h
 have e2:(op==CmpOp.NotIn)=false:=by cases op <;> first | rfl | exact absurd rfl h2
 cases b <;> simp[behindInMarks,e1,e2]
def afy(ta:TE):TE:=fun σ H Q=>ta σ H fun x H1=>Q (.bl (decide (x= .non))) H1
def aew(ta:TE):TE:=fun σ H Q=>ta σ H fun x H1=>Q (.bl (!decide (x= .non))) H1
theorem RelV.Mt{x:V}{v:Value}(r:RelV x v):(v==Value.none)=decide (x= .non):=by
 cases x with
 | non=>cases r;rfl
 | bl _=>cases r;rfl
 | int _=>obtain⟨t,rfl⟩:=r;rfl
 | str _=>obtain⟨t,rfl⟩:=r;rfl
 | byt _=>obtain⟨t,rfl⟩:=r;rfl
 | flt _=>obtain⟨t,rfl⟩:=r;rfl
 | ref _=>cases r;rfl
 | ty _=>cases r;rfl
theorem Vf{j pos'}(ha:PE X a ta):PC X .Is a (.Constant .none j pos') (afy ta):=by
 intro pins s σ H Q I h;refine thn (ha pins s σ H _ I h) fun v s1 ⟨x,H1,I1,r1,q1⟩=>?_;exact Constant_none (is_none_gen ⟨.bl _,H1,I1,by rw[r1.Mt];rfl,q1⟩)
theorem Qx{j pos'}(ha:PE X a ta):PC X .IsNot a (.Constant .none j pos') (aew ta):=by
 intro pins s σ H Q I h;refine thn (ha pins s σ H _ I h) fun v s1 ⟨x,H1,I1,r1,q1⟩=>?_;exact Constant_none (isnot_none_gen ⟨.bl _,H1,I1,by rw[r1.Mt];rfl,q1⟩)
def tB(t:TE):TT:=fun σ H Q=>t σ H fun x H1=>∃ c,x= .bl c/\Q c H1
theorem abT{op:CmpOp}{t:TE}(h:PC X op a b t)(h1:behindInMarks op b=false:=by first | exact Ms _ (by decide) (by decide) | rfl):PE X (.Compare a [op] [b] pos) t:=fun pins s σ H Q I hw=>wpAny_Compare1 (h pins s σ H Q I hw) h1
theorem Mu{op:CmpOp}{t:TE}(h:PC X op a b t)(h1:behindInMarks op b=false:=by first | exact Ms _ (by decide) (by decide) | rfl):PT X (.Compare a [op] [b] pos) (tB t):=by
 intro pins s σ H Q I hw;refine wpAny_isTrue_Compare1 (thn (h pins s σ H _ I hw) fun v s1 h1=>thn h1 fun u s2 h2=>thn h2 fun c s3 ⟨x,H1,I1,r1,q1⟩=>?_) h1;obtain⟨d,rfl,q⟩:=q1;cases r1;exact wpAny_truthy_bool ⟨H1,I1,q⟩
theorem abU{e:Expr}{t:TE}(h:PE X e t)(he:∀ whole,isTrue e X.env whole=(do let v <- whole;standAt e.pos;holding [v] (truthy v)):=by intro _;rfl):PT X e (tB t):=by
 intro pins s σ H Q I hw;refine isTrue_plain (thn (h pins s σ H _ I hw) fun v s1 ⟨x,H1,I1,r1,q1⟩=>?_) (he _);obtain⟨d,rfl,q⟩:=q1;cases r1;exact wpAny_truthy_bool ⟨H1,I1,q⟩
variable{tA tB':TT}{rest:List Expr}
def abV(t u:TT):TT:=fun σ H Q=>t σ H fun c H1=>if c=true then u σ H1 Q else Q false H1
def tOr(t u:TT):TT:=fun σ H Q=>t σ H fun c H1=>if c=true then Q true H1 else u σ H1 Q
def afz(t:TT):TT:=fun σ H Q=>t σ H fun c H1=>Q (!c) H1
theorem pw_and1(ha:PT X a tA):PW X (.BoolOp .And [a] pos) tA:=by
 intro wh pins s σ H Q I h;refine isTrue_and (thn (ha pins s σ H Q I h) fun c s1 e=>?_)
 cases c with
 | true=>exact isTrue_and_nil e
 | false=>exact e
theorem pw_or1(ha:PT X a tA):PW X (.BoolOp .Or [a] pos) tA:=by
 intro wh pins s σ H Q I h;refine isTrue_or (thn (ha pins s σ H Q I h) fun c s1 e=>?_)
 cases c with
 | false=>exact isTrue_or_nil e
 | true=>exact e
theorem pw_and(ha:PT X a tA)(hb:PW X (.BoolOp .And (b::rest) pos) tB'):PW X (.BoolOp .And (a::b::rest) pos) (abV tA tB'):=by
 intro wh pins s σ H Q I h;refine isTrue_and (thn (ha pins s σ H _ I h) fun c s1 ⟨H1,I1,q1⟩=>?_)
 cases c with
 | true=>exact hb wh pins s1 σ H1 Q I1 q1
 | false=>exact⟨H1,I1,q1⟩
theorem pw_or(ha:PT X a tA)(hb:PW X (.BoolOp .Or (b::rest) pos) tB'):PW X (.BoolOp .Or (a::b::rest) pos) (tOr tA tB'):=by
 intro wh pins s σ H Q I h;refine isTrue_or (thn (ha pins s σ H _ I h) fun c s1 ⟨H1,I1,q1⟩=>?_)
 cases c with
 | true=>exact⟨H1,I1,q1⟩
 | false=>exact hb wh pins s1 σ H1 Q I1 q1
theorem Vg(ha:PT X a tA):PT X (.UnaryOp .Not a pos) (afz tA):=by
 intro pins s σ H Q I h;exact isTrue_not (ha pins s σ H (fun c H1=>Q (!c) H1) I h)
def ZK(ta tb:TE):TE:=fun σ H Q=>ta σ H fun x H1=>∃ c,x= .bl c/\if c=true then tb σ H1 Q else Q (.bl false) H1
def afA(ta tb:TE):TE:=fun σ H Q=>ta σ H fun x H1=>∃ c,x= .bl c/\if c=true then Q (.bl true) H1 else tb σ H1 Q
def aex(ta:TE):TE:=fun σ H Q=>ta σ H fun x H1=>∃ c,x= .bl c/\Q (.bl (!c)) H1
theorem xV{op}{t:TE}(h:PE X a t):PE X (.BoolOp op [a] pos) t:=fun pins s σ H Q I hw=>BoolOp_one (h pins s σ H Q I hw)
theorem abW(ha:PE X a ta)(hb:PE X (.BoolOp .And (b::rest) pos) tb):PE X (.BoolOp .And (a::b::rest) pos) (ZK ta tb):=by
 intro pins s σ H Q I h;refine BoolOp_and (thn (ha pins s σ H _ I h) fun v s1 ⟨x,H1,I1,r1,q1⟩=>?_);obtain⟨c,rfl,q1⟩:=q1;cases r1;refine wpAny_truthy_bool ?_
 cases c with
 | true=>exact hb pins s1 σ H1 Q I1 q1
 | false=>exact⟨.bl false,H1,I1,rfl,q1⟩
theorem abX(ha:PE X a ta):PE X (.UnaryOp .Not a pos) (aex ta):=by
 intro pins s σ H Q I h;refine UnaryOp_ (thn (ha pins s σ H _ I h) fun v s1 ⟨x,H1,I1,r1,q1⟩=>?_);obtain⟨c,rfl,q1⟩:=q1;cases r1;exact not_of (wpAny_truthy_bool ⟨.bl (!c),H1,I1,rfl,q1⟩)
def tIf(t:TT)(ta tb:TE):TE:=fun σ H Q=>t σ H fun c H1=>if c=true then ta σ H1 Q else tb σ H1 Q
theorem Mv{c:Expr}(hc:PT X c tA)(ha:PE X a ta)(hb:PE X b tb):PE X (.IfExp c a b pos) (tIf tA ta tb):=by
 intro pins s σ H Q I h;refine wpAny_IfExp (thn (hc pins s σ H _ I h) fun d s1 ⟨H1,I1,q1⟩=>?_)
 cases d with
 | true=>exact ha pins s1 σ H1 Q I1 q1
 | false=>exact hb pins s1 σ H1 Q I1 q1
end
def SqL(K:aq)(H:Hp)(a:Addr)(xs:List V):Prop:=
 Rd H a (.lst xs)\/
  ∃(o:Obj) (its:Array Value) (n:Nat),K.lookup a=some o/\o.cls= .type "list"/\o.dict=none/\o.data= .seq its n/\its.size<=sizeLine/\Vals xs its.toList
def SqT(K:aq)(H:Hp)(a:Addr)(xs:List V):Prop:=
 Rd H a (.tup xs)\/
  ∃(o:Obj) (its:Array Value) (n:Nat),K.lookup a=some o/\o.cls= .type "tuple"/\o.data= .seq its n/\its.size<=sizeLine/\Vals xs its.toList
def afB:Value->Option V
 | .none=>some .non
 | .bool b=>some (.bl b)
 | .int i _=>some (.int i)
 | .str x _=>some (.str x)
 | .bytes b _=>some (.byt b)
 | .float b _=>some (.flt b)
 | .ref a=>some (.ref a)
 | .type n=>some (.ty n)
 | _=>none
theorem RelV.abs{x:V}{u:Value}(r:RelV x u):afB u=some x:=by
 cases x with
 | non=>cases r;rfl
 | bl _=>cases r;rfl
 | int _=>obtain⟨t,rfl⟩:=r;rfl
 | str _=>obtain⟨t,rfl⟩:=r;rfl
 | byt _=>obtain⟨t,rfl⟩:=r;rfl
 | flt _=>obtain⟨t,rfl⟩:=r;rfl
 | ref _=>cases r;rfl
 | ty _=>cases r;rfl
theorem RelV.inj{x y:V}{u:Value}(r:RelV x u)(q:RelV y u):x=y:=Option.some.inj (r.abs.symm.trans q.abs)
theorem Vals.inj:∀ {xs ys:List V} {us:List Value},Vals xs us->Vals ys us->xs=ys
 | _,_,_,.nil,.nil=>rfl
 | _,_,_,.cons r t,.cons r' t'=>by rw[r.inj r',Vals.inj t t']
section
variable{X:Cx}{pins:List (Addr × Obj)}{σ:St}{H:Hp}{s:Shared}{a:Addr}{xs ys:List V}
theorem SqL.of{K:aq}(h:H a=some (.lst xs)):SqL K H a xs:=.inl (.inl h)
theorem SqT.of{K:aq}(h:H a=some (.tup xs)):SqT K H a xs:=.inl (.inl h)
theorem Inv.list(I:Inv X pins σ H s)(h:SqL X.K H a xs):∃ its:List Value,Vals xs its/\PlainL s.heap a its.toArray/\xs.length<=sizeLine:=by
 rcases h with h | ⟨o,its,n,hk,hc,hd,hs,hz,r⟩
 · obtain⟨z,its,n,r,e⟩:=h.ok I.hok;exact⟨its,r,⟨_,n,e,rfl,rfl,rfl⟩,z⟩
 · refine⟨its.toList,r,⟨o,n,I.kIn a o hk,hc,hd,by simpa using hs⟩,?_⟩;have e:=r.length;simp only[Array.length_toList]at e;omega
theorem Inv.tuple(I:Inv X pins σ H s)(h:SqT X.K H a xs):∃ its:List Value,Vals xs its/\IsTup s.heap a its.toArray/\xs.length<=sizeLine:=by
 rcases h with h | ⟨o,its,n,hk,hc,hs,hz,r⟩
 · obtain⟨z,its,r,p⟩:=h.ok I.hok;exact⟨its,r,p,z⟩
 · refine⟨its.toList,r,⟨o,I.kIn a o hk,hc,n,by simpa using hs⟩,?_⟩;have e:=r.length;simp only[Array.length_toList]at e;omega
theorem Inv.yG(I:Inv X pins σ H s)(h:SqL X.K H a xs)(h':SqL X.K H a ys):xs=ys:=by
 obtain⟨its,r,⟨o,n,e,_,_,d⟩,_⟩:=I.list h;obtain⟨its',r',⟨o',n',e',_,_,d'⟩,_⟩:=I.list h';rw[e]at e';cases e';rw[d]at d';injection d' with d1 _;have:its=its':=by simpa using congrArg Array.toList d1
 subst this;exact r.inj r'
theorem Inv.Vh(I:Inv X pins σ H s)(h:SqT X.K H a xs)(h':SqT X.K H a ys):xs=ys:=by
 obtain⟨its,r,⟨o,e,_,n,d⟩,_⟩:=I.tuple h;obtain⟨its',r',⟨o',e',_,n',d'⟩,_⟩:=I.tuple h';rw[e]at e';cases e';rw[d]at d';injection d' with d1 _;have:its=its':=by simpa using congrArg Array.toList d1
 subst this;exact r.inj r'
end
abbrev Cx.wish(X:Cx)(E:Value->Shared->Prop):Cx:={ X with xe:=E }
abbrev Cx.nox(X:Cx):Cx:=X.wish fun _ _=>False
theorem Cx.Ok.wish{X:Cx}(ok:X.Ok)(E:Value->Shared->Prop):(X.wish E).Ok:=
 ⟨ok.mod,ok.kind,ok.glob,ok.blt,ok.above,ok.inj,ok.has,ok.cab,ok.hd,ok.frames,ok.stk,ok.exf,ok.bs,ok.bsz,ok.H_,ok.R0,ok.ug,ok.frf⟩
theorem Cx.Ok.tX{X:Cx}{E:Value->Shared->Prop}(ok:(X.wish E).Ok):X.Ok:=
 ⟨ok.mod,ok.kind,ok.glob,ok.blt,ok.above,ok.inj,ok.has,ok.cab,ok.hd,ok.frames,ok.stk,ok.exf,ok.bs,ok.bsz,ok.H_,ok.R0,ok.ug,ok.frf⟩
section
variable{X:Cx}{pins:List (Addr × Obj)}{σ:St}{H:Hp}{s:Shared}{E:Value->Shared->Prop}
theorem Inv.wish(I:Inv X pins σ H s)(E:Value->Shared->Prop):Inv (X.wish E) pins σ H s:=⟨I.ok.wish E,I.os,I.bare,I.base,I.loc,I.cell,I.free,I.qO,I.pin,I.hok,I.len⟩
theorem Inv.tX(I:Inv (X.wish E) pins σ H s):Inv X pins σ H s:=⟨I.ok.tX,I.os,I.bare,I.base,I.loc,I.cell,I.free,I.qO,I.pin,I.hok,I.len⟩
theorem SP.tX{D:Ends}{f:Flow}{s':Shared}(h:SP (X.wish E) pins D f s'):SP X pins D f s':=by
 cases f with
 | next=>obtain⟨σ',H',I,q⟩:=h;exact⟨σ',H',I.tX,q⟩
 | brk=>obtain⟨σ',H',I,q⟩:=h;exact⟨σ',H',I.tX,q⟩
 | cont=>obtain⟨σ',H',I,q⟩:=h;exact⟨σ',H',I.tX,q⟩
 | ret u=>obtain⟨v,σ',H',I,r,q⟩:=h;exact⟨v,σ',H',I.tX,r,q⟩
theorem PSs.nox{st:List Stmt}{t:TS}(h:PSs X.nox st t):PSs X st t:=fun pins s σ H D I hw=>
 wpAny_mono (h pins s σ H D (I.wish _) hw) (fun _ _ q=>q.tX) fun _ _ z=>False.elim z
end
section
variable{X:Cx}{st:Stmt}{rest:List Stmt}{t u:TS}{e:Expr}{te:TE}{pos:Pos}
def aey:TS:=fun D σ H=>D.nx σ H
def afC(t u:TS):TS:=fun D σ H=>t { D with nx:=u D } σ H
theorem xW:PSs X [] aey:=fun _ _ σ H _ I h=>wpAny_execs_nil ⟨σ,H,I,h⟩
theorem cX(h1:PS X st t)(h2:PSs X rest u):PSs X (st::rest) (afC t u):=by
 intro pins s σ H D I h;refine wpAny_execs_cons (thn (h1 pins s σ H { D with nx:=u D } I h) fun f s1 q=>?_)
 cases f with
 | next=>
   obtain⟨σ',H',I',q⟩:=q
   exact h2 pins s1 σ' H' D I' q
 | ret v=>exact q
 | brk=>exact q
 | cont=>exact q
theorem cM(h1:PS X st t):PSs X [st] t:=by
 intro pins s σ H D I h;refine wpAny_execs_cons (thn (h1 pins s σ H D I h) fun f s1 q=>?_)
 cases f with
 | next=>exact wpAny_execs_nil q
 | ret v=>exact q
 | brk=>exact q
 | cont=>exact q
def aez:TS:=fun D σ H=>D.ct σ H
theorem P0:PS X (.Continue pos) aez:=fun _ _ σ H _ I h=>wpAny_Continue ⟨σ,H,I,h⟩
theorem Inv.quiet{pins:List (Addr × Obj)}{σ:St}{H:Hp}{s:Shared}(I:Inv X pins σ H s):interactive X.env=false:=by simp[interactive,I.ok.kind]
def aeA(te:TE):TS:=fun D σ H=>te σ H fun _ H1=>D.nx σ H1
theorem jH(he:PE X e te)(hs:swapsWith e none pos.line X.env=pure false:=by rfl):PS X (.Expr e pos) (aeA te):=by
 intro pins s σ H D I h;exact wpAny_Expr_any (thn (he pins s σ H _ I h) fun v s1 ⟨x,H1,I1,r1,q1⟩=>⟨σ,H1,I1,q1⟩) I.quiet hs
def afD(te:TE):TS:=fun D σ H=>te σ H D.rt
theorem pL(he:PE X e te):PS X (.Return (some e) pos) (afD te):=by
 intro pins s σ H D I h;exact wpAny_Return_some (thn (he pins s σ H _ I h) fun v s1 ⟨x,H1,I1,r1,q1⟩=>⟨x,σ,H1,I1,r1,q1⟩)
def afE(c:TT)(t u:TS):TS:=fun D σ H=>c σ H fun b H1=>if b=true then t D σ H1 else u D σ H1
theorem Ci{c:Expr}{a b:List Stmt}{tc:TT}(hc:PT X c tc)(ha:PSs X a t)(hb:PSs X b u):PS X (.If c a b pos) (afE tc t u):=by
 intro pins s σ H D I h;refine wpAny_If (thn (hc pins s σ H _ I h) fun d s1 ⟨H1,I1,q1⟩=>?_)
 cases d with
 | true=>exact ha pins s1 σ H1 D I1 q1
 | false=>exact hb pins s1 σ H1 D I1 q1
end
abbrev TG:=V->St->Hp->(St->Hp->Prop)->Prop
abbrev TGs:=List V->St->Hp->(St->Hp->Prop)->Prop
def PG(X:Cx)(target:Expr)(t:TG):Prop:=
 ∀(pins:List (Addr × Obj)) (s:Shared) (σ:St) (H:Hp) (v:V) (u:Value) (Q:St->Hp->Prop),Inv X pins σ H s->RelV v u->t v σ H Q->
  wpAny (model X.prog X.w) X.A (assign target X.env u) (fun _ s'=>∃ σ' H',Inv X pins σ' H' s'/\Q σ' H') X.xe s
def PGs(X:Cx)(ts:List Expr)(t:TGs):Prop:=
 ∀(pins:List (Addr × Obj)) (s:Shared) (σ:St) (H:Hp) (vs:List V) (us:List Value) (Q:St->Hp->Prop),Inv X pins σ H s->Vals vs us->t vs σ H Q->
  wpAny (model X.prog X.w) X.A (assignInOrder ((assignEach ts X.env).map (·.2)) us) (fun _ s'=>∃ σ' H',Inv X pins σ' H' s'/\Q σ' H') X.xe s
abbrev TIp:=V->V->Hp->VK->Prop
def PIp(X:Cx)(op:Operator)(t:TIp):Prop:=
 ∀(pins:List (Addr × Obj)) (s:Shared) (σ:St) (H:Hp) (x y:V) (v u:Value) (Q:VK),Inv X pins σ H s->RelV x v->RelV y u->t x y H Q->
  wpAny (model X.prog X.w) X.A (inplaceOp op v u) (EP X pins σ Q) X.xe s
section
variable{X:Cx}{pos:Pos}
def Lk(i:Nat):TG:=fun v σ H Q=>Q (σ.set i (some v)) H
theorem rP{i:Nat}{x:Str}(hN:X.N.Nodup)(hi:X.N[i]? =some x)(hx:Loc X.env.scope x)(hf:X.fn x=true\/X.env.scope.names.lookup x=some .local:=by first | exact .inl rfl | exact .inr rfl | assumption):PG X (.Name x pos) (Lk i):=by
 intro pins s σ H v u Q I r h;exact wpAny_assign_Name (yF I hN hi hx r (fun s' I'=>⟨_,H,I',h⟩) hf)
def afF:TGs:=fun vs σ H Q=>vs= []/\Q σ H
def aeB(t:TG)(u:TGs):TGs:=fun vs σ H Q=>∃ v r,vs=v::r/\t v σ H fun σ' H'=>u r σ' H' Q
theorem aaA:PGs X [] afF:=by
 intro pins s σ H vs us Q I r h;obtain⟨e,h⟩:=h;subst e;cases r;exact assignInOrder_nil ⟨σ,H,I,h⟩
theorem XJ{e:Expr}{es:List Expr}{t:TG}{u:TGs}(h1:PG X e t)(h2:PGs X es u)
 (hs:(assignEach (e::es) X.env).map (·.2)=assign e X.env::(assignEach es X.env).map (·.2):=by rfl):PGs X (e::es) (aeB t u):=by
 intro pins s σ H vs us Q I r h;obtain⟨v,vr,e1,h⟩:=h;subst e1
 cases r with
 | cons r rr=>
   rw[hs];refine assignInOrder_cons (thn (h1 pins s σ H _ _ _ I r h) fun _ s1 ⟨σ1,H1,I1,q1⟩=>?_);exact h2 pins s1 σ1 H1 _ _ Q I1 rr q1
def afG(K:aq)(n:Nat)(t:TGs):TG:=fun v σ H Q=>∃ a xs,v= .ref a/\SqT K H a xs/\xs.length=n/\t xs σ H Q
theorem abY{es:List Expr}{k:Nat}{t:TGs}{n:Nat}(hc:X.calm=true)(h:PGs X es t)
 (hn:(assignEach es X.env).length=n:=by rfl) (hst:(assignEach es X.env).findIdx? (·.1)=none:=by rfl):PG X (.Tuple es k pos) (afG X.K n t):=by
 intro pins s σ H v u Q I r hw;obtain⟨a,xs,e1,hq,hl,hw⟩:=hw;subst e1;cases r;obtain⟨its,rv,ht,hz⟩:=I.tuple hq;refine assign_Tuple_tuple (I.ok.hd hc) ht (by simp[hn,<- hl,rv.length]) hst fun h' hx=>?_;have I1:Inv X pins σ H { s with heap:=h' }:=I.kept (t':=s.toks) fun b o e=>hx b o (Nat.ne_of_lt (Heap.lt_size e)) e;exact h pins _ σ H xs _ Q I1 (by simpa using rv) hw
def R1(te:TE)(g:TG):TS:=fun D σ H=>te σ H fun x H1=>g x σ H1 D.nx
theorem abZ{tg e:Expr}{te:TE}{g:TG}(he:PE X e te)(hg:PG X tg g)(hs:swapsWithSole [tg] e pos.line X.env=pure false:=by rfl)(hw:swappedStores [tg] e X.env=pure none:=by rfl)
 (h1:(assignEach [tg] X.env).map (·.2)= [assign tg X.env]:=by rfl):PS X (.Assign [tg] e pos) (R1 te g):=by
 intro pins s σ H D I h;refine wpAny_Assign_stores (thn (he pins s σ H _ I h) fun v s1 ⟨x,H1,I1,r1,q1⟩=>?_) hs hw;rw[h1];exact thn (hg pins s1 σ H1 x v _ I1 r1 q1) fun _ s2 q=>q
theorem qQ{i:Nat}{x:Str}{e:Expr}{te:TE}{pos':Pos}(hN:X.N.Nodup)(hi:X.N[i]? =some x)(hx:Loc X.env.scope x)(he:PE X e te)(hs:swapsWith e (some (.Name x pos')) pos.line X.env=pure false:=by rfl)(hf:X.fn x=true\/X.env.scope.names.lookup x=some .local:=by first | exact .inl rfl | exact .inr rfl | assumption):
 PS X (.Assign [.Name x pos'] e pos) (R1 te (Lk i)):=by
 intro pins s σ H D I h;refine wpAny_Assign_Name (thn (he pins s σ H _ I h) fun v s1 ⟨y,H1,I1,r1,q1⟩=>?_) hs;exact yF I1 hN hi hx r1 (fun s2 I2=>⟨_,H1,I2,q1⟩) hf
def ab0(i:Nat)(te:TE)(ti:TIp):TS:=fun D σ H=>∃ x,σ[i]? =some (some x)/\te σ H fun y H1=>ti x y H1 fun z H2=>D.nx (σ.set i (some z)) H2
theorem ab1{i:Nat}{x:Str}{e:Expr}{te:TE}{op:Operator}{ti:TIp}{pos':Pos}(hN:X.N.Nodup)(hi:X.N[i]? =some x)(hx:Loc X.env.scope x)(he:PE X e te)(ho:PIp X op ti)(hf:X.fn x=true\/X.env.scope.names.lookup x=some .local:=by first | exact .inl rfl | exact .inr rfl | assumption):
 PS X (.AugAssign (.Name x pos') op e pos) (ab0 i te ti):=by
 intro pins s σ H D I h;obtain⟨v,e1,h⟩:=h;obtain⟨m,hn,hl⟩:=I.loc
 have vis:Vis X.env.scope x:=by rcases hx with k | k;exact .inl k;exact .inr (.inl k)
 obtain⟨u,r,l⟩:=hl i x v hi e1 vis;refine wpAny_AugAssign_Name ?_
 have go:wpAny (model X.prog X.w) X.A (eval e X.env) (fun w s₂=>wpAny (model X.prog X.w) X.A (inplaceOp op u w) (fun r s₃=>wpAny (model X.prog X.w) X.A (storeName X.env x r) (fun _=>SP X pins D .next) X.xe s₃) X.xe s₂) X.xe s:=by
  refine thn (he pins s σ H _ I h) fun w s1 ⟨y,H1,I1,r1,q1⟩=>?_;refine thn (ho pins s1 σ H1 v y u w _ I1 r r1 q1) fun z s2 ⟨zv,H2,I2,r2,q2⟩=>?_;exact yF I2 hN hi hx r2 (fun s3 I3=>⟨_,H2,I3,q2⟩) hf
 rcases l with ⟨hk,hm⟩ | ⟨hk,c,hc,hcell⟩
 · exact wpAny_loadName_local I.ok.kind hk hn hm go
 · rcases hk with hk | hk
   · exact wpAny_loadName_cell I.ok.kind hk hc hcell go
   · rcases hx with k | k
     · have:X.env.scope.names.lookup x=some .free:=hk;rw[k]at this;cases this
     · have:X.env.scope.names.lookup x=some .free:=hk;rw[k]at this;cases this
def ipI(f:Int->Int->Int):TIp:=fun x y H Q=>∃ i j,x= .int i/\y= .int j/\Q (.int (f i j)) H
theorem ab2:PIp X .Add (ipI fun i j=>i+j):=by
 intro pins s σ H x y v u Q I r1 r2 h;obtain⟨i,j,e1,e2,q⟩:=h;subst e1;subst e2;obtain⟨t,rfl⟩:=r1;obtain⟨t',rfl⟩:=r2;exact iadd_int ⟨.int _,H,I.tok _,⟨_,rfl⟩,q⟩
end
section
variable{X:Cx}{pos:Pos}
def Vi(c:TT)(tb:TS):TS:=fun D σ H=>∃ W:Nat->St->Hp->Prop,(∃ m,W m σ H)/\∀ m σ H,W m σ H->
 c σ H fun b H1=>if b=true then ∃ N:St->Hp->Prop,(∀ σ' H',N σ' H'->∃ m',m'<m/\W m' σ' H')/\tb { D with nx:=N,ct:=N,bk:=D.nx } σ H1 else D.nx σ H1
theorem XM{c:Expr}{body:List Stmt}{tc:TT}{tb:TS}(hp:PassesOwn (model X.prog X.w) X.A X.env X.xe)(hc:PT X c tc)(hb:PSs X body tb):PS X (.While c body [] pos) (Vi tc tb):=by
 intro pins s σ H D I h;obtain⟨W,⟨m0,w0⟩,turn⟩:=h;refine wpAny_While (codeAny_whileLoop (fun n s'=>∃ σ' H',Inv X pins σ' H' s'/\W n σ' H') ?_ m0 ⟨σ,H,I,w0⟩);rintro n s1 ⟨σ1,H1,I1,w1⟩;refine wpAny_passesOwn hp (thn (hc pins s1 σ1 H1 _ I1 (turn n σ1 H1 w1)) fun b s2 ⟨H2,I2,q2⟩=>?_)
 cases b with
 | true=>
   obtain⟨N,hN,q2⟩:=q2;rw[if_pos rfl];refine wpAny_passesOwn hp (thn (hb pins s2 σ1 H2 _ I2 q2) fun f s3 q3=>?_)
   cases f with
   | next=>
     obtain⟨σ3,H3,I3,n3⟩:=q3;obtain⟨m',hm,w3⟩:=hN σ3 H3 n3
     exact⟨m',hm,σ3,H3,I3,w3⟩
   | cont=>
     obtain⟨σ3,H3,I3,n3⟩:=q3;obtain⟨m',hm,w3⟩:=hN σ3 H3 n3
     exact⟨m',hm,σ3,H3,I3,w3⟩
   | brk=>exact q3
   | ret v=>exact q3
 | false=>
   rw[if_neg Bool.false_ne_true];exact wpAny_execs_nil ⟨σ1,H2,I2,q2⟩
end
structure It where
 go:Nat->Hp->Prop
 yld:Nat->Hp->V->Hp->Prop
 stop:Nat->Hp->Prop
def m8(X:Cx)(pins:List (Addr × Obj))(H:Hp)(b:Addr):Prop:=
 H b=none/\b ≠ X.env.locals/\b ∉ X.fs/\(b ∈ X.ex\/X.s₀.heap.objs.size<=b)/\(∀ x c,X.env.cells.lookup x=some c->c ≠ b)/\∀ p ∈ X.pn++pins,p.1 ≠ b
theorem Inv.Ib{X:Cx}{pins:List (Addr × Obj)}{σ:St}{H H':Hp}{s:Shared}{b:Addr}(I:Inv X pins σ H s)(hb:s.heap.objs.size<=b)(hn:H' b=none):m8 X pins H' b:=by
 refine⟨hn,Nat.ne_of_gt (aY I.lt hb),I.abP hb,.inr (Nat.le_trans I.sz hb),fun x c e z=>?_,fun p hp z=>?_⟩
 · obtain⟨v,q⟩:=I.cell x c e;exact absurd (aY q.lt (by rw[z];exact hb)) (Nat.lt_irrefl _)
 · exact absurd (aY (Heap.lt_size (I.pin p hp).1) (by rw[z];exact hb)) (Nat.lt_irrefl _)
structure Turn (P:Program)(w:World)(K:aq)(tg:Expr)(J:It)(fp:List Addr)(it:Addr)(tn:Nat->Heap->Prop):Prop where
 mem:it ∈ fp
 obj:∀ i h,tn i h->∀ b ∈ fp,∃ o,h.get? b=some o/\∀ v,o.data ≠ .cell v
 keep:∀ i h h',tn i h->(∀ b ∈ fp,∀ o,h.get? b=some o->h'.get? b=some o)->tn i h'
 item:∀(X:Cx),X.prog=P->X.w=w->X.K=K->X.calm=true->∀(i:Nat) (pins:List (Addr × Obj)) (s:Shared) (σ:St) (H:Hp) (E:Value->Shared->Prop),Inv X pins σ H s->(∀ b ∈ fp,m8 X pins H b)->tn i s.heap->J.go i H->
  wpAny (model P w) X.A (pyNext (.ref it)) (fun r s1=>∃ u,r=some u/\
   wpAny (model P w) X.A (letOwnedTupleGo tg (.ref it) u) (fun _ s2=>∃ x H',Inv X pins σ H' s2/\RelV x u/\J.yld i H x H'/\tn (i+1) s2.heap/\∀ b ∈ fp,H' b=none) E s1) E s
 done:∀(X:Cx),X.prog=P->X.w=w->X.K=K->X.calm=true->∀(i:Nat) (pins:List (Addr × Obj)) (s:Shared) (σ:St) (H:Hp) (E:Value->Shared->Prop),Inv X pins σ H s->(∀ b ∈ fp,m8 X pins H b)->tn i s.heap->J.stop i H->
  wpAny (model P w) X.A (pyNext (.ref it)) (fun r s1=>r=none/\Inv X pins σ H s1) E s
 self:∀(A:Around) (i:Nat) (s:Shared) (Q:Value->Shared->Prop) (E:Value->Shared->Prop),tn i s.heap->Q (.ref it) s->wpAny (model P w) A (pyIter (.ref it)) Q E s
abbrev TI:=St->Hp->(It->Hp->Prop)->Prop
def PIE(X:Cx)(pins:List (Addr × Obj))(σ:St)(tg:Expr)(R:It->Hp->Prop)(itv:Value)(s2:Shared):Prop:=
 ∃(it:Addr) (fp:List Addr) (tn:Nat->Heap->Prop) (J:It) (H':Hp),itv= .ref it/\Inv X pins σ H' s2/\Turn X.prog X.w X.K tg J fp it tn/\tn 0 s2.heap/\(∀ b ∈ fp,m8 X pins H' b)/\R J H'
def PI(X:Cx)(tg iter:Expr)(wi:TI):Prop:=
 ∀(pins:List (Addr × Obj)) (s:Shared) (σ:St) (H:Hp) (R:It->Hp->Prop),Inv X pins σ H s->wi σ H R->
  wpAny (model X.prog X.w) X.A (eval iter X.env) (fun v s1=>wpAny (model X.prog X.w) X.A (pyIter v) (PIE X pins σ tg R) X.xe s1) X.xe s
theorem Ln{M:Model}{A:Around}{E:Value->Shared->Prop}{s:Shared}{tg:Expr}{it:Addr}{u:Value}{o:Obj}{n:String}{vs:Array Value}{Q:Unit->Shared->Prop}(ho:s.heap.get? it=some o)(hc:o.cls= .type n)(hd:o.data= .fields vs)
 (hn:["enumerate","zip","dict_itemiterator","dict_reverseitemiterator","odict_iterator","itertools.zip_longest","itertools.pairwise"].contains n=false) (hQ:Q () s):wpAny M A (letOwnedTupleGo tg (.ref it) u) Q E s:=by
 unfold letOwnedTupleGo
 cases tg <;> first
  | exact wpAny_pure hQ
  | (cases u <;> first
      | exact wpAny_pure hQ
      | (refine wpAny_bind (wpAny_load ho ?_)
         rw[hc,hd];show wpAny M A (if(["enumerate","zip","dict_itemiterator","dict_reverseitemiterator","odict_iterator","itertools.zip_longest","itertools.pairwise"].contains n&&vs[0]? == some (rawInt _))=true then _ else _) Q E s;rw[if_neg (by intro h;rw[hn,Bool.false_and]at h;cases h)]
         exact wpAny_pure hQ))
def Itl(K:aq)(a:Addr):It:=
 ⟨fun i H=>∃ xs x,SqL K H a xs/\xs[i]? =some x,fun i H x H'=>H'=H/\∀ xs,SqL K H a xs->xs[i]? =some x,fun i H=>∃ xs,SqL K H a xs/\xs.length<=i⟩
def Itt(K:aq)(a:Addr):It:=
 ⟨fun i H=>∃ xs x,SqT K H a xs/\xs[i]? =some x,fun i H x H'=>H'=H/\∀ xs,SqT K H a xs->xs[i]? =some x,fun i H=>∃ xs,SqT K H a xs/\xs.length<=i⟩
def Itr(lo:Int)(n:Nat):It:=⟨fun i _=>i<n,fun i H x H'=>H'=H/\x= .int (lo+i),fun i _=>n<=i⟩
theorem Vj{P:Program}{w:World}{K:aq}{tg:Expr}(a it:Addr):Turn P w K tg (Itl K a) [it] it (fun i h=>h.IsListIter it a i) where
 mem:=by simp
 obj:=fun i h st b hb=>by
  have e:b=it:=by simpa using hb
  subst e;obtain⟨o,e,c,d⟩:=st;exact⟨o,e,fun v z=>by rw[d]at z;cases z⟩
 keep:=fun i h h' st k=>st.at fun o e=>k it (by simp) o e
 item:=by
  intro X hP hw hK hc i pins s σ H E I hf st hg;subst hP hw hK;obtain⟨xs,x,hq,hx⟩:=hg;obtain⟨its,rv,p,hz⟩:=I.list hq;obtain⟨u,hu,ru⟩:=rv.get hx;obtain⟨f0,f1,f2,f3,f4,f5⟩:=hf it (by simp);refine wpAny_pyNext_list_item st p.isList (x:=u) (by simpa using hu) fun h' st' sb=>?_;have I1:Inv X pins σ H { s with heap:=h' }:=I.turned (t':=s.toks) (fun b o hb e=>(sb.2 b hb).trans e) f0 f1 f3 f4 f5;obtain⟨o,e,c,d⟩:=id st';exact⟨u,rfl,Ln (s:={ s with heap:=h' }) e c d (by decide) ⟨x,H,I1,ru,⟨rfl,fun ys hy=>by rw[I.yG hy hq];exact hx⟩,st',fun b hb=>(hf b hb).1⟩⟩
 done:=by
  intro X hP hw hK hc i pins s σ H E I hf st hg;subst hP hw hK;obtain⟨xs,hq,hx⟩:=hg;obtain⟨its,rv,p,hz⟩:=I.list hq;obtain⟨f0,f1,f2,f3,f4,f5⟩:=hf it (by simp);have hl:=rv.length;exact wpAny_pyNext_list_end (I.ok.hd hc) st p.isList (by simp;omega) fun h' eb=>⟨rfl,I.turned (t':=s.toks) (fun b o hb e=>eb b o hb e) f0 f1 f3 f4 f5⟩
 self:=fun _ _ _ _ _ st h=>wpAny_pyIter_listiter st h
theorem R3{P:Program}{w:World}{K:aq}{tg:Expr}(a it:Addr):Turn P w K tg (Itt K a) [it] it (fun i h=>h.IsTupleIter it a i) where
 mem:=by simp
 obj:=fun i h st b hb=>by
  have e:b=it:=by simpa using hb
  subst e;obtain⟨o,e,c,d⟩:=st;exact⟨o,e,fun v z=>by rw[d]at z;cases z⟩
 keep:=fun i h h' st k=>st.at fun o e=>k it (by simp) o e
 item:=by
  intro X hP hw hK hc i pins s σ H E I hf st hg;subst hP hw hK;obtain⟨xs,x,hq,hx⟩:=hg;obtain⟨its,rv,p,hz⟩:=I.tuple hq;obtain⟨u,hu,ru⟩:=rv.get hx;obtain⟨f0,f1,f2,f3,f4,f5⟩:=hf it (by simp);refine wpAny_pyNext_tuple_item st (show s.heap.IsTuple a its.toArray from p) (x:=u) (by simpa using hu) fun h' st' sb=>?_;have I1:Inv X pins σ H { s with heap:=h' }:=I.turned (t':=s.toks) (fun b o hb e=>(sb.2 b hb).trans e) f0 f1 f3 f4 f5;obtain⟨o,e,c,d⟩:=id st';exact⟨u,rfl,Ln (s:={ s with heap:=h' }) e c d (by decide) ⟨x,H,I1,ru,⟨rfl,fun ys hy=>by rw[I.Vh hy hq];exact hx⟩,st',fun b hb=>(hf b hb).1⟩⟩
 done:=by
  intro X hP hw hK hc i pins s σ H E I hf st hg;subst hP hw hK;obtain⟨xs,hq,hx⟩:=hg;obtain⟨its,rv,p,hz⟩:=I.tuple hq;obtain⟨f0,f1,f2,f3,f4,f5⟩:=hf it (by simp);have hl:=rv.length;exact wpAny_pyNext_tuple_end (I.ok.hd hc) st (show s.heap.IsTuple a its.toArray from p) (by simp;omega) fun h' eb=>⟨rfl,I.turned (t':=s.toks) (fun b o hb e=>eb b o hb e) f0 f1 f3 f4 f5⟩
 self:=fun _ _ _ _ _ st h=>wpAny_pyIter_tupleiter st h
theorem R4{P:Program}{w:World}{K:aq}{tg:Expr}(it:Addr)(lo:Int)(n:Nat):Turn P w K tg (Itr lo n) [it] it (fun i h=>IsRangeIter h it (lo+(i:Nat)*1) ((n:Int) - (i:Nat)) 1) where
 mem:=by simp
 obj:=fun i h st b hb=>by
  have e:b=it:=by simpa using hb
  subst e
  exact⟨_,st,fun v z=>by
   have z':Data.fields _=Data.cell v:=z
   cases z'⟩
 keep:=fun i h h' st k=>k it (by simp) _ st
 item:=by
  intro X hP hw hK hc i pins s σ H E I hf st hg;subst hP hw hK;obtain⟨f0,f1,f2,f3,f4,f5⟩:=hf it (by simp);have W:=Walks.range (prog:=X.prog) (w:=X.w) (I.ok.hd hc) it lo 1 n;refine W.item i s _ _ hg st fun v h' tk hv st' kk=>?_;obtain⟨t,rfl⟩:=hv;have I1:Inv X pins σ H { s with heap:=h',toks:=tk }:=I.turned (fun b o hb e=>kk b o (by simpa using hb) e) f0 f1 f3 f4 f5;refine⟨_,rfl,Ln (s:={ s with heap:=h',toks:=tk }) (n:="range_iterator") st' rfl rfl (by decide) ⟨.int (lo+i),H,I1,⟨t,?_⟩,⟨rfl,rfl⟩,st',fun b hb=>(hf b hb).1⟩⟩;rw[Int.mul_one]
 done:=by
  intro X hP hw hK hc i pins s σ H E I hf st hg;subst hP hw hK;obtain⟨f0,f1,f2,f3,f4,f5⟩:=hf it (by simp);exact wpAny_pyNext_range_end (I.ok.hd hc) st (by have:n<=i:=hg;omega) fun h' eb=>⟨rfl,I.turned (t':=s.toks) (fun b o hb e=>eb b o hb e) f0 f1 f3 f4 f5⟩
 self:=fun _ _ _ _ _ st h=>wpAny_pyIter_rangeiter st h
section
variable{X:Cx}{tg:Expr}
def R5(K:aq)(tl:TE):TI:=fun σ H R=>tl σ H fun x H1=>∃ a,x= .ref a/\(∃ xs,SqL K H1 a xs)/\R (Itl K a) H1
def XN(K:aq)(tl:TE):TI:=fun σ H R=>tl σ H fun x H1=>∃ a,x= .ref a/\(∃ xs,SqT K H1 a xs)/\R (Itt K a) H1
theorem rQ{l:Expr}{tl:TE}(hl:PE X l tl):PI X tg l (R5 X.K tl):=by
 intro pins s σ H R I h;refine thn (hl pins s σ H _ I h) fun v s1 ⟨x,H1,I1,r1,q1⟩=>?_;obtain⟨a,e,⟨xs,hq⟩,q⟩:=q1;subst e;cases r1;obtain⟨its,rv,p,hz⟩:=I1.list hq;refine wpAny_pyIter_list p.isList ?_;refine⟨s1.heap.objs.size,[s1.heap.objs.size],_,_,H1,rfl,I1.kept (t':=s1.toks) fun b o e=>Heap.get?_push_of_some _ e,Vj a _,⟨_,Heap.get?_push_size _ rfl,rfl,rfl⟩,fun b hb=>?_,q⟩;have e:b=s1.heap.objs.size:=by simpa using hb
 subst e;exact I1.Ib (az _) (I1.hok.fresh (az _))
theorem ab3{l:Expr}{tl:TE}(hl:PE X l tl):PI X tg l (XN X.K tl):=by
 intro pins s σ H R I h;refine thn (hl pins s σ H _ I h) fun v s1 ⟨x,H1,I1,r1,q1⟩=>?_;obtain⟨a,e,⟨xs,hq⟩,q⟩:=q1;subst e;cases r1;obtain⟨its,rv,p,hz⟩:=I1.tuple hq;refine wpAny_pyIter_tuple (show s1.heap.IsTuple a its.toArray from p) ?_;refine⟨s1.heap.objs.size,[s1.heap.objs.size],_,_,H1,rfl,I1.kept (t':=s1.toks) fun b o e=>Heap.get?_push_of_some _ e,R3 a _,⟨_,Heap.get?_push_size _ rfl,rfl,rfl⟩,fun b hb=>?_,q⟩;have e:b=s1.heap.objs.size:=by simpa using hb
 subst e;exact I1.Ib (az _) (I1.hok.fresh (az _))
theorem Mw{pins:List (Addr × Obj)}{σ:St}{H:Hp}{s:Shared}{R:It->Hp->Prop}{E:Value->Shared->Prop}{lo hi:Int}{t u v:Tok}{tk:Nat}(I:Inv X pins σ H s)(h1: -(2 ^ 62)<=lo)(h2:lo<2 ^ 62)(h3: -(2 ^ 62)<=hi)(h4:hi<2 ^ 62)
 (q:R (Itr lo (hi - lo).toNat) H):wpAny (model X.prog X.w) X.A (pyIter (.ref s.heap.objs.size)) (PIE X pins σ tg R) E { s with heap:=s.heap.push { cls:=.type "range",data:=.fields #[.int lo t,.int hi u,.int 1 v] },toks:=tk }:=by
 refine wpAny_pyIter_range (IsRange.new ..) (small_one h1 h2 h3 h4) ?_;have I1:Inv X pins σ H { s with heap:=s.heap.push { cls:=.type "range",data:=.fields #[.int lo t,.int hi u,.int 1 v] },toks:=tk }:=I.kept fun b o e=>Heap.get?_push_of_some _ e
 refine⟨(s.heap.push { cls:=.type "range",data:=.fields #[.int lo t,.int hi u,.int 1 v] }).objs.size,[(s.heap.push { cls:=.type "range",data:=.fields #[.int lo t,.int hi u,.int 1 v] }).objs.size],_,_,H,rfl,
  I1.kept (t':=tk) fun b o e=>Heap.get?_push_of_some _ e,R4 _ lo (hi - lo).toNat,?_,fun b hb=>?_,q⟩
 · have e1:lo+((0:Nat):Int)*1=lo:=by simp
   have e2:(((hi - lo).toNat:Nat):Int) - ((0:Nat):Int)=Builtin.Range.rangeSize lo hi 1:=by rw[rangeSize_one];split <;> omega
   show IsRangeIter _ _ (lo+((0:Nat):Int)*1) ((((hi - lo).toNat:Nat):Int) - ((0:Nat):Int)) 1;rw[e1,e2];exact Heap.get?_push_size _ rfl
 · have e:b=(s.heap.push { cls:=.type "range",data:=.fields #[.int lo t,.int hi u,.int 1 v] }).objs.size:=by simpa using hb
   subst e;exact I1.Ib (az _) (I1.hok.fresh (az _))
def ZL(ta:TA):TI:=fun σ H R=>ta σ H fun vs H1=>∃ j:Int,vs= [.int j]/\-(2 ^ 62)<=j/\j<2 ^ 62/\R (Itr 0 j.toNat) H1
def ZM(ta:TA):TI:=fun σ H R=>ta σ H fun vs H1=>∃ i j:Int,vs= [.int i,.int j]/\(-(2 ^ 62)<=i/\i<2 ^ 62/\-(2 ^ 62)<=j/\j<2 ^ 62)/\R (Itr i (j - i).toNat) H1
theorem bV{a:Expr}{ta:TA}{p pos:Pos}(hg:Gl X "range")(hm:X.mg "range" =none)(ha:PA X [a] ta)(hs:starEach [a] X.env= [(false,eval a X.env)]:=by rfl):PI X tg (.Call (.Name "range" p) [a] [] pos) (ZL ta):=by
 intro pins s σ H R I h;refine Call_ (qP I hg hm boot_range (PyProof.Rows.callWith_type1 (thn (ha pos pins s σ H _ I h) fun us s1 ⟨vs,H1,I1,r1,q1⟩=>?_) hs rfl));obtain⟨j,e,q1,q2,q⟩:=q1;subst e
 cases r1 with
 | cons r rr=>
   cases rr;obtain⟨t,rfl⟩:=r;exact call_range_1 (Mw I1 (by omega) (by omega) q1 q2 (by simpa using q))
theorem JR{a b:Expr}{ta:TA}{p pos:Pos}(hg:Gl X "range")(hm:X.mg "range" =none)(ha:PA X [a,b] ta)(hs:starEach [a,b] X.env= [(false,eval a X.env),(false,eval b X.env)]:=by rfl)(hs2:starEach [b] X.env= [(false,eval b X.env)]:=by rfl):
 PI X tg (.Call (.Name "range" p) [a,b] [] pos) (ZM ta):=by
 intro pins s σ H R I h;refine Call_ (qP I hg hm boot_range (PyProof.Rows.callWith_type1 (thn (ha pos pins s σ H _ I h) fun us s1 ⟨vs,H1,I1,r1,q1⟩=>?_) (by rw[hs,hs2]) (by rw[hs2];rfl)));obtain⟨i,j,e,⟨q1,q2,q3,q4⟩,q⟩:=q1;subst e
 cases r1 with
 | cons r rr=>
   cases rr with
   | cons r' rr=>
     cases rr;obtain⟨t,rfl⟩:=r;obtain⟨t',rfl⟩:=r';exact call_range_2 (Mw I1 q1 q2 q3 q4 q)
def ab4(wi:TI)(g:TG)(tb:TS):TS:=fun D σ H=>wi σ H fun J H1=>∃ W:Nat->Nat->St->Hp->Prop,(∃ m,W 0 m σ H1)/\∀ i m σ H,W i m σ H->
 (J.stop i H/\D.nx σ H)\/(J.go i H/\∃ N:St->Hp->Prop,(∀ σ' H',N σ' H'->∃ m',m'<m/\W (i+1) m' σ' H')/\∀ x H',J.yld i H x H'->g x σ H' fun σ2 H2=>tb { D with nx:=N,ct:=N,bk:=D.nx } σ2 H2)
def Ah(fp:List Addr)(h:Heap):List (Addr × Obj):=fp.filterMap fun b=>(h.get? b).map fun o=>(b,o)
theorem uF{fp:List Addr}{h:Heap}{b:Addr}{o:Obj}(hb:b ∈ fp)(e:h.get? b=some o):(b,o) ∈ Ah fp h:=List.mem_filterMap.mpr ⟨b,hb,by rw[e];rfl⟩
theorem Vk{fp:List Addr}{h:Heap}{p:Addr × Obj}(hp:p ∈ Ah fp h):p.1 ∈ fp/\h.get? p.1=some p.2:=by
 obtain⟨b,hb,e⟩:=List.mem_filterMap.mp hp
 cases q:h.get? b with
 | none=>rw[q]at e;cases e
 | some o=>
   rw[q]at e;have e':(b,o)=p:=Option.some.inj e;subst e';exact⟨hb,q⟩
theorem Inv.pinned{pins:List (Addr × Obj)}{σ:St}{H:Hp}{s:Shared}{fp:List Addr}(I:Inv X pins σ H s)(hf:∀ b ∈ fp,m8 X pins H b)(ho:∀ b ∈ fp,∃ o,s.heap.get? b=some o/\∀ v,o.data ≠ .cell v):Inv X (pins++Ah fp s.heap) σ H s:=
 I.Ia fun p hp=>(List.mem_append.mp hp).elim (fun z=>I.pin p (List.mem_append_right _ z)) fun z=>by
  obtain⟨hb,e⟩:=Vk z;obtain⟨f0,f1,f2,_⟩:=hf p.1 hb;obtain⟨o,e',d⟩:=ho p.1 hb;rw[e]at e';cases e';exact⟨e,f0,f1,f2,d⟩
theorem Inv.vo{pins pl:List (Addr × Obj)}{σ:St}{H:Hp}{s:Shared}(I:Inv X (pins++pl) σ H s):Inv X pins σ H s:=I.Ia fun p hp=>I.pin p (List.mem_append_right _ (List.mem_append_left _ hp))
theorem Ai{iter:Expr}{body:List Stmt}{wi:TI}{g:TG}{tb:TS}{pos:Pos}(hp:PassesOwn (model X.prog X.w) X.A X.env X.xe)(hc:X.calm=true)(hi:PI X tg iter wi)(hg:PG X tg g)(hb:PSs X body tb)
 (hs:∀ x,foldedSetIterable iter X.env x=pure x:=by intro _;rfl):PS X (.For tg iter body [] pos) (ab4 wi g tb):=by
 intro pins s σ H D I h;refine wpAny_For (thn (hi pins s σ H _ I h) fun v s1 h1=>thn h1 fun itv s2 h2=>?_) hs;obtain⟨it,fp,tn,J,H2,e,I2,T,st2,f2,W,⟨m0,w0⟩,turn⟩:=h2;subst e;have stat:∀ {H':Hp},(∀ b ∈ fp,H' b=none)->∀ b ∈ fp,m8 X pins H' b:=fun hn b hb=>⟨hn b hb,(f2 b hb).2⟩;refine codeAny_forLoop_any (fun n s'=>∃ i σ' H',Inv X pins σ' H' s'/\tn i s'.heap/\(∀ b ∈ fp,H' b=none)/\W i n σ' H') ?_ m0 ⟨0,σ,H2,I2,st2,fun b hb=>(f2 b hb).1,w0⟩;rintro n s3 ⟨i,σ3,H3,I3,st3,fr3,w3⟩
 rcases turn i n σ3 H3 w3 with ⟨stop,qn⟩ | ⟨go,N,hN,step⟩
 · refine wpAny_passesOwn hp (thn (T.done X rfl rfl rfl hc i pins s3 σ3 H3 X.xe I3 (stat fr3) st3 stop) fun r s4 ⟨hr,I4⟩=>?_);subst hr;exact wpAny_execs_nil ⟨σ3,H3,I4,qn⟩
 · refine wpAny_passesOwn hp (thn (T.item X rfl rfl rfl hc i pins s3 σ3 H3 X.xe I3 (stat fr3) st3 go) fun r s4 ⟨u,hr,h4⟩=>?_);subst hr;refine wpAny_passesOwn hp (thn h4 fun _ s5 ⟨x,H5,I5,r5,y5,st5,fr5⟩=>?_);have I5':=I5.pinned (stat fr5) (T.obj _ _ st5);refine wpAny_passesOwn hp (thn (hg _ s5 σ3 H5 x u _ I5' r5 (step x H5 y5)) fun _ s6 ⟨σ6,H6,I6,q6⟩=>?_);refine wpAny_passesOwn hp (thn (hb _ s6 σ6 H6 _ I6 q6) fun f s7 q7=>?_)
   have again:∀ {σ7:St} {H7:Hp},Inv X (pins++Ah fp s5.heap) σ7 H7 s7->N σ7 H7->∃ m,m<n/\∃ i σ' H',Inv X pins σ' H' s7/\tn i s7.heap/\(∀ b ∈ fp,H' b=none)/\W i m σ' H':=fun {σ7 H7} I7 n7=>by
    obtain⟨m',hm,w7⟩:=hN σ7 H7 n7;refine⟨m',hm,i+1,σ7,H7,I7.vo,T.keep _ _ _ st5 fun b hb o e=>(I7.pin (b,o) (List.mem_append_right _ (List.mem_append_right _ (uF hb e)))).1,fun b hb=>?_,w7⟩;obtain⟨o,e,d⟩:=T.obj _ _ st5 b hb;exact(I7.pin (b,o) (List.mem_append_right _ (List.mem_append_right _ (uF hb e)))).2.1
   cases f with
   | next=>obtain⟨σ7,H7,I7,n7⟩:=q7;exact again I7 n7
   | cont=>obtain⟨σ7,H7,I7,n7⟩:=q7;exact again I7 n7
   | brk=>obtain⟨σ7,H7,I7,q7⟩:=q7;exact⟨σ7,H7,I7.vo,q7⟩
   | ret v=>obtain⟨x7,σ7,H7,I7,r7,q7⟩:=q7;exact⟨x7,σ7,H7,I7.vo,r7,q7⟩
end
theorem yH{K:aq}{a:Addr}{xs:List V}{g:TG}{tb:TS}{D:Ends}{σ:St}{H:Hp}(Pv:Nat->St->Hp->Prop)(h0:Pv 0 σ H)(hl:∀ i σ H,i<=xs.length->Pv i σ H->SqL K H a xs)
 (hs:∀ i x σ H,xs[i]? =some x->Pv i σ H->g x σ H fun σ2 H2=>tb { D with nx:=Pv (i+1),ct:=Pv (i+1),bk:=D.nx } σ2 H2) (hd:∀ σ H,Pv xs.length σ H->D.nx σ H):
 ∃ W:Nat->Nat->St->Hp->Prop,(∃ m,W 0 m σ H)/\∀ i m σ H,W i m σ H->
   ((Itl K a).stop i H/\D.nx σ H)\/((Itl K a).go i H/\∃ N:St->Hp->Prop,(∀ σ' H',N σ' H'->∃ m',m'<m/\W (i+1) m' σ' H')/\∀ x H',(Itl K a).yld i H x H'->g x σ H' fun σ2 H2=>tb { D with nx:=N,ct:=N,bk:=D.nx } σ2 H2):=by
 refine⟨fun i m σ H=>m=xs.length - i/\i<=xs.length/\Pv i σ H,⟨xs.length,by simp,Nat.zero_le _,h0⟩,?_⟩;rintro i m σ H ⟨rfl,hi,p⟩;have q:=hl i σ H hi p
 by_cases hlt:i<xs.length
 · refine .inr ⟨⟨xs,xs[i],q,by simp[hlt]⟩,Pv (i+1),fun σ' H' p'=>⟨xs.length - (i+1),by omega,rfl,hlt,p'⟩,fun x H' y=>?_⟩;obtain⟨e,y⟩:=y;subst e;exact hs i x σ _ (y xs q) p
 · have e:i=xs.length:=by omega
   subst e;exact .inl ⟨⟨xs,q,az _⟩,hd σ H p⟩
abbrev R2:=V->V->Hp->VK->Prop
def OpR(X:Cx)(f:Value->Value->Sem Value)(r:R2):Prop:=
 ∀(pins:List (Addr × Obj)) (s:Shared) (σ:St) (H:Hp) (x y:V) (v u:Value) (Q:VK),Inv X pins σ H s->RelV x v->RelV y u->r x y H Q->
  wpAny (model X.prog X.w) X.A (f v u) (EP X pins σ Q) X.xe s
def UnR(X:Cx)(f:Value->Sem Value)(r:V->Hp->VK->Prop):Prop:=
 ∀(pins:List (Addr × Obj)) (s:Shared) (σ:St) (H:Hp) (x:V) (v:Value) (Q:VK),Inv X pins σ H s->RelV x v->r x H Q->
  wpAny (model X.prog X.w) X.A (f v) (EP X pins σ Q) X.xe s
def lV(X:Cx)(f:Value)(r:List V->Hp->VK->Prop):Prop:=
 ∀(pins:List (Addr × Obj)) (s:Shared) (σ:St) (H:Hp) (xs:List V) (us:List Value) (Q:VK),Inv X pins σ H s->Vals xs us->r xs H Q->
  wpAny (model X.prog X.w) X.A (call f us) (EP X pins σ Q) X.xe s
def afH(X:Cx)(r:V->Hp->(Bool->Hp->Prop)->Prop):Prop:=
 ∀(pins:List (Addr × Obj)) (s:Shared) (σ:St) (H:Hp) (x:V) (v:Value) (Q:Bool->Hp->Prop),Inv X pins σ H s->RelV x v->r x H Q->
  wpAny (model X.prog X.w) X.A (truthy v) (TP X pins σ Q) X.xe s
def tOp(r:R2)(ta tb:TE):TE:=fun σ H Q=>ta σ H fun x H1=>tb σ H1 fun y H2=>r x y H2 Q
def tUn(r:V->Hp->VK->Prop)(ta:TE):TE:=fun σ H Q=>ta σ H fun x H1=>r x H1 Q
def rI(C:Int->Int->Prop)(g:Int->Int->V):R2:=fun x y H Q=>∃ i j,x= .int i/\y= .int j/\C i j/\Q (g i j) H
def rI0(g:Int->Int->V):R2:=fun x y H Q=>∃ i j,x= .int i/\y= .int j/\Q (g i j) H
def rU(g:Int->V):V->Hp->VK->Prop:=fun x H Q=>∃ i,x= .int i/\Q (g i) H
section
variable{X:Cx}{a b c:Expr}{ta tb tc:TE}{pos:Pos}
theorem XQ(ha:PE X a ta)(hb:PE X b tb){pins:List (Addr × Obj)}{s:Shared}{σ:St}{H:Hp}{R:V->V->Hp->Prop}(I:Inv X pins σ H s)
 (h:ta σ H fun x H1=>tb σ H1 fun y H2=>R x y H2) {Q:Value->Shared->Prop} {f:Value->Value->Sem Value}
 (hf:∀ v u s2 x y H2,Inv X pins σ H2 s2->RelV x v->RelV y u->R x y H2->wpAny (model X.prog X.w) X.A (f v u) Q X.xe s2):
 wpAny (model X.prog X.w) X.A (eval a X.env) (fun v s₁=>wpAny (model X.prog X.w) X.A (eval b X.env) (fun u s₂=>wpAny (model X.prog X.w) X.A (f v u) Q X.xe s₂) X.xe s₁) X.xe s:=by
 refine thn (ha pins s σ H _ I h) fun v s1 ⟨x,H1,I1,r1,q1⟩=>?_;refine thn (hb pins s1 σ H1 _ I1 q1) fun u s2 ⟨y,H2,I2,r2,q2⟩=>?_;exact hf v u s2 x y H2 I2 r1 r2 q2
theorem fW{op:Operator}{r:R2}(ho:OpR X (binaryOp op) r)(ha:PE X a ta)(hb:PE X b tb):PE X (.BinOp a op b pos) (tOp r ta tb):=by
 intro pins s σ H Q I h;exact wpAny_BinOp (XQ ha hb I h fun v u s2 x y H2 I2 rx ry q=>ho pins s2 σ H2 x y v u Q I2 rx ry q)
theorem ZP{op:UnaryOp}{r:V->Hp->VK->Prop}(ho:UnR X (unaryOp op) r)(ha:PE X a ta):PE X (.UnaryOp op a pos) (tUn r ta):=by
 intro pins s σ H Q I h;exact UnaryOp_ (thn (ha pins s σ H _ I h) fun v s1 ⟨x,H1,I1,r1,q1⟩=>ho pins s1 σ H1 x v Q I1 r1 q1)
theorem opI{f:Value->Value->Sem Value}{C:Int->Int->Prop}{g:Int->Int->Int}
 (rule:∀(i j:Int) (t u:Tok) (s:Shared) (Q:Value->Shared->Prop) (E:Value->Shared->Prop),C i j->Q (.int (g i j) s.toks) { s with toks:=s.toks+1 }->wpAny (model X.prog X.w) X.A (f (.int i t) (.int j u)) Q E s):
 OpR X f (rI C fun i j=>.int (g i j)):=by
 intro pins s σ H x y v u Q I rx ry h;obtain⟨i,j,rfl,rfl,hc,q⟩:=h;obtain⟨t,rfl⟩:=rx;obtain⟨t',rfl⟩:=ry;exact rule i j t t' s _ _ hc ⟨.int (g i j),H,I.tok _,⟨_,rfl⟩,q⟩
theorem ab5{f:Value->Value->Sem Value}{g:Int->Int->Int}
 (rule:∀(i j:Int) (t u:Tok) (s:Shared) (Q:Value->Shared->Prop) (E:Value->Shared->Prop),Q (.int (g i j) s.toks) { s with toks:=s.toks+1 }->wpAny (model X.prog X.w) X.A (f (.int i t) (.int j u)) Q E s):
 OpR X f (rI0 fun i j=>.int (g i j)):=by
 intro pins s σ H x y v u Q I rx ry h;obtain⟨i,j,rfl,rfl,q⟩:=h;obtain⟨t,rfl⟩:=rx;obtain⟨t',rfl⟩:=ry;exact rule i j t t' s _ _ ⟨.int (g i j),H,I.tok _,⟨_,rfl⟩,q⟩
theorem XR{f:Value->Value->Sem Value}{g:Int->Int->Bool}
 (rule:∀(i j:Int) (t u:Tok) (s:Shared) (Q:Value->Shared->Prop) (E:Value->Shared->Prop),Q (.bool (g i j)) s->wpAny (model X.prog X.w) X.A (f (.int i t) (.int j u)) Q E s):
 OpR X f (rI0 fun i j=>.bl (g i j)):=by
 intro pins s σ H x y v u Q I rx ry h;obtain⟨i,j,rfl,rfl,q⟩:=h;obtain⟨t,rfl⟩:=rx;obtain⟨t',rfl⟩:=ry;exact rule i j t t' s _ _ ⟨.bl (g i j),H,I,rfl,q⟩
def XS(i j:Int):Prop:=0<=j/\j<=1000000/\i.natAbs<2 ^ 64
def XX(i j:Int):Prop:=(-(2 ^ 64)<i/\i<2 ^ 64)\/(-(2 ^ 64)<j/\j<2 ^ 64)
theorem XX.ok{i j:Int}(h:XX i j):IntMulOk i j:=by
 rcases h with ⟨h1,h2⟩ | ⟨h1,h2⟩
 · exact .of_left (intBits_le_64 h1 h2)
 · exact .of_right (intBits_le_64 h1 h2)
theorem cG:OpR X (binaryOp .Add) (rI0 fun i j=>.int (i+j)):=ab5 fun _ _ _ _ _ _ _ q=>add_int q
theorem fX:OpR X (binaryOp .Sub) (rI0 fun i j=>.int (i - j)):=ab5 fun _ _ _ _ _ _ _ q=>sub_int q
theorem cH:OpR X (binaryOp .Mod) (rI (fun _ j=>0<j) fun i j=>.int (i % j)):=opI fun i j _ _ _ _ _ hc q=>by
 have h1:(0:Int)<j:=hc;exact mod_int' (by omega) (by rw[Int.fmod_eq_emod_of_nonneg i (by omega)];exact q)
theorem Vl:OpR X (binaryOp .Pow) (rI XS fun i j=>.int (i ^ j.toNat)):=opI fun _ _ _ _ _ _ _ hc q=>pow_int_small hc.1 hc.2.1 hc.2.2 q
theorem unI{f:Value->Sem Value}{g:Int->Int}
 (rule:∀(i:Int) (t:Tok) (s:Shared) (Q:Value->Shared->Prop) (E:Value->Shared->Prop),Q (.int (g i) s.toks) { s with toks:=s.toks+1 }->wpAny (model X.prog X.w) X.A (f (.int i t)) Q E s):
 UnR X f (rU fun i=>.int (g i)):=by
 intro pins s σ H x v Q I rx h;obtain⟨i,rfl,q⟩:=h;obtain⟨t,rfl⟩:=rx;exact rule i t s _ _ ⟨.int (g i),H,I.tok _,⟨_,rfl⟩,q⟩
theorem FT:UnR X (unaryOp .USub) (rU fun i=>.int (-i)):=unI fun _ _ _ _ _ q=>neg_int q
end
def ab6:V->V->Bool
 | .non,.non=>true | .non,.int _=>true | .int _,.non=>true | .non,.bl _=>true | .bl _,.non=>true | .non,.str _=>true | .str _,.non=>true
 | .int _,.int _=>true | .bl _,.bl _=>true | .str _,.str _=>true | .byt _,.byt _=>true
 | .int _,.str _=>true | .str _,.int _=>true | .bl _,.str _=>true | .str _,.bl _=>true
 | _,_=>false
def rEq:R2:=fun x y H Q=>ab6 x y=true/\Q (.bl (decide (x=y))) H
def rNe:R2:=fun x y H Q=>ab6 x y=true/\Q (.bl (!decide (x=y))) H
theorem Qy{i j:Int}:decide (V.int i=V.int j)=(i==j):=by
 rw[Bool.eq_iff_iff];simp
theorem Vm{i j:Bool}:decide (V.bl i=V.bl j)=(i==j):=by
 rw[Bool.eq_iff_iff];simp
theorem Qz{i j:Str}:decide (V.str i=V.str j)=(i==j):=by
 rw[Bool.eq_iff_iff];simp
theorem QB{i j:Array UInt8}:decide (V.byt i=V.byt j)=(i.toList==j.toList):=by
 rw[Bool.eq_iff_iff];cases i;cases j;simp
section
variable{X:Cx}{a b c:Expr}{ta tb tc:TE}{pos:Pos}
theorem b7{pins:List (Addr × Obj)}{σ:St}{H:Hp}{s:Shared}{Q:VK}{k k':Bool}(I:Inv X pins σ H s)(q:Q (.bl k) H)(e:k=k'):EP X pins σ Q (.bool k') s:=by
 subst e;exact⟨.bl k,H,I,rfl,q⟩
theorem aeC:OpR X (compareOp .Eq) rEq:=by
 intro pins s σ H x y v u Q I rx ry h;obtain⟨hs,q⟩:=h
 cases x with
 | non=>
   cases rx
   cases y with
   | non=>cases ry;exact PySem.EqNone.eq_none_none (b7 I q (by simp))
   | bl j=>cases ry;exact PySem.EqNone.eq_none_bool (b7 I q (by simp))
   | int j=>obtain⟨t',rfl⟩:=ry;exact PySem.EqNone.eq_none_int (b7 I q (by simp))
   | str j=>obtain⟨t',rfl⟩:=ry;exact PySem.EqNone.eq_none_str (b7 I q (by simp))
   | _=>exact absurd (show false=true from hs) Bool.false_ne_true
 | bl i=>
   cases rx
   cases y with
   | non=>cases ry;exact PySem.EqNone.eq_bool_none (b7 I q (by simp))
   | bl j=>cases ry;exact eq_bool (b7 I q Vm)
   | str j=>obtain⟨t',rfl⟩:=ry;exact PySem.EqMixed.eq_bool_str (b7 I q (by simp))
   | _=>exact absurd (show false=true from hs) Bool.false_ne_true
 | int i=>
   obtain⟨t,rfl⟩:=rx
   cases y with
   | non=>cases ry;exact PySem.EqNone.eq_int_none (b7 I q (by simp))
   | int j=>obtain⟨t',rfl⟩:=ry;exact eq_int (b7 I q Qy)
   | str j=>obtain⟨t',rfl⟩:=ry;exact PySem.EqMixed.eq_int_str (b7 I q (by simp))
   | _=>exact absurd (show false=true from hs) Bool.false_ne_true
 | str i=>
   obtain⟨t,rfl⟩:=rx
   cases y with
   | non=>cases ry;exact PySem.EqNone.eq_str_none (b7 I q (by simp))
   | bl j=>cases ry;exact PySem.EqMixed.eq_str_bool (b7 I q (by simp))
   | int j=>obtain⟨t',rfl⟩:=ry;exact PySem.EqMixed.eq_str_int (b7 I q (by simp))
   | str j=>obtain⟨t',rfl⟩:=ry;exact eq_str (b7 I q Qz)
   | _=>exact absurd (show false=true from hs) Bool.false_ne_true
 | byt i=>
   obtain⟨t,rfl⟩:=rx
   cases y with
   | byt j=>obtain⟨t',rfl⟩:=ry;exact PySem.W.eq_bytes (b7 I q QB)
   | _=>exact absurd (show false=true from hs) Bool.false_ne_true
 | _=>cases y <;> exact absurd (show false=true from hs) Bool.false_ne_true
theorem aeD:OpR X (compareOp .NotEq) rNe:=by
 intro pins s σ H x y v u Q I rx ry h;obtain⟨hs,q⟩:=h
 cases x with
 | non=>
   cases rx
   cases y with
   | non=>cases ry;exact PySem.EqNone.ne_none_none (b7 I q (by simp))
   | bl j=>cases ry;exact PySem.EqNone.ne_none_bool (b7 I q (by simp))
   | int j=>obtain⟨t',rfl⟩:=ry;exact PySem.EqNone.ne_none_int (b7 I q (by simp))
   | str j=>obtain⟨t',rfl⟩:=ry;exact PySem.EqNone.ne_none_str (b7 I q (by simp))
   | _=>exact absurd (show false=true from hs) Bool.false_ne_true
 | bl i=>
   cases rx
   cases y with
   | non=>cases ry;exact PySem.EqNone.ne_bool_none (b7 I q (by simp))
   | bl j=>cases ry;exact ne_bool (b7 I q (congrArg not Vm))
   | str j=>obtain⟨t',rfl⟩:=ry;exact PySem.EqMixed.ne_bool_str (b7 I q (by simp))
   | _=>exact absurd (show false=true from hs) Bool.false_ne_true
 | int i=>
   obtain⟨t,rfl⟩:=rx
   cases y with
   | non=>cases ry;exact PySem.EqNone.ne_int_none (b7 I q (by simp))
   | int j=>obtain⟨t',rfl⟩:=ry;exact ne_int (b7 I q (congrArg not Qy))
   | str j=>obtain⟨t',rfl⟩:=ry;exact PySem.EqMixed.ne_int_str (b7 I q (by simp))
   | _=>exact absurd (show false=true from hs) Bool.false_ne_true
 | str i=>
   obtain⟨t,rfl⟩:=rx
   cases y with
   | non=>cases ry;exact PySem.EqNone.ne_str_none (b7 I q (by simp))
   | bl j=>cases ry;exact PySem.EqMixed.ne_str_bool (b7 I q (by simp))
   | int j=>obtain⟨t',rfl⟩:=ry;exact PySem.EqMixed.ne_str_int (b7 I q (by simp))
   | str j=>obtain⟨t',rfl⟩:=ry;exact ne_str (b7 I q (congrArg not Qz))
   | _=>exact absurd (show false=true from hs) Bool.false_ne_true
 | byt i=>
   obtain⟨t,rfl⟩:=rx
   cases y with
   | byt j=>obtain⟨t',rfl⟩:=ry;exact PySem.W.ne_bytes (b7 I q (congrArg not QB))
   | _=>exact absurd (show false=true from hs) Bool.false_ne_true
 | _=>cases y <;> exact absurd (show false=true from hs) Bool.false_ne_true
theorem FW:OpR X (compareOp .Lt) (rI0 fun i j=>.bl (decide (i<j))):=XR fun _ _ _ _ _ _ _ q=>lt_int q
theorem R6:OpR X (compareOp .Gt) (rI0 fun i j=>.bl (decide (j<i))):=XR fun _ _ _ _ _ _ _ q=>gt_int q
theorem wF:OpR X (compareOp .GtE) (rI0 fun i j=>.bl (decide (j<=i))):=XR fun _ _ _ _ _ _ _ q=>ge_int q
theorem OpR.or{f:Value->Value->Sem Value}{r r':R2}(h:OpR X f r)(h':OpR X f r'):OpR X f (fun x y H Q=>r x y H Q\/r' x y H Q):=by
 intro pins s σ H x y v u Q I rx ry q
 rcases q with q | q
 · exact h pins s σ H x y v u Q I rx ry q
 · exact h' pins s σ H x y v u Q I rx ry q
theorem aZ(b:Expr){op:CmpOp}(h:op ≠ .In:=by decide)(h2:op ≠ .NotIn:=by decide):behindInMarks op b=false:=by
 have e1:(op==CmpOp.In)=false:=by cases op <;> first | rfl | exact absurd rfl h
 have e2:(op==CmpOp.NotIn)=false:=by cases op <;> first | rfl | exact absurd rfl h2
 cases b <;> simp[behindInMarks,e1,e2]
theorem aaB{op:CmpOp}{r:R2}(ho:OpR X (compareOp op) r)(ha:PE X a ta)(hb:PE X b tb)(hm:behindInMarks op b=false):PE X (.Compare a [op] [b] pos) (tOp r ta tb):=by
 intro pins s σ H Q I h;exact wpAny_Compare1 (XQ ha hb I h fun v u s2 x y H2 I2 rx ry q=>ho pins s2 σ H2 x y v u Q I2 rx ry q) hm
def aeE(t:TE):TT:=fun σ H Q=>t σ H fun x H'=>∃ k,x= .bl k/\Q k H'
theorem rR{op:CmpOp}{r:R2}(ho:OpR X (compareOp op) r)(ha:PE X a ta)(hb:PE X b tb)(hm:behindInMarks op b=false):PT X (.Compare a [op] [b] pos) (aeE (tOp r ta tb)):=by
 intro pins s σ H Q I h
 refine wpAny_isTrue_Compare1 (thn (ha pins s σ H _ I h) fun v s1 ⟨x,H1,I1,r1,q1⟩=>thn (hb pins s1 σ H1 _ I1 q1) fun u s2 ⟨y,H2,I2,r2,q2⟩=>
  thn (ho pins s2 σ H2 x y v u _ I2 r1 r2 q2) fun c s3 ⟨z,H3,I3,r3,k,e,q3⟩=>?_) hm
 subst e;cases r3;exact wpAny_truthy_bool ⟨H3,I3,q3⟩
def R7(K:aq)(x:V)(H:Hp)(k:Bool):Prop:=
 match x with
 | .non=>k=false
 | .bl b=>k=b
 | .int i=>k=(i != 0)
 | .str y=>y.length<=sizeLine/\k=((y.length:Int) != 0)
 | .byt y=>y.size<=sizeLine/\k=((y.size:Int) != 0)
 | .ref p=>(∃ xs,SqL K H p xs/\k= !xs.isEmpty)\/(∃ xs,SqT K H p xs/\k= !xs.isEmpty)\/∃ kvs,H p=some (.dK kvs)/\k= !kvs.isEmpty
 | _=>False
theorem R8{κ:Type}{kvs:List (κ × V)}{vs:List (κ × Value)}(r:KV kvs vs):(!vs.isEmpty)= !kvs.isEmpty:=by
 cases r <;> rfl
theorem FZ{xs:List V}{its:List Value}(r:Vals xs its):(!its.toArray.isEmpty)= !xs.isEmpty:=by
 cases r <;> simp
theorem Aj:(sizeLine:Nat)<2 ^ 63:=by rw[sizeLine_eq];decide
theorem ab7:afH X (fun x H Q=>∃ k,R7 X.K x H k/\Q k H):=by
 intro pins s σ H x v Q I rx h;obtain⟨k,e,q⟩:=h;have hl:=Aj;have hs:sizeLine=16777216:=sizeLine_eq
 cases x with
 | non=>
   cases rx;have e':k=false:=e;subst e'
   exact truthy_none ⟨H,I,q⟩
 | bl b=>
   cases rx;have e':k=b:=e;subst e'
   exact wpAny_truthy_bool ⟨H,I,q⟩
 | int i=>
   obtain⟨t,rfl⟩:=rx;have e':k=(i != 0):=e;subst e'
   exact PySem.P.truthy_int ⟨H,I,q⟩
 | str y=>
   obtain⟨t,rfl⟩:=rx;obtain⟨hy,e'⟩:y.length<=sizeLine/\k=((y.length:Int) != 0):=e;subst e'
   exact PySem.P.truthy_str (by omega) ⟨H,I.tok _,q⟩
 | byt y=>
   obtain⟨t,rfl⟩:=rx;obtain⟨hy,e'⟩:y.size<=sizeLine/\k=((y.size:Int) != 0):=e;subst e'
   exact PySem.W.truthy_bytes (by omega) ⟨H,I.tok _,q⟩
 | ref p=>
   cases rx;have e':(∃ xs,SqL X.K H p xs/\k= !xs.isEmpty)\/(∃ xs,SqT X.K H p xs/\k= !xs.isEmpty)\/∃ kvs,H p=some (.dK kvs)/\k= !kvs.isEmpty:=e
   rcases e' with ⟨xs,hx,e'⟩ | ⟨xs,hx,e'⟩ | ⟨kvs,hx,e'⟩
   · subst e';obtain⟨its,r,pl,hz⟩:=I.list hx;have hlen:=r.length;exact wpAny_truthy_list pl.isList (by simp only[List.size_toArray];omega) ⟨H,I.tok _,by rw[FZ r];exact q⟩
   · subst e';obtain⟨its,r,pl,hz⟩:=I.tuple hx;have hlen:=r.length;exact truthy_tuple pl (by simp only[List.size_toArray];omega) ⟨H,I.tok _,by rw[FZ r];exact q⟩
   · subst e';obtain⟨hz,hS,vs,r,m⟩:kvs.length<=sizeLine/\(p==sysModules)=false/\∃ vs,KV kvs vs/\s.heap.DictOf (iH X.prog X.w) p vs:=I.hok p _ hx;have hlen:kvs.length=vs.length:=Paired.length r
     exact wpAny_truthy_dict hS m (by omega) ⟨H,I.tok _,by rw[R8 r];exact q⟩
 | _=>exact(show False from e).elim
theorem Mx(ha:PE X a ta)(he:∀ whole,isTrue a X.env whole=(do let v <- whole;standAt a.pos;holding [v] (truthy v))):
 PT X a (fun σ H Q=>ta σ H fun x H'=>∃ k,R7 X.K x H' k/\Q k H'):=by
 intro pins s σ H Q I h;exact isTrue_plain (thn (ha pins s σ H _ I h) fun v s1 ⟨x,H1,I1,r1,q1⟩=>ab7 pins s1 σ H1 x v Q I1 r1 q1) (he _)
theorem vals1{x:V}{us:List Value}(r:Vals [x] us):∃ u,us= [u]/\RelV x u:=by
 cases r with
 | cons r1 r2=>cases r2;exact⟨_,rfl,r1⟩
theorem vals2{x y:V}{us:List Value}(r:Vals [x,y] us):∃ u w',us= [u,w']/\RelV x u/\RelV y w':=by
 cases r with
 | cons r1 r2=>
   cases r2 with
   | cons r3 r4=>cases r4;exact⟨_,_,rfl,r1,r3⟩
theorem X3:lV X (.builtin "abs") (fun xs H Q=>∃ i,xs= [.int i]/\Q (.int (if i<0 then -i else i)) H):=by
 intro pins s σ H xs us Q I r h;obtain⟨i,rfl,q⟩:=h;obtain⟨u,rfl,t,rfl⟩:=vals1 r;exact call_abs_int fun u tk=>⟨.int (if i<0 then -i else i),H,I.tok _,⟨_,rfl⟩,q⟩
theorem Vn(hc:X.calm=true):lV X (.builtin "min") (fun xs H Q=>∃ i j,xs= [.int i,.int j]/\Q (.int (if j<i then j else i)) H):=by
 intro pins s σ H xs us Q I r h;obtain⟨i,j,rfl,q⟩:=h;obtain⟨u,w',rfl,⟨t,rfl⟩,⟨t',rfl⟩⟩:=vals2 r;refine min_two_ints (I.ok.hd hc) fun h' tk k=>⟨_,H,I.kept k,?_,q⟩
 by_cases hj:j<i
 · rw[if_pos hj,if_pos hj];exact⟨_,rfl⟩
 · rw[if_neg hj,if_neg hj];exact⟨_,rfl⟩
end
structure Eg (h:Heap)(x dx C:Addr)(mA:Str->Option Value):Prop where
 obj:h.get? x=some (PySem.W.instObj C dx)
 ns:h.Ns1 dx mA
 ne:dx ≠ x
theorem Vo{h:Heap}{dx:Addr}{mA:Str->Option Value}(n:h.Ns1 dx mA):∃ od,h.get? dx=some od/\∀ name,PySem.W.lookIn name od=some (mA name):=by
 obtain⟨o,es,ep,ho,hd,hk,_,hm⟩:=n;refine⟨o,ho,fun name=>?_⟩;have e:=hm name;unfold nsFind findBy at e;rw[<- Array.find?_toList]at e;unfold PySem.W.lookIn;rw[hd];dsimp only
 split
 · rename_i y q;rw[q]at e;exact congrArg some e
 · rename_i q;rw[q]at e
   have a:es.toList.any (·.refKey)=false:=by
    rw[List.any_eq_false];intro y hy;obtain⟨z,t,hkey⟩:=hk y (Array.mem_toList_iff.mp hy);simp[DictEntry.refKey,hkey]
   have a':¬ es.toList.any (·.refKey)=true:=by rw[a];exact Bool.false_ne_true
   rw[if_neg a'];exact congrArg some e
theorem Eg.look{h:Heap}{x dx C:Addr}{mA:Str->Option Value}(I:Eg h x dx C mA):∃ od,PySem.W.InstAt h x (PySem.W.instObj C dx) C (some od)/\∀ name,PySem.W.lookIn name od=some (mA name):=
 let ⟨od,ho,hl⟩:=Vo I.ns
 ⟨od,⟨I.obj,rfl,rfl,ho⟩,hl⟩
section
variable{prog:Program}{w:World}{A:Around}{E:Value->Shared->Prop}{s:Shared}{K:aq}{x dx C f:Addr}{mA:Str->Option Value}{name:Str}{v:Value}
theorem get_map{expr:Bool}{Q:Value->Shared->Prop}(X:K.In s.heap)(I:Eg s.heap x dx C mA)(hg:PySem.W.plainGet K C name=true)(hh:PySem.W.hasDictIn K C=true)
 (ha:PySem.W.findIn K (.ref C) name=some none) (hv:mA name=some v) (hv':PySem.W.handedIn v=true) (h:Q v { s with toks:=s.toks+1 }):
 wpAny (model prog w) A (getAttr (.ref x) name expr) Q E s:=by
 obtain⟨od,J,hl⟩:=I.look;exact PySem.W.get_value X J (PySem.W.plainGet_of hg).1 (PySem.W.findObj_own hh ha rfl (by rw[hl,hv])) hv' h
theorem X4{pl:Sem Bool}{Q:Value × List Value->Shared->Prop}(X:K.In s.heap)(I:Eg s.heap x dx C mA)(hg:PySem.W.plainGet K C name=true)
 (hf:PySem.W.findIn K (.ref C) name=some (some (.ref f))) (ht:PySem.W.isFn K (.ref f)=true) (hv:mA name=none) (h:Q (.ref f,[.ref x]) s):
 wpAny (model prog w) A (getMethod (.ref x) name pl) Q E s:=by
 obtain⟨od,J,hl⟩:=I.look;exact PySem.W.method_fn X J (PySem.W.plainGet_of hg).1 (PySem.W.plainGet_of hg).2 hf (beq_iff_eq.mp ht) (by show(PySem.W.lookIn name od).map (·.isSome)=some false;rw[hl,hv];rfl) h
theorem aaC{ns:List Str}{Q:Unit->Shared->Prop}(X:K.In s.heap)(I:Eg s.heap x dx C mA)
 (hs:PySem.W.findIn K (.ref C) "__setattr__" =some (some (.builtin "object.__setattr__"))) (hp:PySem.W.plainOver K C=true) (ht:PySem.W.takerIn K C name=some none) (hh:PySem.W.hasDictIn K C=true)
 (hw:PySem.Within mA ns) (hsz:ns.length<=sizeLine)
 (h:∀ h',Eg h' x dx C (fun y=>if y=name then some v else mA y)->Heap.SameBut dx s.heap h'->Q () { s with heap:=h',toks:=s.toks+2 }):
 wpAny (model prog w) A (setAttr (.ref x) name v) Q E s:=by
 obtain⟨od,J,hl⟩:=I.look;refine PySem.W.set_plain X J hs (PySem.W.osa_open (s:={ s with toks:=s.toks+1 }) (r:=none) X J hp ht fun b=>?_);obtain⟨cd,hc,hd'⟩:=PySem.W.any_some hh;have hx:s.heap.get? x=some ⟨.ref C,some dx,.plain,#[]⟩:=I.obj;refine wpAny_bind (wpAny_pure (wpAny_bind (wpAny_bind (wpAny_loadPart hx (wpAny_bind (PySem.W.Looks.here (s:={ s with toks:=s.toks+1 }) (PySem.W.looks_clsIn X hc) ?_))))));rw[hd'];refine wpAny_pure (a:=some dx) (wpAny_bind (wpAny_pure (wpAny_bind ?_)));refine wpAny_nsSet1 (s:={ s with toks:=s.toks+1 }) I.ns fun h' hn2 hs2=>?_;obtain⟨oD,esD,epD,hoD,hdD,hcD⟩:=hn2.count (PySem.Within.cons name v hw);refine wpAny_bind (wpAny_lookBehind hoD (by rw[hdD];exact pastItsLine_dict (Nat.le_trans hcD (by rw[List.length_cons];omega))) ?_);exact wpAny_pure (h _ ⟨(hs2.2 _ (Ne.symm I.ne)).trans I.obj,hn2,I.ne⟩ hs2)
theorem X5{R:Result->Shared->Prop}{vs:List Value}{kw:List (Str × Value)}(X:K.In s.heap)(hm:PySem.W.makesIn K C=true)
 (hi:PySem.W.findIn K (.ref C) "__init__" =some (some (.ref f))) (hf:PySem.W.typeIn K (.ref f)=some (.type "function"))
 (h:codeAny (model prog w) (A.under (.builtin "type.__call__" ⟨.ref C::vs,kw⟩)) (.call (.ref f) ⟨.ref (s.heap.objs.size+1)::vs,kw⟩) (PySem.W.InitBack (s.heap.objs.size+1) R)
   { s with heap:=(s.heap.push PySem.W.emptyDict).push (PySem.W.instObj C s.heap.objs.size) }):
 codeAny (model prog w) A (.call (.ref C) ⟨vs,kw⟩) R s:=by
 obtain⟨hh,g,d,t,os⟩:=s;exact PySem.W.make_core (PySem.W.makes_of X hm) (PySem.W.looks_findIn X hi) (fun self=>PySem.W.bind_fn X self hf) (.inl rfl) h
end
def lW(f:Str)(v:V):List (Str × V)->List (Str × V)
 | []=>[(f,v)]
 | (g,x)::r=>if g=f then(g,v)::r else(g,x)::lW f v r
theorem DN(f g:Str)(v:V):∀ fs:List (Str × V),(lW f v fs).lookup g=if g=f then some v else fs.lookup g
 | []=>by
   show List.lookup g [(f,v)] =_
   by_cases h:g=f
   · have hb:(g==f)=true:=beq_iff_eq.mpr h;simp only[List.lookup,hb,if_pos h]
   · have hb:(g==f)=false:=beq_eq_false_iff_ne.mpr h
     simp only[List.lookup,hb,if_neg h]
 | (k,x)::r=>by
   have ih:=DN f g v r;rw[show lW f v ((k,x)::r)=(if k=f then(k,v)::r else(k,x)::lW f v r) from rfl]
   by_cases hk:k=f
   · rw[if_pos hk]
     by_cases h:g=k
     · have hb:(g==k)=true:=beq_iff_eq.mpr h;simp only[List.lookup,hb,if_pos (h.trans hk)]
     · have hb:(g==k)=false:=beq_eq_false_iff_ne.mpr h;simp only[List.lookup,hb,if_neg (fun e:g=f=>h (e.trans hk.symm))]
   · rw[if_neg hk]
     by_cases h:g=k
     · have hb:(g==k)=true:=beq_iff_eq.mpr h;simp only[List.lookup,hb,if_neg (fun e:g=f=>hk (h.symm.trans e))]
     · have hb:(g==k)=false:=beq_eq_false_iff_ne.mpr h;simp only[List.lookup,hb];exact ih
theorem Ak(f:Str)(v:V):∀ fs:List (Str × V),f ∈ (lW f v fs).map (·.1)/\∀ g,g ∈ fs.map (·.1)->g ∈ (lW f v fs).map (·.1)
 | []=>⟨by simp[lW],fun g h=>by simp at h⟩
 | (k,x)::r=>by
   obtain⟨i1,i2⟩:=Ak f v r;rw[show lW f v ((k,x)::r)=(if k=f then(k,v)::r else(k,x)::lW f v r) from rfl]
   by_cases hk:k=f
   · rw[if_pos hk];subst hk;exact⟨by simp,fun g h=>by simpa using h⟩
   · rw[if_neg hk];refine⟨?_,fun g h=>?_⟩
     · rw[List.map_cons];exact List.mem_cons_of_mem _ i1
     · rw[List.map_cons]at h ⊢
       rcases List.mem_cons.mp h with e | e
       · exact List.mem_cons.mpr (.inl e)
       · exact List.mem_cons_of_mem _ (i2 g e)
theorem DP(f:Str)(v:V):∀ fs:List (Str × V),(lW f v fs).length<=fs.length+1
 | []=>by simp[lW]
 | (k,x)::r=>by
   have ih:=DP f v r;rw[show lW f v ((k,x)::r)=(if k=f then(k,v)::r else(k,x)::lW f v r) from rfl]
   by_cases hk:k=f
   · rw[if_pos hk,List.length_cons,List.length_cons];omega
   · rw[if_neg hk,List.length_cons,List.length_cons];omega
theorem pq.some_of{v:V}{o:Option Value}(r:pq (some v) o):∃ u,o=some u/\RelV v u:=by
 cases o with
 | none=>exact(show False from r).elim
 | some u=>exact⟨u,rfl,r⟩
theorem pq.none_of{o:Option Value}(r:pq none o):o=none:=by
 cases o with
 | none=>rfl
 | some u=>exact(show False from r).elim
theorem Vp{v:V}{u:Value}(r:RelV v u):PySem.W.handedIn u=true:=by
 cases v with
 | non=>cases (show u=Value.none from r);rfl
 | bl b=>cases (show u=Value.bool b from r);rfl
 | int i=>obtain⟨t,e⟩:=(show ∃ t,u=Value.int i t from r);cases e;rfl
 | str x=>obtain⟨t,e⟩:=(show ∃ t,u=Value.str x t from r);cases e;rfl
 | byt b=>obtain⟨t,e⟩:=(show ∃ t,u=Value.bytes b t from r);cases e;rfl
 | flt b=>obtain⟨t,e⟩:=(show ∃ t,u=Value.float b t from r);cases e;rfl
 | ref a=>cases (show u=Value.ref a from r);rfl
 | ty n=>cases (show u=Value.type n from r);rfl
section
variable{P:Program}{w:World}{H H':Hp}{h h':Heap}{a C dx:Addr}{fs fs':List (Str × V)}
theorem Cj(hok:HOk P w H h)(e:H a=some (.ins C dx fs)):∃ mA,Eg h a dx C mA/\(∀ f,pq (fs.lookup f) (mA f))/\PySem.Within mA (fs.map (·.1))/\fs.length<=1000/\H dx=some (.own a):=by
 obtain⟨d,z,ne,ob,mA,n,r,q⟩:=(show b8 P w H h a (.ins C dx fs) from hok a _ e);exact⟨mA,⟨ob,n,ne⟩,r,q,z,d⟩
end
structure Cls (K:aq)(C:Addr):Prop where
 pg:PySem.W.plainGet K C Str.empty=true
 hd:PySem.W.hasDictIn K C=true
 po:PySem.W.plainOver K C=true
 sa:PySem.W.findIn K (.ref C) "__setattr__" =some (some (.builtin "object.__setattr__"))
theorem Cls.get{K:aq}{C:Addr}(c:Cls K C)(f:Str):PySem.W.plainGet K C f=true:=c.pg
def dO(K:aq)(C:Addr)(f:Str):Prop:=PySem.W.findIn K (.ref C) f=some none
theorem dO.taker{K:aq}{C:Addr}{f:Str}(n:dO K C f):PySem.W.takerIn K C f=some none:=by
 unfold PySem.W.takerIn;rw[show PySem.W.findIn K (.ref C) f=some none from n];rfl
structure Con (K:aq)(C:Addr)(f:Str)(v:V)(u:Value):Prop where
 at_:PySem.W.findIn K (.ref C) f=some (some u)
 rel:RelV v u
 get:PySem.W.specialIn K u "__get__" =some none
 cp:PySem.W.copiedNames.contains f=false
structure Meth (K:aq)(C:Addr)(m:Str)(f:Addr):Prop where
 at_:PySem.W.findIn K (.ref C) m=some (some (.ref f))
 fn:PySem.W.isFn K (.ref f)=true
 kp:PySem.W.keepIn K (.ref f)=true
section
variable{X:Cx}{pins:List (Addr × Obj)}{σ:St}{H:Hp}{s:Shared}{a C dx:Addr}{fs:List (Str × V)}{f:Str}{v:V}{A:Around}{E:Value->Shared->Prop}
theorem R9{b:Bool}{Q:Value->Shared->Prop}(I:Inv X pins σ H s)(e:H a=some (.ins C dx fs))(c:Cls X.K C)(n:dO X.K C f)(l:fs.lookup f=some v)
 (h:∀ u s',Inv X pins σ H s'->RelV v u->Q u s'):wpAny (model X.prog X.w) A (getAttr (.ref a) f b) Q E s:=by
 obtain⟨mA,O,r,_,_,_⟩:=Cj I.hok e;obtain⟨u,hu,ru⟩:=pq.some_of (v:=v) (o:=mA f) (by rw[<- l];exact r f);exact get_map I.kIn O (c.get f) c.hd n hu (Vp ru) (h u _ (I.tok _) ru)
theorem F_{m:Str}{g:Addr}{pl:Sem Bool}{Q:Value × List Value->Shared->Prop}(I:Inv X pins σ H s)(e:H a=some (.ins C dx fs))(c:Cls X.K C)(k:Meth X.K C m g)(l:fs.lookup m=none)
 (h:Q (.ref g,[.ref a]) s):wpAny (model X.prog X.w) A (getMethod (.ref a) m pl) Q E s:=by
 obtain⟨mA,O,r,_,_,_⟩:=Cj I.hok e;have hn:mA m=none:=pq.none_of (by rw[<- l];exact r m);exact X4 I.kIn O (c.get m) k.at_ k.fn hn h
theorem R_{y:V}{u:Value}{Q:Unit->Shared->Prop}(I:Inv X pins σ H s)(e:H a=some (.ins C dx fs))(c:Cls X.K C)(n:dO X.K C f)(hl:fs.length<1000)(ry:RelV y u)
 (h:∀ s',Inv X pins σ (upd H a (.ins C dx (lW f y fs))) s'->Q () s'):wpAny (model X.prog X.w) A (setAttr (.ref a) f u) Q E s:=by
 obtain⟨mA,O,r,wi,_,ho⟩:=Cj I.hok e;have hz:(fs.map (·.1)).length<=sizeLine:=by rw[List.length_map,sizeLine_eq];omega
 refine aaC I.kIn O c.sa c.po n.taker c.hd wi hz fun h' O' sb=>h _ ?_;have hd:∃ o,h'.get? dx=some o:=let ⟨o,_,_,e',_⟩:=O'.ns;⟨o,e'⟩;refine I.write (x:=a) (e:=dx) (by rw[e];exact True.intro) (.inr ho) (fun b q hb z=>(sb.2 b hb).trans z) hd ?_;refine⟨by rw[aN O.ne];exact ho,?_,O.ne,O'.obj,_,O'.ns,fun g=>?_,fun g hg=>?_⟩
 · have:=DP f y fs;omega
 · show pq ((lW f y fs).lookup g) (if g=f then some u else mA g);rw[DN]
   by_cases q:g=f
   · rw[if_pos q,if_pos q];exact ry
   · rw[if_neg q,if_neg q];exact r g
 · by_cases q:g=f
   · rw[q];exact(Ak f y fs).1
   · refine(Ak f y fs).2 g (wi g fun z=>hg ?_);show(if g=f then some u else mA g)=none;rw[if_neg q];exact z
theorem Inv.made(I:Inv X pins σ H s):Inv X pins σ (upd (upd H s.heap.objs.size (.own (s.heap.objs.size+1))) (s.heap.objs.size+1) (.ins C s.heap.objs.size []))
 { s with heap:=(s.heap.push PySem.W.emptyDict).push (PySem.W.instObj C s.heap.objs.size) }:=by
 have e1:(s.heap.push PySem.W.emptyDict).get? s.heap.objs.size=some PySem.W.emptyDict:=Heap.get?_push_size s.heap rfl
 have e2:((s.heap.push PySem.W.emptyDict).push (PySem.W.instObj C s.heap.objs.size)).get? (s.heap.objs.size+1)=some (PySem.W.instObj C s.heap.objs.size):=by
  have:=Heap.get?_push_size (s.heap.push PySem.W.emptyDict) (o:=PySem.W.instObj C s.heap.objs.size) rfl
  rwa[Heap.size_push]at this
 have e3:(s.heap.push PySem.W.emptyDict).Ns s.heap.objs.size (fun _=>none):=⟨PySem.W.emptyDict,#[],_,e1,rfl,(fun e he=>absurd he (by simp)),fun _=>rfl⟩;have I1:=I.laid (a:=s.heap.objs.size) (o:=.own (s.heap.objs.size+1)) (h':=s.heap.push PySem.W.emptyDict) (t':=s.toks) (fun b u q=>Heap.get?_push_of_some _ q) (az _) ⟨_,e1⟩;refine I1.laid (a:=s.heap.objs.size+1) (o:=.ins C s.heap.objs.size []) (t':=s.toks) (fun b u q=>Heap.get?_push_of_some _ q) (Nat.le_of_eq (Heap.size_push _ _)) ?_;have ne:s.heap.objs.size ≠ s.heap.objs.size+1:=Nat.ne_of_lt (Nat.lt_succ_self _);refine⟨by rw[aN ne,aG],Nat.zero_le _,ne,e2,fun _=>none,(Heap.Ns1.of_empty e3).at fun o q=>Heap.get?_push_of_some _ q,fun _=>True.intro,fun y hy=>absurd rfl hy⟩
theorem aaD{prog:Program}{w:World}{env:Env}{e:Expr}{f:Str}{pos:Pos}{s:Shared}{Q:Value->Shared->Prop}(hb:attributeBase e f env (eval e env)=eval e env)
 (h:wpAny (model prog w) A (eval e env) (fun o s₁=>wpAny (model prog w) A (getAttr o f true) Q E s₁) E s):wpAny (model prog w) A (eval (.Attribute e f pos) env) Q E s:=
 Attribute_any_ h (by rw[arm_eval_Attribute,hb])
end
def ab8(K:aq)(ta:TE)(f:Str):TE:=fun σ H Q=>ta σ H fun x H1=>∃ a C dx fs v,x= .ref a/\H1 a=some (.ins C dx fs)/\Cls K C/\dO K C f/\fs.lookup f=some v/\Q v H1
def afI(K:aq)(ta tv:TE)(f:Str):TS:=fun D σ H=>tv σ H fun y H1=>ta σ H1 fun x H2=>∃ a C dx fs,x= .ref a/\H2 a=some (.ins C dx fs)/\Cls K C/\dO K C f/\fs.length<1000/\
 D.nx σ (upd H2 a (.ins C dx (lW f y fs)))
section
variable{X:Cx}{o e value:Expr}{f:Str}{pos pos' tpos:Pos}{ta tv:TE}
theorem ab9(he:PE X e ta)(hb:attributeBase e f X.env (eval e X.env)=eval e X.env):PE X (.Attribute e f pos) (ab8 X.K ta f):=by
 intro pins s σ H Q I h;refine aaD hb (thn (he pins s σ H _ I h) fun u s1 ⟨x,H1,I1,rx,a,C,dx,fs,v,ex,ea,c,n,l,q⟩=>?_);subst ex;obtain rfl:u=Value.ref a:=rx;exact R9 I1 ea c n l fun u' s2 I2 ru=>⟨v,H1,I2,ru,q⟩
theorem ab_(ha:PE X o ta)(hv:PE X value tv)(hs:swapsWith value (some (.Attribute o f pos')) pos.line X.env=pure false):PS X (.Assign [.Attribute o f pos'] value pos) (afI X.K ta tv f):=by
 intro pins s σ H D I h;refine plainObj_wpAny_Assign_Attribute (thn (hv pins s σ H _ I h) fun u s1 ⟨y,H1,I1,ry,q⟩=>thn (ha pins s1 σ H1 _ I1 q) fun ov s2 ⟨x,H2,I2,rx,a,C,dx,fs,ex,ea,c,n,l,q2⟩=>?_) hs;subst ex;obtain rfl:ov=Value.ref a:=rx;exact R_ I2 ea c n l ry fun s3 I3=>⟨σ,_,I3,q2⟩
end
section
variable{X:Cx}{pins:List (Addr × Obj)}{σ:St}{H:Hp}{s:Shared}{A:Around}{E:Value->Shared->Prop}{Q:Value->Shared->Prop}{c:Value}{b:Bool}
inductive qR (K:aq)(H:Hp):V->Value->Prop where
 | non:qR K H .non (.type "NoneType")
 | bl (x:Bool):qR K H (.bl x) (.type "bool")
 | int (i:Int):qR K H (.int i) (.type "int")
 | str (x:Str):qR K H (.str x) (.type "str")
 | flt (x:UInt64):qR K H (.flt x) (.type "float")
 | lst {a:Addr} {xs:List V} (e:H a=some (.lst xs)):qR K H (.ref a) (.type "list")
 | frz {a:Addr} {o:Obj} {xs:List V} (e:H a=some (.frz o (.lst xs))):qR K H (.ref a) (.type "list")
 | tup {a:Addr} {xs:List V} (e:H a=some (.tup xs)):qR K H (.ref a) (.type "tuple")
 | dK {a:Addr} {kvs:List (Key × V)} (e:H a=some (.dK kvs)):qR K H (.ref a) (.type "dict")
 | dT {a:Addr} {kvs:List (List Key × V)} (e:H a=some (.dT kvs)):qR K H (.ref a) (.type "dict")
 | ins {a C dx:Addr} {fs:List (Str × V)} (e:H a=some (.ins C dx fs)) (cl:Cls K C) (ha:PySem.W.findIn K (.ref C) "__class__" =some (some (.builtin "object.__class__")))
    (hn:PySem.W.specialIn K (.builtin "object.__class__") "__get__" =some (some (.builtin "getset_descriptor.__get__"))) (htk:PySem.W.takesIn K (.builtin "object.__class__")=some true)
    (hm:PySem.W.mroIn K C (.type "object")=some true):qR K H (.ref a) (.ref C)
theorem Vq{x:V}{u t:Value}(I:Inv X pins σ H s)(rx:RelV x u)(ty:qR X.K H x t)(e:PySem.W.kitOne X.K t c=some b)(h:∀ tk,Q (.bool b) { s with toks:=tk }):
 wpAny (model X.prog X.w) A (call (.builtin "isinstance") [u,c]) Q E s:=by
 cases ty with
 | non=>cases (show u=Value.none from rx);exact PySem.W.kia_one PySem.W.kitx_none I.kIn True.intro e (fun z=>nomatch z) h
 | bl y=>cases (show u=Value.bool y from rx);exact PySem.W.kia_one PySem.W.kitx_bool I.kIn True.intro e (fun z=>nomatch z) h
 | int i=>obtain⟨t,q⟩:=(show ∃ t,u=Value.int i t from rx);cases q;exact PySem.W.kia_one PySem.W.kitx_int I.kIn True.intro e (fun z=>nomatch z) h
 | str y=>obtain⟨t,q⟩:=(show ∃ t,u=Value.str y t from rx);cases q;exact PySem.W.kia_one PySem.W.kitx_str I.kIn True.intro e (fun z=>nomatch z) h
 | flt y=>obtain⟨t,q⟩:=(show ∃ t,u=Value.float y t from rx);cases q;exact PySem.W.kia_one PySem.W.kitx_float I.kIn True.intro e (fun z=>nomatch z) h
 | @lst a xs ea=>
   cases (show u=Value.ref a from rx);obtain⟨_,_,n,_,h1⟩:=(show b8 X.prog X.w H s.heap a (.lst xs) from I.hok a _ ea)
   exact PySem.W.kia_one PySem.W.kitx_list I.kIn ⟨_,h1,rfl⟩ e (fun z=>nomatch z) h
 | @frz a ob xs ea=>
   cases (show u=Value.ref a from rx);obtain⟨_,_,_,n,_,h1⟩:=(show b8 X.prog X.w H s.heap a (.frz ob (.lst xs)) from I.hok a _ ea)
   exact PySem.W.kia_one PySem.W.kitx_list I.kIn ⟨_,h1,rfl⟩ e (fun z=>nomatch z) h
 | @tup a xs ea=>
   cases (show u=Value.ref a from rx);obtain⟨_,_,_,p⟩:=(show b8 X.prog X.w H s.heap a (.tup xs) from I.hok a _ ea);obtain⟨o,h1,h2,_⟩:=p
   exact PySem.W.kia_one PySem.W.kitx_tuple I.kIn ⟨o,h1,h2⟩ e (fun z=>nomatch z) h
 | @dK a kvs ea=>
   cases (show u=Value.ref a from rx);obtain⟨_,_,vs,_,p⟩:=(show b8 X.prog X.w H s.heap a (.dK kvs) from I.hok a _ ea);obtain⟨o,es,ep,h1,h2,_⟩:=p
   exact PySem.W.kia_one PySem.W.kitx_dict I.kIn ⟨o,h1,h2.1⟩ e (fun z=>nomatch z) h
 | @dT a kvs ea=>
   cases (show u=Value.ref a from rx);obtain⟨_,_,xs,_,o,es,ep,h1,h2,_⟩:=(show b8 X.prog X.w H s.heap a (.dT kvs) from I.hok a _ ea)
   exact PySem.W.kia_one PySem.W.kitx_dict I.kIn ⟨o,h1,h2.1⟩ e (fun z=>nomatch z) h
 | @ins a C dx fs ea cl ha hn htk hm=>
   cases (show u=Value.ref a from rx);obtain⟨mA,O,_⟩:=Cj I.hok ea;obtain⟨od,J,_⟩:=O.look;exact PySem.W.kia_one (PySem.W.kitx_own (cl.get _) cl.hd ha hn htk hm) I.kIn J e (fun z=>nomatch z) h
end
structure bZ (k:Nat)(A:Around):Prop where
 hd:A.handled=none
 dp:A.depth+3*k+5<recursionLimit
 un:A.units+16*k+200<cLine
theorem bZ.mono{j k:Nat}{A:Around}(r:bZ k A)(h:j<=k):bZ j A:=⟨r.hd,by have:=r.dp;omega,by have:=r.un;omega⟩
theorem bZ.deeper{k:Nat}{A:Around}(r:bZ (k+1) A)(env:Env):bZ k (A.deeper env):=
 ⟨r.hd,by have:=r.dp;show A.depth+1+3*k+5<_;omega,by have:=r.un;show A.units+3+16*k+200<_;omega⟩
theorem Sd{A:Around}{C:Addr}{us:List Value}{kw:List (Str × Value)}:(A.under (.builtin "type.__call__" ⟨.ref C::us,kw⟩)).depth=A.depth+1:=by
 first | rfl | simp[Around.under,Code.weight,Code.isCreation,Code.isGuard,Code.isCaller,Code.frames,Code.isFrame,guardIds]
theorem Sh{A:Around}{C:Addr}{us:List Value}{kw:List (Str × Value)}:(A.under (.builtin "type.__call__" ⟨.ref C::us,kw⟩)).units=A.units+1:=by
 first | rfl | simp[Around.under,Code.cUnits,Code.frames,Code.isFrame]
theorem bZ.make{k:Nat}{A:Around}(r:bZ (k+1) A)(C:Addr)(us:List Value)(kw:List (Str × Value)):bZ k (A.under (.builtin "type.__call__" ⟨.ref C::us,kw⟩)):=
 ⟨r.hd,by have:=r.dp;rw[Sd];omega,by have:=r.un;rw[Sh];omega⟩
theorem bZ.depth{k:Nat}{A:Around}(r:bZ k A):A.depth<recursionLimit:=by have:=r.dp;omega
theorem bZ.units{k:Nat}{A:Around}(r:bZ k A):A.units+64<cLine:=by have:=r.un;omega
theorem bZ.Ga{k:Nat}{A:Around}(r:bZ k A):A.units<cLine:=by have:=r.un;omega
def Sq:TA:=fun _ H Q=>Q [] H
def aeF(ta:TE)(tr:TA):TA:=fun σ H Q=>ta σ H fun x H1=>tr σ H1 fun xs H2=>Q (x::xs) H2
section
variable{X:Cx}{e:Expr}{es:List Expr}{te:TE}{t:TA}{pos:Pos}
theorem bG:PA X [] Sq:=fun _ _ _ _ H Q I h=>Calls.spliced_nil ⟨[],H,I,.nil,h⟩
theorem aU(ha:PE X e te)(hr:PA X es t)(hs:starEach (e::es) X.env=(false,eval e X.env)::starEach es X.env:=by rfl):PA X (e::es) (aeF te t):=by
 intro pos pins s σ H Q I h;rw[hs];show wpAny _ _ (spliced ((false,eval e X.env)::backTo pos (starEach es X.env))) _ _ s;refine Calls.spliced_cons (thn (ha pins s σ H _ I h) fun u s1 ⟨x,H1,I1,r1,q1⟩=>?_);exact thn (hr pos pins s1 σ H1 _ I1 q1) fun us s2 ⟨xs,H2,I2,r2,q2⟩=>⟨x::xs,H2,I2,.cons r1 r2,q2⟩
def afJ(t:TA):TE:=fun σ H Q=>t σ H fun xs H1=>xs.length<=sizeLine/\∀ p,H1 p=none->Q (.ref p) (upd H1 p (.tup xs))
def afK(t:TA):TE:=fun σ H Q=>t σ H fun xs H1=>xs.length<=sizeLine/\∀ p,H1 p=none->Q (.ref p) (upd H1 p (.lst xs))
theorem Gb{x1}(h:PA X es t):PE X (.Tuple es x1 pos) (afJ t):=by
 intro pins s σ H Q I hq;refine wpAny_Tuple_spliced (thn (h pos pins s σ H _ I hq) fun us s1 ⟨xs,H1,I1,r,z,q⟩=>⟨by rw[<- r.length];exact z,?_⟩);have hf:H1 s1.heap.objs.size=none:=I1.hok.fresh (az _);refine⟨.ref s1.heap.objs.size,upd H1 s1.heap.objs.size (.tup xs),I1.laid (t':=s1.toks) (fun b u e=>Heap.get?_push_of_some _ e) (az _) ?_,rfl,q _ hf⟩;exact⟨z,us,r,⟨_,Heap.get?_push_size _ rfl,rfl,_,rfl⟩⟩
theorem xX(h:PA X es t):PE X (.List es pos) (afK t):=by
 intro pins s σ H Q I hq;refine wpAny_List_spliced (thn (h pos pins s σ H _ I hq) fun us s1 ⟨xs,H1,I1,r,z,q⟩=>⟨by rw[<- r.length];exact z,?_⟩);have hf:H1 s1.heap.objs.size=none:=I1.hok.fresh (az _);refine⟨.ref s1.heap.objs.size,upd H1 s1.heap.objs.size (.lst xs),I1.laid (t':=s1.toks) (fun b u e=>Heap.get?_push_of_some _ e) (az _) ?_,rfl,q _ hf⟩;exact⟨z,us,0,r,Heap.get?_push_size _ rfl⟩
end
abbrev Sp:=List V->Hp->VK->XK->Prop
abbrev CXT:=List Env->Hp->Shared->XK->Value->Shared->Prop
structure Eh (P:Program)(w:World)(K:aq)(mg:Str->Option Value)(base:Heap)(A:Around)(outer:List Env)(s:Shared)(H:Hp):Prop where
 frames:A.frames=some outer
 mod:Mod K mg base
 bs:∀ b o,base.get? b=some o->s.heap.get? b=some o/\H b=none
 bsz:base.objs.size<=s.heap.objs.size
 ug:s.heap.FunFrames base outer
 frf:∀ b ∈ frs outer,H b=none
 hok:HOk P w H s.heap
 bare:AllBare s.gens
def CE(outer:List Env)(P:Program)(w:World)(H:Hp)(s:Shared)(Q:VK)(u:Value)(s':Shared):Prop:=
 ∃ v H',s'.os=s.os/\AllBare s'.gens/\Un (frs outer) [] H H' s.heap s'.heap/\HOk P w H' s'.heap/\RelV v u/\Q v H'
def CR(CX:CXT)(outer:List Env)(P:Program)(w:World)(H:Hp)(s:Shared)(Q:VK)(E:XK)(r:Result)(s':Shared):Prop:=
 match r with
 | .ok (.ret u)=>CE outer P w H s Q u s'
 | .ok _=>False
 | .error e=>CX outer H s E e s'
structure bH (P:Program)(w:World)(K:aq)(mg:Str->Option Value)(base:Heap)(CX:CXT)(k:Nat)(f:Addr)(fd:FuncData)(ps:List Str)(sp:Sp):Prop where
 len:∀ vs H Q E,sp vs H Q E->vs.length=ps.length
 run:∀(A:Around) (outer:List Env) (s:Shared) (H:Hp) (args:Args) (us:List Value) (vs:List V) (Q:VK) (E:XK),bZ k A->Eh P w K mg base A outer s H->BindsTo s fd args (ps.zip us)->Vals vs us->sp vs H Q E->
  codeAny (model P w) A (.call (.ref f) args) (CR CX outer P w H s Q E) s
theorem bH.mono{P:Program}{w:World}{K:aq}{mg:Str->Option Value}{base:Heap}{CX:CXT}{j k:Nat}{f:Addr}{fd:FuncData}{ps:List Str}{sp:Sp}(F:bH P w K mg base CX j f fd ps sp)(h:j<=k):
 bH P w K mg base CX k f fd ps sp:=⟨F.len,fun A outer s H args us vs Q E hr=>F.run A outer s H args us vs Q E (hr.mono h)⟩
theorem bH.imp{P:Program}{w:World}{K:aq}{mg:Str->Option Value}{base:Heap}{CX:CXT}{k:Nat}{f:Addr}{fd:FuncData}{ps:List Str}{sp sp':Sp}(F:bH P w K mg base CX k f fd ps sp)
 (h:∀ vs H Q E,sp' vs H Q E->sp vs H Q E):bH P w K mg base CX k f fd ps sp':=
 ⟨fun vs H Q E q=>F.len vs H Q E (h _ _ _ _ q),fun A outer s H args us vs Q E hr he hb hv hs=>F.run A outer s H args us vs Q E hr he hb hv (h _ _ _ _ hs)⟩
theorem Eh.make{P:Program}{w:World}{K:aq}{mg:Str->Option Value}{base:Heap}{A:Around}{outer:List Env}{s:Shared}{H:Hp}(e:Eh P w K mg base A outer s H)(C:Addr)(us:List Value)(kw:List (Str × Value)):
 Eh P w K mg base (A.under (.builtin "type.__call__" ⟨.ref C::us,kw⟩)) outer s H:=⟨by first | exact e.frames | (simpa [Around.under,Code.envs,Code.isFrame,pushEnvs] using e.frames),e.mod,e.bs,e.bsz,e.ug,e.frf,e.hok,e.bare⟩
section
variable{X:Cx}{pins:List (Addr × Obj)}{σ:St}{H:Hp}{s s':Shared}
theorem Inv.env0(I:Inv X pins σ H s):Eh X.prog X.w X.K X.mg X.base X.A X.stack s H:=
 ⟨I.ok.frames,I.ok.mod,I.bs,Nat.le_trans I.ok.bsz I.sz,I.stack,I.Cg,I.hok,I.bare⟩
theorem Inv.after{Q:VK}{u:Value}(I:Inv X pins σ H s)(h:CE X.stack X.prog X.w H s Q u s'):EP X pins σ Q u s':=by
 obtain⟨v,H',os,bare,un,hok,r,q⟩:=h;obtain⟨hh,g,d,t,os'⟩:=s';obtain rfl:os'=s.os:=os;exact⟨v,H',I.call (h':=hh) (g':=g) (d':=d) (t':=t) (ch:=[]) un hok bare (fun b z=>absurd z (by simp)),r,q⟩
end
def Ck(sp:Sp)(dvs:List V)(E:XK)(t:TA):TE:=fun σ H Q=>t σ H fun vs H1=>sp (vs++dvs) H1 Q E
def Ss(C:Addr)(m:Str)(sp:Sp)(dvs:List V)(E:XK)(ta:TE)(t:TA):TE:=fun σ H Q=>ta σ H fun x H1=>∃ a dx fs,x= .ref a/\H1 a=some (.ins C dx fs)/\fs.lookup m=none/\
 t σ H1 fun vs H2=>sp (x::(vs++dvs)) H2 Q E
def ZQ(C:Addr)(sp:Sp)(dvs:List V)(E:XK)(t:TA):TE:=fun σ H Q=>t σ H fun vs H1=>∀ x dx,H1 x=none->H1 dx=none->dx ≠ x->
 sp (.ref x::(vs++dvs)) (upd (upd H1 dx (.own x)) x (.ins C dx [])) (fun v H2=>v= .non/\Q (.ref x) H2) E
def Binds(K:aq)(fd:FuncData)(ps:List Str)(ds:List Value):Prop:=
 ∀(s:Shared) (us:List Value),K.In s.heap->(us++ds).length=ps.length->BindsTo s fd ⟨us,[]⟩ (ps.zip (us++ds))
theorem Binds.all{K:aq}{fd:FuncData}{ps:List Str}(h:∀ us:List Value,us.length=ps.length->bindArgs fd ⟨us,[]⟩ =pure (ps.zip us)):Binds K fd ps []:=fun s us _ hl=>by
 rw[List.append_nil]at hl ⊢;exact .of_eq (h us hl)
def Passes(CX:CXT)(X:Cx)(E:XK):Prop:=∀(pins:List (Addr × Obj)) (σ:St) (H:Hp) (s:Shared) (e:Value) (s':Shared),Inv X pins σ H s->CX X.stack H s E e s'->X.xe e s'
section
variable{X:Cx}{CX:CXT}{k:Nat}{f C:Addr}{fd:FuncData}{ps:List Str}{sp:Sp}{dvs:List V}{ds:List Value}{E:XK}{x m:Str}{p pos apos:Pos}{e o:Expr}{es:List Expr}{ta:TE}{t:TA}
theorem Gd{pins:List (Addr × Obj)}{σ:St}{H:Hp}{s:Shared}{Q:VK}{us:List Value}{vs:List V}(F:bH X.prog X.w X.K X.mg X.base CX k f fd ps sp)(hr:bZ k X.A)(hb:Binds X.K fd ps ds)(hd:Vals dvs ds)(hx:Passes CX X E)
 (I:Inv X pins σ H s) (r:Vals vs us) (h:sp (vs++dvs) H Q E):wpAny (model X.prog X.w) X.A (call (.ref f) us) (EP X pins σ Q) X.xe s:=by
 have r2:Vals (vs++dvs) (us++ds):=r.append hd;have hl:(us++ds).length=ps.length:=by rw[<- r2.length];exact F.len _ _ _ _ h
 refine wpAny_call (codeAny_mono (F.run X.A X.stack s H ⟨us,[]⟩ (us++ds) (vs++dvs) Q E hr I.env0 (hb s us I.kIn hl) r2 h) fun r s' hq=>?_)
 cases r with
 | error e=>exact hx pins σ H s e s' I hq
 | ok fl=>
   cases fl with
   | ret u=>exact I.after hq
   | next=>exact False.elim hq
   | brk=>exact False.elim hq
   | cont=>exact False.elim hq
theorem xY(F:bH X.prog X.w X.K X.mg X.base CX k f fd ps sp)(hr:bZ k X.A)(hg:Gl X x)(hm:X.mg x=some (.ref f))(hk:PySem.W.keepIn X.K (.ref f)=true)(hb:Binds X.K fd ps ds)(hd:Vals dvs ds)(hx:Passes CX X E)
 (ha:PA X (e::es) t) (hdb:(x==("__debug__":Str))=false:=by decide) (he:starEach (e::es) X.env=(false,eval e X.env)::starEach es X.env:=by rfl) (hpl:(backTo pos (starEach es X.env)).any (·.1)=false:=by rfl):
 PE X (.Call (.Name x p) (e::es) [] pos) (Ck sp dvs E t):=by
 intro pins s σ H Q I h;refine wpAny_Call_Name_kw (uX I hg hm ?_ hdb);refine PySem.W.callWith_K (h₀:=X.base) I.ok.mod.kin hk (thn (ha pos pins s σ H _ I h) fun us s1 ⟨vs,H1,I1,r,q⟩=>⟨I1.kIn,?_⟩) he hpl;exact Gd F hr hb hd hx I1 r q
theorem aaE{pl:Sem Bool}(he:PE X o ta)(c:Cls X.K C)(hm:Meth X.K C m f)(F:bH X.prog X.w X.K X.mg X.base CX k f fd ps sp)(hr:bZ k X.A)(hb:Binds X.K fd ps ds)(hd:Vals dvs ds)(hx:Passes CX X E)(ha:PA X (e::es) t)
 (hst:starEach (e::es) X.env=(false,eval e X.env)::starEach es X.env:=by rfl) (hpl:(backTo pos (starEach es X.env)).any (·.1)=false:=by rfl)
 (ht:eval (.Call (.Attribute o m apos) (e::es) [] pos) X.env=(do
   let ov <- eval o X.env
   standAt apos.atName
   let (f,first) <- holding [ov] (getMethod ov m pl)
   callWith pos f first (backTo pos (starEach (e::es) X.env)) (backToKw pos (keywordEach [] X.env))):=by rfl):
 PE X (.Call (.Attribute o m apos) (e::es) [] pos) (Ss C m sp dvs E ta t):=by
 intro pins s σ H Q I h;refine PySem.W.methodCall_KW (pl:=pl) (thn (he pins s σ H _ I h) fun u s1 ⟨x,H1,I1,rx,a,dx,fs,ex,ea,l,q⟩=>?_) ht;subst ex;obtain rfl:u=Value.ref a:=rx;refine F_ I1 ea c hm l ?_;refine PySem.W.callWith_K (first:=[.ref a]) (h₀:=X.base) I.ok.mod.kin hm.kp (thn (ha pos pins s1 σ H1 _ I1 q) fun us s2 ⟨vs,H2,I2,r,q2⟩=>⟨I2.kIn,?_⟩) hst hpl;exact Gd (us:=.ref a::us) (vs:=.ref a::vs) F hr hb hd hx I2 (.cons rfl r) q2
theorem X6{pl:Sem Bool}(he:PE X o ta)(c:Cls X.K C)(hm:Meth X.K C m f)(F:bH X.prog X.w X.K X.mg X.base CX k f fd ps sp)(hr:bZ k X.A)(hb:Binds X.K fd ps ds)(hd:Vals dvs ds)(hx:Passes CX X E)
 (ht:eval (.Call (.Attribute o m apos) [] [] pos) X.env=(do
   let ov <- eval o X.env
   standAt apos.atName
   let (f,first) <- holding [ov] (getMethod ov m pl)
   callWith pos f first (backTo pos (starEach [] X.env)) (backToKw pos (keywordEach [] X.env))):=by rfl):
 PE X (.Call (.Attribute o m apos) [] [] pos) (Ss C m sp dvs E ta Sq):=by
 intro pins s σ H Q I h;refine PySem.W.methodCall_KW (pl:=pl) (thn (he pins s σ H _ I h) fun u s1 ⟨x,H1,I1,rx,a,dx,fs,ex,ea,l,q⟩=>?_) ht;subst ex;obtain rfl:u=Value.ref a:=rx;refine F_ I1 ea c hm l ?_;exact PySem.W.callWith_K0 (first:=[.ref a]) I1.kIn hm.kp (Gd (us:=[.ref a]) (vs:=[.ref a]) F hr hb hd hx I1 (.cons rfl .nil) q)
structure Mk (K:aq)(C f:Addr):Prop where
 makes:PySem.W.makesIn K C=true
 init:PySem.W.findIn K (.ref C) "__init__" =some (some (.ref f))
 fn:PySem.W.isFn K (.ref f)=true
 kp:PySem.W.keepIn K (.ref C)=true
theorem X7{pins:List (Addr × Obj)}{σ:St}{H:Hp}{s:Shared}{Q:VK}{us:List Value}{vs:List V}(M:Mk X.K C f)(F:bH X.prog X.w X.K X.mg X.base CX k f fd ps sp)(hr:bZ (k+1) X.A)(hb:Binds X.K fd ps ds)(hd:Vals dvs ds)
 (hx:Passes CX X E) (I:Inv X pins σ H s) (r:Vals vs us)
 (h:∀ x dx,H x=none->H dx=none->dx ≠ x->sp (.ref x::(vs++dvs)) (upd (upd H dx (.own x)) x (.ins C dx [])) (fun v H2=>v= .non/\Q (.ref x) H2) E):
 wpAny (model X.prog X.w) X.A (call (.ref C) us) (EP X pins σ Q) X.xe s:=by
 have hq:=h (s.heap.objs.size+1) s.heap.objs.size (I.hok.fresh (Nat.le_succ _)) (I.hok.fresh (az _)) (Nat.ne_of_lt (Nat.lt_succ_self _));have I2:=Inv.made (C:=C) I;have r2:Vals (V.ref (s.heap.objs.size+1)::(vs++dvs)) (Value.ref (s.heap.objs.size+1)::(us++ds)):=.cons rfl (r.append hd)
 have hl:(Value.ref (s.heap.objs.size+1)::us++ds).length=ps.length:=by
  have e:=r2.length;rw[F.len _ _ _ _ hq]at e;exact e.symm
 refine wpAny_call (X5 (f:=f) I.kIn M.makes M.init (beq_iff_eq.mp M.fn) (codeAny_mono (F.run _ X.stack _ _ ⟨Value.ref (s.heap.objs.size+1)::us,[]⟩ (Value.ref (s.heap.objs.size+1)::(us++ds)) _ _ E (hr.make C us [])
  (I2.env0.make C us []) (hb _ (Value.ref (s.heap.objs.size+1)::us) I2.kIn hl) r2 hq) fun r s' hq'=>?_))
 cases r with
 | error e=>exact hx pins σ _ _ e s' I2 hq'
 | ok fl=>
   cases fl with
   | ret u=>
     obtain⟨v,H',I3,rv,ev,q3⟩:=I2.after hq';subst ev
     exact⟨rv,⟨V.ref (s.heap.objs.size+1),H',I3,rfl,q3⟩⟩
   | next=>exact False.elim hq'
   | brk=>exact False.elim hq'
   | cont=>exact False.elim hq'
theorem aaF(M:Mk X.K C f)(F:bH X.prog X.w X.K X.mg X.base CX k f fd ps sp)(hr:bZ (k+1) X.A)(hg:Gl X x)(hm:X.mg x=some (.ref C))(hb:Binds X.K fd ps ds)(hd:Vals dvs ds)(hx:Passes CX X E)
 (ha:PA X (e::es) t) (hdb:(x==("__debug__":Str))=false:=by decide) (he:starEach (e::es) X.env=(false,eval e X.env)::starEach es X.env:=by rfl) (hpl:(backTo pos (starEach es X.env)).any (·.1)=false:=by rfl):
 PE X (.Call (.Name x p) (e::es) [] pos) (ZQ C sp dvs E t):=by
 intro pins s σ H Q I h;refine wpAny_Call_Name_kw (uX I hg hm ?_ hdb);refine PySem.W.callWith_K (h₀:=X.base) I.ok.mod.kin M.kp (thn (ha pos pins s σ H _ I h) fun us s1 ⟨vs,H1,I1,r,q⟩=>⟨I1.kIn,?_⟩) he hpl;exact X7 M F hr hb hd hx I1 r q
end
section
variable{X:Cx}{CX:CXT}{k:Nat}{f C:Addr}{fd:FuncData}{ps ks:List Str}{sp:Sp}{E:XK}{x m:Str}{p pos apos kpos:Pos}{e o:Expr}{es:List Expr}{kws:List Keyword}{te ta:TE}{t tk:TA}{nm:Option Str}
structure agm (K:aq)(fd:FuncData)(ps ks:List Str)(g:List Value->List Value->List Value)(gV:List V->List V->List V):Prop where
 to:∀(s:Shared) (us ws:List Value),K.In s.heap->(g us ws).length=ps.length->BindsTo s fd ⟨us,ks.zip ws⟩ (ps.zip (g us ws))
 rel:∀ {vs:List V} {us:List Value} {zs:List V} {ws:List Value},Vals vs us->Vals zs ws->Vals (gV vs zs) (g us ws)
variable{g:List Value->List Value->List Value}{gV:List V->List V->List V}
end
structure aD (N P:List Str)(sc:Scope):Prop where
 kind:sc.kind= .function
 co:sc.isCoroutine=false
 gen:sc.isGenerator=false
 nd:N.Nodup
 pre:N.take P.length=P
 par:∀ x ∈ P,sc.names.lookup x=some .local\/sc.names.lookup x=some .cell
 acd:∀ y ∈ sc.names,y.2 ≠ .free
theorem JS{kindOf:Str->Option NameKind}{x:Str}:∀ {binds:List (Str × Value)} {m:Str->Option Value},(∀ v,(x,v) ∉ binds)->bindL kindOf binds m x=m x
 | [],_,_=>rfl
 | (n,v)::r,m,h=>by
   unfold bindL;rw[JS fun w hw=>h w (List.mem_cons_of_mem _ hw)]
   split
   · have:x ≠ n:=by rintro rfl;exact h v List.mem_cons_self
     simp[this]
   · rfl
theorem JT{kindOf:Str->Option NameKind}{x:Str}:∀ {binds:List (Str × Value)} {m:Str->Option Value},(∀ v,(x,v) ∉ binds)->bindC kindOf binds m x=m x
 | [],_,_=>rfl
 | (n,v)::r,m,h=>by
   unfold bindC;rw[JT fun w hw=>h w (List.mem_cons_of_mem _ hw)]
   split
   · rfl
   · have:x ≠ n:=by rintro rfl;exact h v List.mem_cons_self
     simp[this]
theorem JV{kindOf:Str->Option NameKind}{x:Str}{v:Value}:∀ {P:List Str} {vs:List Value} {i:Nat} {m:Str->Option Value},P.Nodup->P[i]? =some x->vs[i]? =some v->kindOf x=some .local->
 bindL kindOf (P.zip vs) m x=some v
 | [],_,_,_,_,h,_,_=>by simp at h
 | _::_,[],_,_,_,_,h,_=>by simp at h
 | p::P,w::vs,0,m,nd,h1,h2,hk=>by
   simp at h1 h2;subst h1;subst h2;show bindL kindOf ((p,w)::P.zip vs) m p=_;unfold bindL;rw[JS fun v hv=>(List.nodup_cons.mp nd).1 (List.of_mem_zip hv).1,if_pos hk]
   simp
 | p::P,w::vs,i+1,m,nd,h1,h2,hk=>by
   show bindL kindOf ((p,w)::P.zip vs) m x=_;unfold bindL;exact JV (i:=i) (List.nodup_cons.mp nd).2 (by simpa using h1) (by simpa using h2) hk
theorem JW{kindOf:Str->Option NameKind}{x:Str}{v:Value}:∀ {P:List Str} {vs:List Value} {i:Nat} {m:Str->Option Value},P.Nodup->P[i]? =some x->vs[i]? =some v->kindOf x ≠ some .local->
 bindC kindOf (P.zip vs) m x=some v
 | [],_,_,_,_,h,_,_=>by simp at h
 | _::_,[],_,_,_,_,h,_=>by simp at h
 | p::P,w::vs,0,m,nd,h1,h2,hk=>by
   simp at h1 h2;subst h1;subst h2;show bindC kindOf ((p,w)::P.zip vs) m p=_;unfold bindC;rw[JT fun v hv=>(List.nodup_cons.mp nd).1 (List.of_mem_zip hv).1,if_neg hk]
   simp
 | p::P,w::vs,i+1,m,nd,h1,h2,hk=>by
   show bindC kindOf ((p,w)::P.zip vs) m x=_;unfold bindC;exact JW (i:=i) (List.nodup_cons.mp nd).2 (by simpa using h1) (by simpa using h2) hk
def start(N:List Str)(vs:List V):St:=vs.map some++List.replicate (N.length - vs.length) none
def qT(CX:CXT)(P:Program)(w:World)(K:aq)(mg:Str->Option Value)(base:Heap)(N:List Str)(qual:Str)(scope:Scope)(f:Addr)(cd:Value)(A:Around)(outer:List Env)(s:Shared)(H:Hp)(E:XK):Cx where
 prog:=P
 w:=w
 K:=K
 mg:=mg
 base:=base
 A:=A.deeper (envOfC qual scope s.heap.objs.size f cd)
 N:=N
 s₀:=s
 H₀:=H
 env:=envOfC qual scope s.heap.objs.size f cd
 outer:=outer
 stack:=envOfC qual scope s.heap.objs.size f cd::outer
 ex:=[]
 calm:=true
 fn:=fun _=>true
 pn:=[]
 xe:=fun e s'=>wpAny (model P w) (A.deeper (envOfC qual scope s.heap.objs.size f cd)) (leaving (envOfC qual scope s.heap.objs.size f cd) e) (fun _ s''=>CX outer H s E e s'') (fun e' s''=>CX outer H s E e' s'') s'
theorem Mz{sc:Scope}{n:Nat}{x:Str}(h:sc.names.lookup x=some .cell):∃ c,(cellsFrom n sc.names []).lookup x=some c:=by
 have q:=PySem.W.cellsFrom_some sc.names n [] (.inl h);exact Option.isSome_iff_exists.mp q
theorem Vr{CX:CXT}{P:Program}{w:World}{K:aq}{mg:Str->Option Value}{base:Heap}{N ps:List Str}{qual:Str}{scope:Scope}{f:Addr}{cd:Value}{A:Around}{outer:List Env}{s s1:Shared}{H:Hp}{E:XK}{us:List Value}{vs:List V}
 (S:aD N ps scope) (hd:A.handled=none) (e0:Eh P w K mg base A outer s H) (hl:vs.length=ps.length) (r:Vals vs us)
 (x:InCallC s s.heap.objs.size (bindL (envOfC qual scope s.heap.objs.size f cd).kindOf (ps.zip us) fun _=>none) (cellsFrom (s.heap.objs.size+1) scope.names []) (bindC (envOfC qual scope s.heap.objs.size f cd).kindOf (ps.zip us) fun _=>none) s1):
 Inv (qT CX P w K mg base N qual scope f cd A outer s H E) [] (start N vs) H s1:=by
 have hpl:ps.length<=N.length:=by have:=congrArg List.length S.pre;rw[List.length_take]at this;omega
 obtain⟨h1,tk,rfl,hk⟩:=x.done;have noA:∀ b:Addr,b ∉ (qT CX P w K mg base N qual scope f cd A outer s H E).ex:=fun b z=>absurd (show b ∈ ([]:List Addr) from z) (by simp)
 refine⟨⟨e0.mod,S.kind,rfl,rfl,az _,fun y z c h1 h2=>?_,fun y hy=>?_,fun y c _ h=>?_,fun _=>hd,Around.frames_deeper e0.frames,.inr ⟨rfl,rfl⟩,fun b z=>absurd z (noA b),e0.bs,e0.bsz,fun b _ _=>noA b,fun b z=>absurd z (noA b),e0.ug,e0.frf⟩,
  rfl,e0.bare,Un.kept hk,⟨_,x.toInCall.ns,fun i y v h1 h2 h3=>?_⟩,fun y c h=>⟨_,x.cell y c h⟩,e0.hok.fresh (az _),fun y c h=>?_,fun p hp=>absurd (show p ∈ ([]:List (Addr × Obj)) from hp) (by simp),e0.hok.kept hk,?_⟩
 · exact name_of_addr x.apart (PySem.mem_of_lookup h1) (PySem.mem_of_lookup h2)
 · have hy:scope.names.lookup y=some .cell\/scope.names.lookup y=some .free:=hy
   rcases hy with hy | hy
   · exact Mz hy
   · exact absurd rfl (S.acd _ (PySem.mem_of_lookup hy))
 · exact Nat.le_of_lt (x.above y c (PySem.mem_of_lookup h))
 · have hi:i<vs.length:=by
    unfold start at h2
    by_cases hi:i<vs.length
    · exact hi
    · rw[List.getElem?_append_right (by simpa using hi)]at h2;rw[List.getElem?_replicate]at h2
      split at h2 <;> cases h2
   have ha:vs[i]? =some v:=by
    unfold start at h2;rw[List.getElem?_append_left (by simpa using hi),List.getElem?_map]at h2
    cases e:vs[i]? with
    | none=>rw[e]at h2;cases h2
    | some a=>rw[e]at h2;cases h2;rfl
   obtain⟨u,hu,rv⟩:=r.get ha
   have hp:ps[i]? =some y:=by
    rw[<- S.pre,List.getElem?_take_of_lt (by omega)];exact h1
   have ndP:ps.Nodup:=by rw[<- S.pre];exact S.nd.sublist (List.take_sublist _ _)
   refine⟨u,rv,?_⟩
   rcases S.par y (List.mem_of_getElem? hp) with k | k
   · exact .inl ⟨k,JV ndP hp hu k⟩
   · obtain⟨c,e⟩:=Mz (n:=s.heap.objs.size+1) k;refine .inr ⟨.inl k,c,e,?_⟩;have q:=x.cell y c e;rw[JW ndP hp hu (by show scope.names.lookup y ≠ _;rw[k];decide)]at q;exact q
 · exact e0.hok.fresh (Nat.le_of_lt (x.above y c (PySem.mem_of_lookup h)))
 · unfold start;show _=N.length;rw[List.length_append,List.length_map,List.length_replicate];omega
theorem ZR{CX:CXT}{P:Program}{w:World}{K:aq}{mg:Str->Option Value}{base:Heap}{k:Nat}{f:Addr}{name qual:Str}{params:Arguments}{body:List Stmt}{scope:Scope}{dV kV doc pm cdv ct oc:Value}{an od:Option Addr}
 {osl:Array (Option Value)} {N ps:List Str} {sp:Sp} (lk:K.lookup f=some ⟨oc,od,.func (PySem.W.fnOf name qual params body scope dV kV doc pm an cdv ct),osl⟩) (hcd:PySem.W.codeIn K cdv qual=true) (S:aD N ps scope)
 (len:∀ vs H Q E,sp vs H Q E->vs.length=ps.length)
 (hbody:∀(A:Around) (outer:List Env) (s:Shared) (H:Hp) (vs:List V) (Q:VK) (E:XK),bZ k (A.deeper (envOfC qual scope s.heap.objs.size f cdv))->sp vs H Q E->
   ∃ t,PSs (qT CX P w K mg base N qual scope f cdv A outer s H E) body t/\t { nx:=fun _ H'=>Q .non H',rt:=Q } (start N vs) H):
 bH P w K mg base CX (k+1) f (PySem.W.fnOf name qual params body scope dV kV doc pm an cdv ct) ps sp:=by
 refine⟨len,fun A outer s H args us vs Q E hr e0 hb r hsp=>?_⟩;have hl:=len _ _ _ _ hsp;have KX:K.In s.heap:=e0.mod.kin.keeps fun b o e=>(e0.bs b o e).1;have lim:s.heap.NoLimit:=e0.mod.nolimit.keeps fun b o e=>(e0.bs b o e).1
 have hkind:∀ y ∈ ps.zip us,scope.names.lookup y.1=some .local\/(scope.names.lookup y.1=some .cell/\((cellsFrom (s.heap.objs.size+1) scope.names []).lookup y.1).isSome=true):=fun⟨n,v⟩ hy=>by
  rcases S.par n (List.of_mem_zip hy).1 with q | q
  · exact .inl q
  · exact .inr ⟨q,PySem.W.cellsFrom_some _ _ _ (.inl q)⟩
 refine codeAny_call_function hr.depth (KX _ _ lk) rfl S.co S.gen rfl (PySem.W.codeRec_of KX hcd) (hb _ _ _ _ ?_);refine wpAny_newFunctionEnv_cells S.kind hkind fun env he s1 x=>?_;subst he;refine⟨lim.keeps x.toInCall.keep,codeAny_func ?_⟩;obtain⟨t,ht,hq⟩:=hbody A outer s H vs Q E (hr.deeper _) hsp;have I:Inv (qT CX P w K mg base N qual scope f cdv A outer s H E) [] (start N vs) H s1:=Vr S hr.hd e0 hl r x;refine wpAny_mono (ht [] s1 (start N vs) H _ I hq) (fun fl s' hs=>?_) fun e s' hs=>hs
 have fin:∀ {σ':St} {H':Hp} {v:V} {u:Value},Inv (qT CX P w K mg base N qual scope f cdv A outer s H E) [] σ' H' s'->RelV v u->Q v H'->CE outer P w H s Q u s':=
  fun {σ' H' v u} J rv q=>⟨v,H',J.os,J.bare,J.base,J.hok,rv,q⟩
 cases fl with
 | ret u=>
   obtain⟨v,σ',H',J,rv,q⟩:=hs
   exact fin J rv q
 | next=>
   obtain⟨σ',H',J,q⟩:=hs
   exact fin (v:=V.non) (u:=Value.none) J rfl q
 | brk=>
   obtain⟨_,_,_,q⟩:=hs
   exact False.elim q
 | cont=>
   obtain⟨_,_,_,q⟩:=hs;exact False.elim q
section
variable{X:Cx}{x:Str}{p pos:Pos}{e:Expr}{es:List Expr}{t:TA}{id T:String}{r:List V->Hp->VK->Prop}
def tCB(r:List V->Hp->VK->Prop)(t:TA):TE:=fun σ H Q=>t σ H fun vs H1=>r vs H1 Q
theorem nU(hc:lV X (.builtin id) r)(hg:Gl X x)(hm:X.mg x=none)(hv:bootBuiltins x=some (.builtin id))(ha:PA X (e::es) t)(hn:x ≠ "__name__":=by decide)(hdb:(x==("__debug__":Str))=false:=by decide)
 (he:starEach (e::es) X.env=(false,eval e X.env)::starEach es X.env:=by rfl) (hpl:(backTo pos (starEach es X.env)).any (·.1)=false:=by rfl):PE X (.Call (.Name x p) (e::es) [] pos) (tCB r t):=by
 intro pins s σ H Q I h;refine wpAny_Call_Name_kw (qP I hg hm hv ?_ hn hdb);exact PyProof.Rows.callWith_builtin1 (thn (ha pos pins s σ H _ I h) fun us s1 ⟨vs,H1,I1,r1,q1⟩=>hc pins s1 σ H1 vs us Q I1 r1 q1) he hpl
theorem wG(hc:lV X (.type T) r)(hg:Gl X x)(hm:X.mg x=none)(hv:bootBuiltins x=some (.type T))(ha:PA X (e::es) t)(hn:x ≠ "__name__":=by decide)(hdb:(x==("__debug__":Str))=false:=by decide)
 (he:starEach (e::es) X.env=(false,eval e X.env)::starEach es X.env:=by rfl) (hpl:(backTo pos (starEach es X.env)).any (·.1)=false:=by rfl):PE X (.Call (.Name x p) (e::es) [] pos) (tCB r t):=by
 intro pins s σ H Q I h;refine wpAny_Call_Name_kw (qP I hg hm hv ?_ hn hdb);exact PyProof.Rows.callWith_type1 (thn (ha pos pins s σ H _ I h) fun us s1 ⟨vs,H1,I1,r1,q1⟩=>hc pins s1 σ H1 vs us Q I1 r1 q1) he hpl
end
end L2
namespace HT
open PySem PyProof.Rows
def lexLt:List Int->List Int->Bool
 | [],[]=>false
 | [],_::_=>true
 | _::_,[]=>false
 | x::xs,y::ys=>if x=y then lexLt xs ys else decide (x<y)
theorem Su(x y:Int)(xs ys:List Int):lexLt (x::xs) (y::ys)=if x=y then lexLt xs ys else decide (x<y):=rfl
theorem Kh:lexLt [] [] =false:=rfl
theorem Ie(y:Int)(ys:List Int):lexLt [] (y::ys)=true:=rfl
theorem Ig(x:Int)(xs:List Int):lexLt (x::xs) [] =false:=rfl
theorem X8(A:Around)(s:Shared)(a:Int)(t:Tok)(c:Int)(u:Tok):∃ e,SeqAt.EqAt A s (.int a t) (.int c u) e/\(e=true ↔ a=c):=
 ⟨(a==c),SeqAt.EqAt.int_int a t c u,by simp⟩
theorem X_(A:Around)(s:Shared)(a:Int)(t:Tok)(c:Int)(u:Tok)(prog:Program)(w:World)(E:Value->Shared->Prop)(Q:Value->Shared->Prop)(h:Q (.bool (decide (a<c))) s):
 wpAny (model prog w) A (richCompare .Lt (.int a t) (.int c u)) Q E s:=
 (PyProof.Rows.lt_int h:wpAny (model prog w) A (compareOp .Lt (.int a t) (.int c u)) Q E s)
section
open PySem.SeqAt
open PySem.AutoSeq1 (wpAny_loadPart')
open PySem.MeetsSeq PySem.MeetsSeq2 PySem.MeetsSeq3
theorem Kl(l b:Addr)(items items2:Array Value)(n n2:Nat)(dd dd2:Option Addr)(sl sl2:Array (Option Value))(ns ms:List Int)(hi:IntsAre items.toList ns)(hj:IntsAre items2.toList ms):
 Meets (Builtin.«tuple.__lt__» ⟨[.ref l,.ref b],[]⟩)
  (fun _ R s=>s.heap.get? l=some { cls:=.type "tuple",dict:=dd,data:=.seq items n,slots:=sl }/\s.heap.get? b=some { cls:=.type "tuple",dict:=dd2,data:=.seq items2 n2,slots:=sl2 }/\
    R (.ok (.ret (.bool (lexLt ns ms)))) s):=
 .of_wp fun prog w A R s h=>by
  obtain⟨hp,g,d,tk,os⟩:=s;obtain⟨hl,hb,h⟩:=h;have f2:=AutoSeq1.sub_tuple_tuple;have z1:items.size=ns.length:=by rw[<- hi.length];simp
  have z2:items2.size=ms.length:=by rw[<- hj.length];simp
  wp_walk using wpAny_loadPart' hl,wpAny_loadPart' hb,wpAny_forIn_list _ (fun rest b s'=>b.1=none/\s'= ⟨hp,g,d,tk,os⟩/\∃(vs ws:List Value) (ns' ms':List Int),rest=vs.zip ws/\
   IntsAre vs ns'/\IntsAre ws ms'/\ns'.length+items2.size=ms'.length+items.size/\R (.ok (.ret (.bool (lexLt ns' ms')))) ⟨hp,g,d,tk,os⟩) _
  case turn=>
   rintro⟨y,x⟩ rest b s' ⟨hb',rfl,vs,ws,ns',ms',hz,hvi,hwi,hlen,hR⟩
   cases hvi with
   | nil=>rw[List.zip_nil_left]at hz;cases hz
   | cons a t afL=>
     cases hwi with
     | nil=>rw[List.zip_nil_right]at hz;cases hz
     | cons c u afM=>
       rw[List.zip_cons_cons]at hz;injection hz with hyx hrest;injection hyx with hy hx;subst hy hx;rw[Su]at hR;simp only[List.length_cons]at hlen;obtain⟨e,he,hiff⟩:=X8 A.in1 ⟨hp,g,d,tk,os⟩ a t c u;refine wpAny_bind (he prog w _ _ ?_)
       cases e with
       | true=>
         rw[if_pos (hiff.mp rfl)]at hR
         wp_walk
         exact⟨rfl,rfl,_,_,_,_,hrest,afL,afM,by omega,hR⟩
       | false=>
         rw[if_neg (fun q=>absurd (hiff.mpr q) Bool.false_ne_true)]at hR;have hri:=X_ A.in1 ⟨hp,g,d,tk,os⟩ a t c u prog w
         wp_walk using hri
         exact⟨_,rfl,by simpa using hR⟩
  case fin=>
   rintro⟨b1,b2⟩ s' ⟨hb',rfl,vs,ws,ns',ms',hz,hvi,hwi,hlen,hR⟩;simp only at hb';subst hb'
   have hv:lexLt ns' ms'=decide (items.size<items2.size):=by
    cases hvi with
    | nil=>
      cases hwi with
      | nil=>
        simp only[List.length_nil]at hlen;rw[Kh]
        exact(decide_eq_false (by omega)).symm
      | cons c u hw=>
        simp only[List.length_nil,List.length_cons]at hlen;rw[Ie]
        exact(decide_eq_true (by omega)).symm
    | cons a t hv=>
      cases hwi with
      | nil=>
        simp only[List.length_nil,List.length_cons]at hlen;rw[Ig]
        exact(decide_eq_false (by omega)).symm
      | cons c u hw=>
        rw[List.zip_cons_cons]at hz;cases hz
   rw[hv]at hR
   wp_walk
   exact⟨_,rfl,by simpa [Builtin.Tuple.tupleCompareSizes] using hR⟩
  case h=>
   exact⟨rfl,rfl,items.toList,items2.toList,ns,ms,rfl,hi,hj,by omega,h⟩
end
section
variable{prog:Program}{w:World}{A:Around}{E:Value->Shared->Prop}{s:Shared}
theorem Sv{l b:Addr}{items items2:Array Value}{ns ms:List Int}{Q:Value->Shared->Prop}(hl:IsTup s.heap l items)(hb:IsTup s.heap b items2)(hi:IntsAre items.toList ns)(hj:IntsAre items2.toList ms)
 (hu:A.units<cLine) (h:Q (.bool (lexLt ns ms)) s):wpAny (model prog w) A (compareOp .Lt (.ref l) (.ref b)) Q E s:=by
 obtain⟨⟨cls,dd,data,sl⟩,ho,hc,n,hd⟩:=id hl;obtain⟨⟨cls2,dd2,data2,sl2⟩,ho2,hc2,n2,hd2⟩:=id hb;simp only at hc hd hc2 hd2;subst hc hd hc2 hd2
 exact richCompare_meets_room (op:=.Lt) ⟨_,ho,rfl⟩ ⟨_,ho2,rfl⟩ PySem.F.slot_tuple_lt PySem.F.entry_tuple_lt (PySem.F.args_tuple_lt_2 _ _) (Kl l b items items2 n n2 dd dd2 sl sl2 ns ms hi hj)
  ⟨ho,ho2,show Value.bool (lexLt ns ms) ≠ Value.notImplemented/\Q (.bool (lexLt ns ms)) s from ⟨(fun x=>nomatch x),h⟩⟩ hu
def sIx(n d:Nat):Option Int->Nat
 | none=>d
 | some v=>if v<0 then(v+(n:Int)).toNat else min v.toNat n
theorem ace(n d:Nat)(hd:d<=n)(o:Option Int):sIx n d o<=n:=by
 cases o with
 | none=>exact hd
 | some v=>
   show(if v<0 then(v+(n:Int)).toNat else min v.toNat n)<=n
   by_cases hv:v<0
   · rw[if_pos hv];omega
   · rw[if_neg hv];exact Nat.min_le_right _ _
theorem QC(v:Int)(n d:Nat):(if v<0 then max (v+(n:Int)) 0 else min v (n:Int))=((sIx n d (some v):Nat):Int):=by
 show(if v<0 then max (v+(n:Int)) 0 else min v (n:Int))=(((if v<0 then(v+(n:Int)).toNat else min v.toNat n):Nat):Int)
 by_cases hv:v<0
 · simp only[if_pos hv];omega
 · simp only[if_neg hv];omega
theorem Sw(lo hi:Option Int)(n:Nat):Builtin.Slice.sliceAdjust lo hi 1 (n:Int)=(((sIx n 0 lo:Nat):Int),((sIx n n hi:Nat):Int)):=by
 have h1:¬ ((1:Int)<0):=by omega
 unfold Builtin.Slice.sliceAdjust;simp only[h1,if_false];refine Prod.ext ?_ ?_
 · cases lo with
   | none=>rfl
   | some v=>exact QC v n 0
 · cases hi with
   | none=>rfl
   | some v=>exact QC v n n
theorem Sx(i j:Nat):Builtin.Slice.slicePlaces (i:Int) (j:Int) 1=j - i:=by
 unfold Builtin.Slice.slicePlaces;have h1:(1:Int) > 0:=by omega
 simp only[h1,if_true,Int.ediv_one]
 split <;> omega
theorem Ge{v:Value}{o:Option Int}{Q:Option Int->Shared->Prop}(p:IsPart v o)(h:Q o s):wpAny (model prog w) A (Builtin.Slice.slicePartIndex v) Q E s:=by
 cases p with
 | none=>exact slicePart_none h
 | int i t=>exact slicePart_int h
theorem Ei{sl:Addr}{vl vu:Value}{lo hi:Option Int}{n:Nat}{Q:Int × Int × Nat->Shared->Prop}(hs:s.heap.IsSliceOf sl vl vu .none)(pl:IsPart vl lo)(pu:IsPart vu hi)
 (h:Q (((sIx n 0 lo:Nat):Int),1,sIx n n hi - sIx n 0 lo) s):wpAny (model prog w) A (Builtin.Slice.sliceApplied (.ref sl) (pure (n:Int))) Q E s:=by
 obtain⟨os,hos,hcs,hds⟩:=id hs;unfold Builtin.Slice.sliceApplied Builtin.Slice.sliceFields;refine wpAny_bind (wpAny_bind (wpAny_field hos hds (x:=vl) rfl (wpAny_bind (wpAny_field hos hds (x:=vu) rfl (wpAny_bind (wpAny_field hos hds (x:=.none) rfl (wpAny_pure ?_)))))));refine wpAny_bind (slicePart_none ?_);show wpAny _ _ (if((1:Int)==0)=true then _ else _) _ _ s;rw[if_neg (by decide)];refine wpAny_bind (Ge pl (wpAny_bind (Ge pu (wpAny_bind (wpAny_pure ?_)))));show wpAny _ _ (match Builtin.Slice.sliceAdjust lo hi 1 (n:Int) with | (lo,hi)=>pure (lo,(1:Int),Builtin.Slice.slicePlaces lo hi 1)) _ _ s;rw[Sw lo hi n];show wpAny _ _ (pure (((sIx n 0 lo:Nat):Int),(1:Int),Builtin.Slice.slicePlaces ((sIx n 0 lo:Nat):Int) ((sIx n n hi:Nat):Int) 1)) _ _ s;rw[Sx];exact wpAny_pure h
theorem Yb(xs:Array Value)(i k:Nat):((List.range k).filterMap fun(m:Nat)=>xs[((i:Int)+(m:Int)*1).toNat]?).toArray=((xs.toList.drop i).take k).toArray:=by
 have e:(fun(m:Nat)=>xs[((i:Int)+(m:Int)*1).toNat]?)=fun m=>xs[i+m]?:=by
  funext m
  have:((i:Int)+(m:Int)*1).toNat=i+m:=by omega
  rw[this]
 rw[e];have:=pick_run xs i k;rw[List.filterMap_map]at this;have e2:((fun x=>xs[x]?) ∘ fun x=>i+x)=fun m=>xs[i+m]?:=rfl;rw[e2]at this;rw[this]
theorem Dm{t sl:Addr}{items:Array Value}{vl vu:Value}{lo hi:Option Int}{Q:Value->Shared->Prop}(ht:IsTup s.heap t items)(hs:s.heap.IsSliceOf sl vl vu .none)(pl:IsPart vl lo)(pu:IsPart vu hi)
 (hw:¬ (sIx items.size 0 lo=0/\sIx items.size items.size hi=items.size))
 (h:Q (.ref s.heap.objs.size) { s with heap:=s.heap.push { cls:=.type "tuple",data:=.seq ((items.toList.drop (sIx items.size 0 lo)).take (sIx items.size items.size hi - sIx items.size 0 lo)).toArray } })
 (hsz:items.size<=sizeLine):wpAny (model prog w) A (getItem (.ref t) (.ref sl)) Q E s:=by
 have Lq:sizeOk (.seq ((items.toList.drop (sIx items.size 0 lo)).take (sIx items.size items.size hi - sIx items.size 0 lo)).toArray):=by
  show((items.toList.drop (sIx items.size 0 lo)).take (sIx items.size items.size hi - sIx items.size 0 lo)).toArray.size<=sizeLine;rw[List.size_toArray,List.length_take,List.length_drop,Array.length_toList];omega
 have hj:sIx items.size items.size hi<=items.size:=ace _ _ (az _) hi;obtain⟨os,hos,hcs,hds⟩:=id hs;have hTs:s.TypeIs (.ref sl) "slice":=⟨os,hos,hcs⟩;unfold getItem
 try with_reducible refine wpAny_holding ?_
 first | refine wpAny_bind (wpAny_pure ?_) | skip
 refine wpAny_bind (wpAny_sequenceKey ht.typeIs (by decide) ?_)
 refine wpAny_bind (wpAny_callSpecial?_slot (name:=Str.ofString "__getitem__") ht.typeIs PyProof.Rows.slot_tuple_getitem
  (wpAny_call_entry PyProof.Rows.slot_tuple_getitem ht.typeIs entry_tuple_getitem ?_ (args_tuple_getitem _ _)))
 show wpAny _ _ (Builtin.Tuple.tupleItemsOf (.ref t) >>= _) _ _ s;refine wpAny_bind (tupleItemsOf_ ht ?_);refine wpAny_bind (wpAny_typeOf hTs ?_);rw[if_pos (by decide)];refine wpAny_bind (Ei hs pl pu ?_)
 have hno:¬ ((((sIx items.size 0 lo:Nat):Int)==0&&(1:Int)==1&&(sIx items.size items.size hi - sIx items.size 0 lo)==items.size)=true):=by
  intro q;rw[Bool.and_eq_true,Bool.and_eq_true]at q;have q1:((sIx items.size 0 lo:Nat):Int)=0:=eq_of_beq q.1.1;have q2:sIx items.size items.size hi - sIx items.size 0 lo=items.size:=eq_of_beq q.2;exact hw ⟨by omega,by omega⟩
 show wpAny _ _ (if(((sIx items.size 0 lo:Nat):Int)==0&&(1:Int)==1&&(sIx items.size items.size hi - sIx items.size 0 lo)==items.size)=true then _ else _) _ _ s;rw[if_neg hno,Yb]
 first
  | exact wpAny_bind (m:=Builtin.Tuple.tupleExact _) (wpAny_newObj_type (wpAny_pure ⟨_,rfl,wpAny_pure h⟩) Lq)
  | exact wpAny_bind (m:=Builtin.Tuple.tupleExact _) (wpAny_newObj_type (wpAny_bind (wpAny_pure (wpAny_pure ⟨_,rfl,wpAny_pure h⟩))) Lq)
  | exact wpAny_bind (wpAny_bind (m:=Builtin.Tuple.tupleExact _) (wpAny_newObj_type (wpAny_pure (wpAny_pure ⟨_,rfl,wpAny_pure h⟩)) Lq))
  | exact wpAny_bind (wpAny_bind (m:=Builtin.Tuple.tupleExact _) (wpAny_newObj_type (wpAny_pure ⟨_,rfl,wpAny_pure h⟩) Lq))
end
end HT
namespace L2
open PySem PySem.Spec PyProof.Rows
abbrev TO:=St->Hp->(Option Int->Hp->Prop)->Prop
def PO(X:Cx)(e:Option Expr)(t:TO):Prop:=
 ∀(pins:List (Addr × Obj)) (s:Shared) (σ:St) (H:Hp) (Q:Option Int->Hp->Prop),Inv X pins σ H s->t σ H Q->
  wpAny (model X.prog X.w) X.A (evalPart e X.env) (fun u s'=>∃ o H',Inv X pins σ H' s'/\IsPart u o/\Q o H') X.xe s
def QD:TO:=fun _ H Q=>Q none H
def Sy(t:TE):TO:=fun σ H Q=>t σ H fun x H1=>∃ i,x= .int i/\Q (some i) H1
theorem intsAre_of{ns:List Int}:∀ {us:List Value},Vals (ns.map V.int) us->IntsAre us ns:=by
 induction ns with
 | nil=>intro us r;rw[List.map_nil]at r;cases r;exact .nil
 | cons n ns ih=>
   intro us r;rw[List.map_cons]at r
   cases r with
   | cons r1 r2=>
     obtain⟨t,e⟩:=r1;subst e;exact .cons n t (ih r2)
section
variable{X:Cx}{e:Expr}{te:TE}{lo hi:Option Expr}{tl th:TO}{pos p2:Pos}
theorem Ih:PO X none QD:=by
 intro pins s σ H Q I h;rw[evalPart_none];exact wpAny_pure ⟨none,H,I,.none,h⟩
theorem Cm(h:PE X e te):PO X (some e) (Sy te):=by
 intro pins s σ H Q I hw;rw[evalPart_some];refine thn (h pins s σ H _ I hw) fun u s1 ⟨x,H1,I1,r1,q1⟩=>?_;obtain⟨i,rfl,q⟩:=q1;obtain⟨t,rfl⟩:=r1;exact⟨some i,H1,I1,.int i t,q⟩
def SlR(X:Cx)(r:V->Option Int->Option Int->Hp->VK->Prop):Prop:=
 ∀(pins:List (Addr × Obj)) (s:Shared) (σ:St) (H:Hp) (x:V) (v vl vu:Value) (lo hi:Option Int) (sl:Addr) (Q:VK),Inv X pins σ H s->RelV x v->s.heap.IsSliceOf sl vl vu .none->IsPart vl lo->IsPart vu hi->r x lo hi H Q->
  ∃ T id,typeLookup (.type T) "__getitem__" =pure (some (.builtin id))/\s.TypeIs v T/\wpAny (model X.prog X.w) X.A (getItem v (.ref sl)) (EP X pins σ Q) X.xe s
theorem SlR.or{r r':V->Option Int->Option Int->Hp->VK->Prop}(h:SlR X r)(h':SlR X r'):SlR X (fun x lo hi H Q=>r x lo hi H Q\/r' x lo hi H Q):=by
 intro pins s σ H x v vl vu lo hi sl Q I rx hs pl pu q
 rcases q with q | q
 · exact h pins s σ H x v vl vu lo hi sl Q I rx hs pl pu q
 · exact h' pins s σ H x v vl vu lo hi sl Q I rx hs pl pu q
def tSl(r:V->Option Int->Option Int->Hp->VK->Prop)(te:TE)(tl th:TO):TE:=fun σ H Q=>te σ H fun x H1=>tl σ H1 fun l H2=>th σ H2 fun u H3=>r x l u H3 Q
theorem Ej{r:V->Option Int->Option Int->Hp->VK->Prop}(hr:SlR X r)(he:PE X e te)(hl:PO X lo tl)(hu:PO X hi th):PE X (.Subscript e (.Slice lo hi none p2) pos) (tSl r te tl th):=by
 intro pins s σ H Q I h;refine Subscript_ (thn (he pins s σ H _ I h) fun v s1 ⟨x,H1,I1,r1,q1⟩=>?_);refine wpAny_Slice (thn (hl pins s1 σ H1 _ I1 q1) fun vl s2 ⟨l,H2,I2,pl,q2⟩=>thn (hu pins s2 σ H2 _ I2 q2) fun vu s3 ⟨u,H3,I3,pu,q3⟩=>?_);rw[evalPart_none];refine wpAny_pure ?_;have I4:Inv X pins σ H3 { s3 with heap:=s3.heap.push { cls:=.type "slice",data:=.fields #[vl,vu,.none] } }:=I3.kept (t':=s3.toks) fun b ob q=>Heap.get?_push_of_some _ q;obtain⟨T,id,hT,ht,hg⟩:=hr pins { s3 with heap:=s3.heap.push { cls:=.type "slice",data:=.fields #[vl,vu,.none] } } σ H3 x v vl vu l u s3.heap.objs.size Q I4 r1 (Heap.IsSliceOf.new ..) pl pu q3;show wpAny (model X.prog X.w) X.A (subscriptTail e (.Slice lo hi none p2) v (.ref s3.heap.objs.size)) (EP X pins σ Q) X.xe { s3 with heap:=s3.heap.push { cls:=.type "slice",data:=.fields #[vl,vu,.none] } };exact tail_any (ops:=[.ref s3.heap.objs.size,v]) ht hT hg (by with_unfolding_all rfl)
def Am(xs:List V)(lo hi:Option Int):List V:=(xs.drop (HT.sIx xs.length 0 lo)).take (HT.sIx xs.length xs.length hi - HT.sIx xs.length 0 lo)
theorem DQ(xs:List V)(lo hi:Option Int):(Am xs lo hi).length<=xs.length:=by
 unfold Am;rw[List.length_take,List.length_drop];omega
def acf(K:aq):V->Option Int->Option Int->Hp->VK->Prop:=fun x lo hi H Q=>∃ a xs,x= .ref a/\SqT K H a xs/\
 ¬ (HT.sIx xs.length 0 lo=0/\HT.sIx xs.length xs.length hi=xs.length)/\∀ p,H p=none->Q (.ref p) (upd H p (.tup (Am xs lo hi)))
theorem acg:SlR X (acf X.K):=by
 intro pins s σ H x v vl vu lo hi sl Q I rx hs pl pu h;obtain⟨a,xs,rfl,hx,hw,q⟩:=h;cases rx;obtain⟨its,r,ht,hz⟩:=I.tuple hx;have hlen:its.toArray.size=xs.length:=by rw[List.size_toArray];exact r.length.symm
 refine⟨"tuple",_,PyProof.Rows.slot_tuple_getitem.lookup,ht.typeIs,?_⟩;refine HT.Dm ht hs pl pu (by rw[hlen];exact hw) ?_ (by rw[hlen];exact hz);rw[hlen];refine⟨.ref s.heap.objs.size,_,I.laid (t':=s.toks) (o:=.tup (Am xs lo hi)) (fun b ob q=>Heap.get?_push_of_some _ q) (az _) ?_,rfl,q _ (I.hok.fresh (az _))⟩;exact⟨Nat.le_trans (DQ xs lo hi) hz,_,(r.drop (HT.sIx xs.length 0 lo)).take (HT.sIx xs.length xs.length hi - HT.sIx xs.length 0 lo),IsTup.new _ _⟩
def ach(K:aq):R2:=fun x y H Q=>∃ a b ns ms,x= .ref a/\y= .ref b/\SqT K H a (ns.map V.int)/\SqT K H b (ms.map V.int)/\Q (.bl (HT.lexLt ns ms)) H
theorem Gf(hu:X.A.units<cLine):OpR X (compareOp .Lt) (ach X.K):=by
 intro pins s σ H x y v u Q I rx ry h;obtain⟨a,b,ns,ms,rfl,rfl,ha,hb,q⟩:=h;cases rx;cases ry;obtain⟨its,r1,p1,_⟩:=I.tuple ha;obtain⟨its2,r2,p2,_⟩:=I.tuple hb;have i1:IntsAre its.toArray.toList ns:=intsAre_of r1;have i2:IntsAre its2.toArray.toList ms:=intsAre_of r2;exact HT.Sv p1 p2 i1 i2 hu ⟨.bl (HT.lexLt ns ms),H,I,rfl,q⟩
end
def ixN(n:Nat)(i:Int):Option Nat:=if 0<=i then(if i<n then some i.toNat else none) else if -(n:Int)<=i then some (i+n).toNat else none
def atI{α:Type}(xs:List α)(i:Int):Option α:=(ixN xs.length i).bind fun j=>xs[j]?
theorem aaG{n:Nat}{i:Int}{j:Nat}(h:ixN n i=some j):seqIndex? i n=some j/\j<n/\-(n:Int)<=i/\i<n:=by
 unfold ixN at h
 by_cases h0:0<=i
 · rw[if_pos h0]at h
   by_cases h1:i<n
   · rw[if_pos h1]at h;have e:i.toNat=j:=Option.some.inj h;exact⟨by rw[seqIndex_of h0 h1,e],by omega,by omega,h1⟩
   · rw[if_neg h1]at h;cases h
 · rw[if_neg h0]at h
   by_cases h1: -(n:Int)<=i
   · rw[if_pos h1]at h;have e:(i+n).toNat=j:=Option.some.inj h;exact⟨by rw[seqIndex_neg (by omega) h1,e],by omega,h1,by omega⟩
   · rw[if_neg h1]at h;cases h
theorem Ii{α:Type}{xs:List α}{i:Int}{v:α}(h:atI xs i=some v):∃ j,seqIndex? i xs.length=some j/\xs[j]? =some v/\j<xs.length/\-(xs.length:Int)<=i/\i<xs.length:=by
 unfold atI at h
 cases e:ixN xs.length i with
 | none=>rw[e]at h;cases h
 | some j=>
   rw[e]at h;obtain⟨h1,h2,h3,h4⟩:=aaG e;exact⟨j,h1,h,h2,h3,h4⟩
theorem QF{α:Type}{xs:List α}{j:Nat}{v:α}(h:xs[j]? =some v):atI xs (j:Int)=some v:=by
 have hj:j<xs.length:=(a_ h).1
 have e:ixN xs.length (j:Int)=some j:=by
  unfold ixN;rw[if_pos (by omega),if_pos (by omega)];simp
 unfold atI;rw[e];exact h
def xZ(b:Expr):Prop:=∀ o i,subscripted b false o i=operate [o,i] (getItem o i)
def IxR(X:Cx)(r:R2):Prop:=
 ∀(value slice:Expr) (pins:List (Addr × Obj)) (s:Shared) (σ:St) (H:Hp) (x y:V) (v u:Value) (Q:VK),Inv X pins σ H s->RelV x v->RelV y u->r x y H Q->
  subscripted slice false v u=operate [v,u] (getItem v u)->wpAny (model X.prog X.w) X.A (subscriptTail value slice v u) (EP X pins σ Q) X.xe s
def MtR(X:Cx)(id:String)(r:V->List V->Hp->VK->Prop):Prop:=
 ∀(pins:List (Addr × Obj)) (s:Shared) (σ:St) (H:Hp) (x:V) (xs:List V) (v:Value) (us:List Value) (Q:VK),Inv X pins σ H s->RelV x v->Vals xs us->r x xs H Q->
  wpAny (model X.prog X.w) X.A (call (.builtin id) (v::us)) (EP X pins σ Q) X.xe s
section
variable{X:Cx}{a b:Expr}{ta tb:TE}{pos:Pos}
theorem IxR.or{r r':R2}(h:IxR X r)(h':IxR X r'):IxR X (fun x y H Q=>r x y H Q\/r' x y H Q):=by
 intro value slice pins s σ H x y v u Q I rx ry q hs
 rcases q with q | q
 · exact h value slice pins s σ H x y v u Q I rx ry q hs
 · exact h' value slice pins s σ H x y v u Q I rx ry q hs
theorem yI{r:R2}(hr:IxR X r)(ha:PE X a ta)(hb:PE X b tb)(hs:xZ b):PE X (.Subscript a b pos) (tOp r ta tb):=by
 intro pins s σ H Q I h;exact Subscript_ (XQ ha hb I h fun v u s2 x y H2 I2 rx ry q=>hr a b pins s2 σ H2 x y v u Q I2 rx ry q (hs _ _))
def aci(K:aq):R2:=fun x y H Q=>∃ p xs i v,x= .ref p/\y= .int i/\SqL K H p xs/\atI xs i=some v/\Q v H
def acj(K:aq):R2:=fun x y H Q=>∃ p xs i v,x= .ref p/\y= .int i/\SqT K H p xs/\atI xs i=some v/\Q v H
def ack:R2:=fun x y H Q=>∃ z i c,x= .str z/\y= .int i/\z.length<=sizeLine/\atI z.cps.toList i=some c/\Q (.str ⟨#[c]⟩) H
theorem Cp:IxR X (aci X.K):=by
 intro value slice pins s σ H x y v u Q I rx ry h hs;obtain⟨p,xs,i,z,rfl,rfl,hq,he,q⟩:=h;cases rx;obtain⟨t,rfl⟩:=ry;obtain⟨its,r,pl,hz⟩:=I.list hq;obtain⟨j,h1,h2,h3,h4,h5⟩:=Ii he;obtain⟨w,ew,rw'⟩:=r.get h2;have hl:=r.length;have hn:=Aj;have fin:EP X pins σ Q w s:=⟨z,H,I,rw',q⟩
 by_cases h0:0<=i
 · have hj:i.toNat=j:=by
    rw[seqIndex_of h0 h5]at h1;exact Option.some.inj h1
   exact item_listR pl.isList h0 (by omega) (by rw[hj];simpa using ew) fin hs
 · have hj:(i+(its.toArray.size:Int)).toNat=j:=by
    rw[seqIndex_neg (by omega) h4]at h1;rw[List.size_toArray,<- hl];exact Option.some.inj h1
   exact subscriptTail_builtinR (x:=w) pl.isList.typeIs slot_list_getitem.lookup
    (wpAny_getItem_list_neg (Q:=fun r s'=>r=w/\EP X pins σ Q r s') pl.isList (by omega) (by rw[List.size_toArray] <;> omega) (by omega) (by rw[hj];simpa using ew) ⟨rfl,fin⟩) hs
theorem acn:IxR X (acj X.K):=by
 intro value slice pins s σ H x y v u Q I rx ry h hs;obtain⟨p,xs,i,z,rfl,rfl,hq,he,q⟩:=h;cases rx;obtain⟨t,rfl⟩:=ry;obtain⟨its,r,pl,hz⟩:=I.tuple hq;obtain⟨j,h1,h2,h3,h4,h5⟩:=Ii he;obtain⟨w,ew,rw'⟩:=r.get h2;have hl:=r.length;have hn:=Aj;have fin:EP X pins σ Q w s:=⟨z,H,I,rw',q⟩
 exact subscriptTail_builtinR (x:=w) pl.typeIs slot_tuple_getitem.lookup
  (getItem_tuple (j:=j) (Q:=fun r s'=>r=w/\EP X pins σ Q r s') pl (by omega) (by omega) (by rw[List.size_toArray,<- hl];exact h1) (by simpa using ew) ⟨rfl,fin⟩) hs
theorem aco:IxR X ack:=by
 intro value slice pins s σ H x y v u Q I rx ry h hs;obtain⟨z,i,c,rfl,rfl,hz,he,q⟩:=h;obtain⟨t,rfl⟩:=rx;obtain⟨t',rfl⟩:=ry;obtain⟨j,h1,h2,h3,h4,h5⟩:=Ii he;have hl:z.cps.toList.length=z.length:=by simp[Str.length]
 rw[hl]at h1 h4 h5;have hn:=Aj
 exact tail_any (typeIs_str s z t) slot_str_getitem.lookup (getItem_str (c:=c) (by
  have e1:decide (i < -(2 ^ 63:Int))=false:=decide_eq_false (by omega);have e2:decide (i >= 2 ^ 63)=false:=decide_eq_false (by omega)
  rw[e1,e2,Bool.or_false]) (by rw[h1];simpa using h2) ⟨.str ⟨#[c]⟩,H,I.tok _,⟨_,rfl⟩,q⟩) hs
def rIx(K:aq):R2:=fun x y H Q=>aci K x y H Q\/acj K x y H Q\/ack x y H Q
theorem Vs:IxR X (rIx X.K):=Cp.or (acn.or aco)
theorem MF(lo hi:Option Int)(n:Nat):(sliceBounds lo hi none n).1=((HT.sIx n 0 lo:Nat):Int)/\(sliceBounds lo hi none n).2.1=((HT.sIx n n hi:Nat):Int)/\(sliceBounds lo hi none n).2.2=1:=by
 refine⟨?_,?_,rfl⟩
 · cases lo with
   | none=>simp[sliceBounds,HT.sIx]
   | some i=>
     simp only[sliceBounds,HT.sIx,Option.getD_none,show(1:Int) > 0 by decide,if_true]
     by_cases h:i<0
     · simp only[h,if_true] <;> omega
     · simp only[h,if_false] <;> omega
 · cases hi with
   | none=>simp[sliceBounds,HT.sIx]
   | some i=>
     simp only[sliceBounds,HT.sIx,Option.getD_none,show(1:Int) > 0 by decide,if_true]
     by_cases h:i<0
     · simp only[h,if_true] <;> omega
     · simp only[h,if_false] <;> omega
theorem Km(its:List Value)(lo hi:Option Int):slicePick its.toArray lo hi none=((its.drop (HT.sIx its.length 0 lo)).take (HT.sIx its.length its.length hi - HT.sIx its.length 0 lo)).toArray:=by
 obtain⟨h1,h2,h3⟩:=MF lo hi its.toArray.size;unfold slicePick;rw[h1,h2,h3];simp only[sliceRange_one,pick_run,List.size_toArray] <;> rfl
def acp(K:aq):V->Option Int->Option Int->Hp->VK->Prop:=fun x lo hi H Q=>∃ a xs,x= .ref a/\SqL K H a xs/\∀ p,H p=none->Q (.ref p) (upd H p (.lst (Am xs lo hi)))
theorem Ij:SlR X (acp X.K):=by
 intro pins s σ H x v vl vu lo hi sl Q I rx hs pl pu h;obtain⟨a,xs,rfl,hx,q⟩:=h;cases rx;obtain⟨its,r,ht,hz⟩:=I.list hx;have hlen:=r.length;refine⟨"list",_,slot_list_getitem.lookup,ht.isList.typeIs,?_⟩;refine wpAny_getItem_list_slice ht.isList hs pl pu .none (by simp) ?_ (by rw[List.size_toArray] <;> omega);rw[Km,<- hlen];refine⟨.ref s.heap.objs.size,_,I.laid (t':=s.toks) (o:=.lst (Am xs lo hi)) (fun b ob q=>Heap.get?_push_of_some _ q) (az _) ?_,rfl,q _ (I.hok.fresh (az _))⟩;exact⟨Nat.le_trans (DQ xs lo hi) hz,_,0,(r.drop (HT.sIx xs.length 0 lo)).take (HT.sIx xs.length xs.length hi - HT.sIx xs.length 0 lo),Heap.get?_push_size _ rfl⟩
def pY:V->Bool
 | .non=>true
 | .bl _=>true
 | .int _=>true
 | .str _=>true
 | _=>false
def eqV:V->V->Bool
 | .non,.non=>true
 | .bl a,.bl b=>a==b
 | .bl a,.int b=>(if a then 1 else 0)==b
 | .int a,.bl b=>a==(if b then 1 else 0)
 | .int a,.int b=>a==b
 | .str a,.str b=>a==b
 | _,_=>false
theorem acq{A:Around}{s:Shared}{y x:V}{u v:Value}(ry:RelV y u)(rx:RelV x v)(fy:pY y=true)(fx:pY x=true):SeqAt.EqAt A s u v (eqV y x):=by
 cases y with
 | non=>
   cases ry
   cases x with
   | non=>cases rx;exact SeqAt.EqAt.same _
   | bl b=>cases rx;exact SeqAt.EqAt.none_bool b
   | int b=>obtain⟨t,rfl⟩:=rx;exact SeqAt.EqAt.none_int b t
   | str b=>obtain⟨t,rfl⟩:=rx;exact SeqAt.EqAt.none_str b t
   | _=>exact absurd (show false=true from fx) Bool.false_ne_true
 | bl a=>
   cases ry
   cases x with
   | non=>cases rx;exact SeqAt.EqAt.bool_none a
   | bl b=>cases rx;exact SeqAt.EqAt.bool_bool a b
   | int b=>obtain⟨t,rfl⟩:=rx;exact SeqAt.EqAt.bool_int a b t
   | str b=>obtain⟨t,rfl⟩:=rx;exact SeqAt.EqAt.bool_str a b t
   | _=>exact absurd (show false=true from fx) Bool.false_ne_true
 | int a=>
   obtain⟨t',rfl⟩:=ry
   cases x with
   | non=>cases rx;exact SeqAt.EqAt.int_none a t'
   | bl b=>cases rx;exact SeqAt.EqAt.int_bool a t' b
   | int b=>obtain⟨t,rfl⟩:=rx;exact SeqAt.EqAt.int_int a t' b t
   | str b=>obtain⟨t,rfl⟩:=rx;exact SeqAt.EqAt.int_str a t' b t
   | _=>exact absurd (show false=true from fx) Bool.false_ne_true
 | str a=>
   obtain⟨t',rfl⟩:=ry
   cases x with
   | non=>cases rx;exact SeqAt.EqAt.str_none a t'
   | bl b=>cases rx;exact SeqAt.EqAt.str_bool a t' b
   | int b=>obtain⟨t,rfl⟩:=rx;exact SeqAt.EqAt.str_int a t' b t
   | str b=>obtain⟨t,rfl⟩:=rx;exact SeqAt.EqAt.str_str a t' b t
   | _=>exact absurd (show false=true from fx) Bool.false_ne_true
 | _=>exact absurd (show false=true from fy) Bool.false_ne_true
def eqU(x:V)(u:Value):Bool:=match u with
 | .none=>eqV .non x
 | .bool b=>eqV (.bl b) x
 | .int i _=>eqV (.int i) x
 | .str z _=>eqV (.str z) x
 | _=>false
theorem Vt{x y:V}{u:Value}(r:RelV y u)(f:pY y=true):eqU x u=eqV y x:=by
 cases y with
 | non=>cases r;rfl
 | bl b=>cases r;rfl
 | int i=>obtain⟨t,rfl⟩:=r;rfl
 | str z=>obtain⟨t,rfl⟩:=r;rfl
 | _=>exact absurd (show false=true from f) Bool.false_ne_true
theorem x_{x:V}:∀ {xs:List V} {us:List Value},Vals xs us->xs.all pY=true->us.any (eqU x)=xs.any fun y=>eqV y x
 | _,_,.nil,_=>rfl
 | y::xs,u::us,.cons r t,f=>by
   rw[List.all_cons,Bool.and_eq_true]at f;rw[List.any_cons,List.any_cons,Vt r f.1,x_ t f.2]
theorem vp{A:Around}{s:Shared}{x:V}{v:Value}(rx:RelV x v)(fx:pY x=true):∀ {xs:List V} {us:List Value},Vals xs us->xs.all pY=true->∀ u ∈ us,SeqAt.EqAt A s u v (eqU x u)
 | _,_,.nil,_=>fun u hu=>by cases hu
 | y::xs,u::us,.cons r t,f=>fun u' hu=>by
   rw[List.all_cons,Bool.and_eq_true]at f
   rcases List.mem_cons.mp hu with rfl | hu
   · rw[Vt r f.1];exact acq r rx f.1 fx
   · exact vp rx fx t f.2 u' hu
def inV(x:V)(xs:List V):Bool:=xs.any fun y=>eqV y x
def rIn(K:aq)(neg:Bool):R2:=fun x y H Q=>∃ p xs,y= .ref p/\(SqL K H p xs\/SqT K H p xs)/\pY x=true/\xs.all pY=true/\Q (.bl (if neg then !inV x xs else inV x xs)) H
theorem tY:OpR X (compareOp .In) (rIn X.K false):=by
 intro pins s σ H x y v u Q I rx ry h;obtain⟨p,xs,rfl,hq,fx,fs,q⟩:=h;cases ry
 rcases hq with hq | hq
 · obtain⟨its,r,pl,hz⟩:=I.list hq;refine SeqAt.in_listAt (eqU x) pl.isList (fun w hw=>vp rx fx r fs w (by simpa using hw)) ⟨.bl _,H,I,rfl,?_⟩;rw[show its.toArray.any (eqU x)=its.any (eqU x) by simp,x_ r fs];exact q
 · obtain⟨its,r,pl,hz⟩:=I.tuple hq;refine SeqAt.in_tupleAt (eqU x) pl (fun w hw=>vp rx fx r fs w (by simpa using hw)) ⟨.bl _,H,I,rfl,?_⟩;rw[show its.toArray.any (eqU x)=its.any (eqU x) by simp,x_ r fs];exact q
theorem kJ:OpR X (compareOp .NotIn) (rIn X.K true):=by
 intro pins s σ H x y v u Q I rx ry h;obtain⟨p,xs,rfl,hq,fx,fs,q⟩:=h;cases ry
 rcases hq with hq | hq
 · obtain⟨its,r,pl,hz⟩:=I.list hq;refine SeqAt.notIn_listAt (eqU x) pl.isList (fun w hw=>vp rx fx r fs w (by simpa using hw)) ⟨.bl _,H,I,rfl,?_⟩;rw[show its.toArray.any (eqU x)=its.any (eqU x) by simp,x_ r fs];exact q
 · obtain⟨its,r,pl,hz⟩:=I.tuple hq;refine SeqAt.notIn_tupleAt (eqU x) pl (fun w hw=>vp rx fx r fs w (by simpa using hw)) ⟨.bl _,H,I,rfl,?_⟩;rw[show its.toArray.any (eqU x)=its.any (eqU x) by simp,x_ r fs];exact q
theorem bh:lV X (.builtin "len") (fun xs H Q=>∃ p ys,xs= [.ref p]/\(SqL X.K H p ys\/SqT X.K H p ys)/\Q (.int ys.length) H):=by
 intro pins s σ H xs us Q I r h;obtain⟨p,ys,rfl,hq,q⟩:=h;obtain⟨u,rfl,rx⟩:=vals1 r;cases rx;have hn:=Aj
 rcases hq with hq | hq
 · obtain⟨its,r',pl,hz⟩:=I.list hq;have hlen:=r'.length;exact Calls.call_len_list pl.isList (by simp only[List.size_toArray] <;> omega) ⟨.int ys.length,H,I.tok _,⟨s.toks+1,by rw[List.size_toArray,hlen]⟩,q⟩
 · obtain⟨its,r',pl,hz⟩:=I.tuple hq;have hlen:=r'.length;exact len_tuple pl (by simp only[List.size_toArray] <;> omega) ⟨.int ys.length,H,I.tok _,⟨s.toks+1,by rw[List.size_toArray,hlen]⟩,q⟩
theorem MJ:lV X (.type "list") (fun xs H Q=>∃ p ys,xs= [.ref p]/\(SqL X.K H p ys\/SqT X.K H p ys)/\∀ l,H l=none->Q (.ref l) (upd H l (.lst ys))):=by
 intro pins s σ H xs us Q I r h;obtain⟨p,ys,rfl,hq,q⟩:=h;obtain⟨u,rfl,rx⟩:=vals1 r;cases rx
 have fin:∀(its:List Value),Vals ys its->ys.length<=sizeLine->∀(h':Heap) (c':Nat),(∀ b o',s.heap.get? b=some o'->h'.get? b=some o')->
  h'.get? s.heap.objs.size=some { cls:=.type "list",dict:=none,data:=.seq its.toArray c',slots:=#[] }->EP X pins σ Q (.ref s.heap.objs.size) { s with heap:=h' }:=fun its r' hz h' c' kp e=>
  ⟨.ref s.heap.objs.size,_,I.laid (t':=s.toks) kp (az _) (show b8 X.prog X.w _ h' _ (.lst ys) from ⟨hz,its,c',r',e⟩),rfl,q _ (I.hok.fresh (az _))⟩
 rcases hq with hq | hq
 · obtain⟨its,r',pl,hz⟩:=I.list hq;have hlen:=r'.length;obtain⟨o,ho,hc,n,hd⟩:=pl.isList;exact call_list_seq p (.inl rfl) ho hc hd (fun h' c' kp e=>fin its r' hz h' c' kp e) (by simp only[List.size_toArray] <;> omega)
 · obtain⟨its,r',pl,hz⟩:=I.tuple hq;have hlen:=r'.length;obtain⟨o,ho,hc,n,hd⟩:=pl;exact call_list_seq p (.inr rfl) ho hc hd (fun h' c' kp e=>fin its r' hz h' c' kp e) (by simp only[List.size_toArray] <;> omega)
def tyV(K:aq)(T:String)(x:V)(H:Hp):Prop:=match x with
 | .str _=>T= "str"
 | .int _=>T= "int"
 | .ref p=>(T= "list"/\∃ xs,SqL K H p xs)\/(T= "tuple"/\∃ o,K.lookup p=some o/\o.cls= .type "tuple"/\o.dict=none)\/
    (T= "dict"/\((∃ kvs,H p=some (.dK kvs))\/∃ kvs,H p=some (.dT kvs)))\/(T= "set"/\∃ S n,H p=some (.set S n))
 | _=>False
theorem Vu{pins:List (Addr × Obj)}{σ:St}{H:Hp}{s:Shared}{T:String}{x:V}{v:Value}(I:Inv X pins σ H s)(r:RelV x v)(ty:tyV X.K T x H):
 s.TypeIs v T/\∀ a,v= .ref a->∃ ob,s.heap.get? a=some ob/\ob.dict=none:=by
 cases x with
 | str z=>
   obtain⟨t,rfl⟩:=r;cases (show T= "str" from ty)
   exact⟨typeIs_str s z t,fun _ e=>nomatch e⟩
 | int i=>
   obtain⟨t,rfl⟩:=r;cases (show T= "int" from ty)
   exact⟨typeIs_int s i t,fun _ e=>nomatch e⟩
 | ref p=>
   cases r
   rcases ty with ⟨rfl,xs,hq⟩ | ⟨rfl,o,hk,hc,hd⟩ | ⟨rfl,hk⟩ | ⟨rfl,S,n,hk⟩
   · obtain⟨its,_,pl,_⟩:=I.list hq;refine⟨pl.isList.typeIs,fun a e=>?_⟩;cases e;obtain⟨o,n,e,c,hd,_⟩:=pl;exact⟨o,e,hd⟩
   · refine⟨⟨o,I.kIn p o hk,hc⟩,fun a e=>?_⟩;cases e;exact⟨o,I.kIn _ o hk,hd⟩
   · have z:∃ o,s.heap.get? p=some o/\o.ExactDict:=by
      rcases hk with ⟨kvs,hk⟩ | ⟨kvs,hk⟩
      · obtain⟨_,_,_,_,o,_,_,e,ex,_⟩:=I.hok p _ hk;exact⟨o,e,ex⟩
      · obtain⟨_,_,_,_,o,_,_,e,ex,_⟩:=I.hok p _ hk;exact⟨o,e,ex⟩
     obtain⟨o,e,ex⟩:=z;refine⟨⟨o,e,ex.1⟩,fun a e2=>?_⟩;cases e2;exact⟨o,e,ex.2.1⟩
   · obtain⟨o,_,_,_,e,ex,_⟩:=I.hok p _ hk;refine⟨⟨o,e,ex.1⟩,fun a e2=>?_⟩;cases e2
     exact⟨o,e,ex.2.1⟩
 | _=>exact False.elim ty
def acr(K:aq)(T:String)(r:V->List V->Hp->VK->Prop)(to:TE):TE:=fun σ H Q=>to σ H fun x H1=>tyV K T x H1/\r x [] H1 Q
def tBM(K:aq)(T:String)(r:V->List V->Hp->VK->Prop)(to:TE)(t:TA):TE:=fun σ H Q=>to σ H fun x H1=>tyV K T x H1/\t σ H1 fun xs H2=>r x xs H2 Q
variable{o e:Expr}{es:List Expr}{to:TE}{t:TA}{name:Str}{apos cpos:Pos}{T id:String}{r:V->List V->Hp->VK->Prop}
theorem acs(pa:PlainAttrs T)(slot:Slot T name id)(hty:typeOf (.builtin id)=pure (.type "method_descriptor"))(hm:MtR X id r)(ho:PE X o to)
 (hbase:attributeBase o name X.env (eval o X.env)=eval o X.env:=by rfl) (hline:(apos.endLine==cpos.line)=true:=by rfl):PE X (.Call (.Attribute o name apos) [] [] cpos) (acr X.K T r to):=by
 intro pins s σ H Q I h;refine wpAny_Call_method0_late hbase hline (thn (ho pins s σ H _ I h) fun v s1 ⟨x,H1,I1,r1,ty,q1⟩=>?_);obtain⟨h1,h2⟩:=Vu I1 r1 ty;exact⟨T,id,pa,slot,hty,h1,h2,Calls.callWith_builtin rfl (PySem.evalArgs_none (hm pins s1 σ H1 x [] v [] Q I1 r1 .nil q1))⟩
theorem Lr(pa:PlainAttrs T)(slot:Slot T name id)(hty:typeOf (.builtin id)=pure (.type "method_descriptor"))(hm:MtR X id r)(ho:PE X o to)(ha:PA X (e::es) t)
 (hbase:attributeBase o name X.env (eval o X.env)=eval o X.env:=by rfl)
 (hfew:((backTo cpos (starEach (e::es) X.env)).all (fun x=> !x.1)&&(backToKw cpos (keywordEach [] X.env)).all (fun x=>x.1.isSome)
   && decide ((e::es).length+([]:List Keyword).length+(if([]:List Keyword).isEmpty then 0 else 1)<30))=true:=by rfl)
 (hline:(apos.endLine==cpos.line)=true:=by rfl) (hs:starEach (e::es) X.env=(false,eval e X.env)::starEach es X.env:=by rfl) (hplain:(backTo cpos (starEach es X.env)).any (·.1)=false:=by rfl):
 PE X (.Call (.Attribute o name apos) (e::es) [] cpos) (tBM X.K T r to t):=by
 intro pins s σ H Q I h;refine wpAny_Call_method_late hbase hfew hline rfl (thn (ho pins s σ H _ I h) fun v s1 ⟨x,H1,I1,r1,ty,q1⟩=>?_);obtain⟨h1,h2⟩:=Vu I1 r1 ty;refine⟨T,id,pa,slot,hty,h1,h2,?_⟩;have hA:=ha cpos pins s1 σ H1 _ I1 q1;rw[hs]at hA ⊢;refine Calls.callWith_builtin (by show(false||(backTo cpos (starEach es X.env)).any (·.1))=false;rw[hplain] <;> rfl) (Calls.evalArgs_plain ?_);exact thn hA fun us s2 ⟨vs,H2,I2,r2,q2⟩=>hm pins s2 σ H2 x vs v us Q I2 r1 r2 q2
end
def MtM(X:Cx)(id:String)(r:V->List V->Hp->VK->Prop):Prop:=
 ∀(pins:List (Addr × Obj)) (s:Shared) (σ:St) (H:Hp) (x:V) (xs:List V) (v:Value) (us:List Value) (Q:VK),Inv X pins σ H s->RelV x v->Vals xs us->r x xs H Q->
  wpAny (model X.prog X.w) X.A (call (.builtin id) (v::us)) (EP X pins σ Q) X.xe s
theorem Vals.one:∀ {x:V} {us:List Value},Vals [x] us->∃ u,us= [u]/\RelV x u
 | _,_,.cons r .nil=>⟨_,rfl,r⟩
theorem Vals.zero:∀ {us:List Value},Vals [] us->us= []
 | _,.nil=>rfl
theorem Vals.dropLast{xs:List V}{us:List Value}(h:Vals xs us):Vals xs.dropLast us.dropLast:=by
 induction h with
 | nil=>exact .nil
 | cons r t ih=>
   cases t with
   | nil=>exact .nil
   | cons q t'=>exact .cons r ih
theorem Vals.reverse{xs:List V}{us:List Value}(h:Vals xs us):Vals xs.reverse us.reverse:=by
 induction h with
 | nil=>exact .nil
 | cons r t ih=>rw[List.reverse_cons,List.reverse_cons];exact Vals.append ih (.cons r .nil)
theorem Vals.rep{xs:List V}{us:List Value}(h:Vals xs us):∀ k:Nat,Vals (List.replicate k xs).flatten (List.replicate k us).flatten
 | 0=>.nil
 | k+1=>by
   rw[List.replicate_succ,List.replicate_succ,List.flatten_cons,List.flatten_cons];exact Vals.append h (Vals.rep h k)
theorem SJ{α:Type}(l:List α):l.eraseIdx (l.length - 1)=l.dropLast:=by
 induction l with
 | nil=>rfl
 | cons a r ih=>
   cases r with
   | nil=>rfl
   | cons b r=>
     have e:(a::b::r).length - 1=((b::r).length - 1)+1:=by
      have h1:(a::b::r).length=r.length+2:=rfl;have h2:(b::r).length=r.length+1:=rfl;omega
     rw[e,List.eraseIdx_cons_succ,ih]
     all_goals rfl
theorem foldl_rep(its:List Value):∀(k:Nat) (acc:List Value),
 List.foldl (fun x1 x2=>x1++x2) acc.toArray (List.replicate k its.toArray)=(acc++(List.replicate k its).flatten).toArray
 | 0,acc=>by simp
 | k+1,acc=>by
   have e:acc.toArray++its.toArray=(acc++its).toArray:=by simp
   have e2:(acc++its)++(List.replicate k its).flatten=acc++(List.replicate (k+1) its).flatten:=by
    rw[List.replicate_succ,List.flatten_cons,List.append_assoc]
   rw[<- e2,<- foldl_rep its k (acc++its),<- e,List.replicate_succ,List.foldl_cons]
section
variable{X:Cx}{pins:List (Addr × Obj)}{σ:St}{H:Hp}{s:Shared}{l b:Addr}{xs ys zs:List V}
theorem Inv.Yc{its its':List Value}{n:Nat}{f:Array Value->Array Value}{t':Nat}(I:Inv X pins σ H s)(hH:H l=some (.lst xs))
 (e:s.heap.get? l=some { cls:=.type "list",data:=.seq its.toArray n }) (hf:f its.toArray=its'.toArray) (hv:Vals ys its') (hz:ys.length<=sizeLine):
 Inv X pins σ (upd H l (.lst ys)) { s with heap:=s.heap.update l (Obj.mapSeq f),toks:=t' }:=by
 have q:=PySem.IsL.update e f;rw[hf]at q;refine I.write (x:=l) (e:=l) (by rw[hH];exact trivial) (.inl rfl) (fun b' u hb hu=>(Heap.get?_update_other s.heap (Obj.mapSeq f) (Ne.symm hb)).trans hu) ⟨_,q⟩ ?_;exact⟨hz,its',_,hv,q⟩
theorem Inv.Yd{its:List Value}{t':Nat}(I:Inv X pins σ H s)(hv:Vals ys its)(hz:ys.length<=sizeLine):
 Inv X pins σ (upd H s.heap.objs.size (.lst ys)) { s with heap:=s.heap.push { cls:=.type "list",data:=.seq its.toArray },toks:=t' }:=
 I.laid (fun _ _ q=>Heap.get?_push_of_some _ q) (az _) ⟨hz,its,0,hv,Heap.get?_push_size _ rfl⟩
theorem Inv.fresh(I:Inv X pins σ H s):H s.heap.objs.size=none:=I.hok.fresh (az _)
theorem Inv.Ek(I:Inv X pins σ H s)(hH:H l=some (.lst xs)):xs.length<=sizeLine/\∃(its:List Value) (n:Nat),Vals xs its/\xs.length=its.length/\s.heap.get? l=some { cls:=.type "list",data:=.seq its.toArray n }:=by
 obtain⟨z,its,n,r,e⟩:=I.hok l _ hH;exact⟨z,its,n,r,r.length,e⟩
theorem MN{n:Nat}(h:n<=sizeLine):Builtin.List.listTooLong n=false:=by
 unfold Builtin.List.listTooLong;exact decide_eq_false (by omega)
end
section
variable{X:Cx}
def QG:V->List V->Hp->VK->Prop:=fun x vs H Q=>∃ l xs y,x= .ref l/\vs= [y]/\H l=some (.lst xs)/\xs.length<sizeLine/\Q .non (upd H l (.lst (xs ++ [y])))
theorem fJ:MtM X "list.append" QG:=by
 intro pins s σ H x vs v us Q I rx rv h;obtain⟨l,xs,y,rfl,rfl,hH,hz,q⟩:=h;cases rx;obtain⟨u,rfl,ru⟩:=rv.one;obtain⟨z,its,n,r,hl,e⟩:=I.Ek hH;refine call_meets F.slot_list_append ⟨_,e,rfl⟩ F.entry_list_append (F.args_list_append_2 _ _) (PySem.list_append l its.toArray n u (by rw[List.size_toArray];omega)) ⟨e,?_⟩;refine⟨.non,_,I.Yc (its':=its ++ [u]) hH e (by simp) (r.append (.cons ru .nil)) ?_,rfl,q⟩;rw[List.length_append,List.length_singleton];omega
def QH:V->List V->Hp->VK->Prop:=fun x vs H Q=>∃ l b xs zs,x= .ref l/\vs= [.ref b]/\H l=some (.lst xs)/\H b=some (.lst zs)/\xs.length+zs.length<=sizeLine/\Q .non (upd H l (.lst (xs++zs)))
theorem Vv:MtM X "list.extend" QH:=by
 intro pins s σ H x vs v us Q I rx rv h;obtain⟨l,b,xs,zs,rfl,rfl,hH,hB,hz,q⟩:=h;cases rx;obtain⟨u,rfl,ru⟩:=rv.one;cases ru;obtain⟨z,its,n,r,hl,e⟩:=I.Ek hH;obtain⟨z2,its2,n2,r2,hl2,e2⟩:=I.Ek hB;have hsz:its.toArray.size+its2.toArray.size<=sizeLine:=by rw[List.size_toArray,List.size_toArray];omega
 have SM:¬ (!its.toArray.isEmpty&&Builtin.List.listTooLong (its.toArray.size+its2.toArray.size))=true:=by
  rw[MN hsz,Bool.and_false];exact Bool.false_ne_true
 refine call_meets F.slot_list_extend ⟨_,e,rfl⟩ F.entry_list_extend (F.args_list_extend_2 _ _)
  (AutoSeq1.list_extend_list_list_0 l its.toArray n b its2.toArray n2 SM (by rw[List.size_toArray];omega) (by omega)) ⟨e,e2,?_⟩
 refine⟨.non,_,I.Yc (its':=its++its2) hH e (by simp) (r.append r2) ?_,rfl,q⟩;rw[List.length_append];omega
def acu:V->List V->Hp->VK->Prop:=fun x vs H Q=>∃ l xs y,x= .ref l/\vs= []/\H l=some (.lst xs)/\xs[xs.length - 1]? =some y/\Q y (upd H l (.lst xs.dropLast))
theorem acv:MtM X "list.pop" acu:=by
 intro pins s σ H x vs v us Q I rx rv h;obtain⟨l,xs,y,rfl,rfl,hH,hy,q⟩:=h;cases rx;have hus:=rv.zero;subst hus;obtain⟨z,its,n,r,hl,e⟩:=I.Ek hH;obtain⟨u,hu,ru⟩:=r.get hy
 have hy':its.toArray[its.toArray.size - 1]? =some u:=by
  show its.toArray[its.length - 1]? =some u;rw[<- Array.getElem?_toList,<- hl];exact hu
 refine call_meets F.slot_list_pop ⟨_,e,rfl⟩ F.entry_list_pop (F.args_list_pop_1 _) (MeetsSeq.list_pop_last l its.toArray n u hy' (by rw[List.size_toArray];omega)) ⟨e,?_⟩;refine⟨y,_,I.Yc (its':=its.dropLast) hH e ?_ r.dropLast ?_,ru,q⟩
 · show its.toArray.eraseIdxIfInBounds (its.toArray.size - 1)=its.dropLast.toArray;rw[List.size_toArray,List.eraseIdxIfInBounds_toArray,SJ]
 · rw[List.length_dropLast];omega
def acw:R2:=fun x y H Q=>∃ l b xs zs,x= .ref l/\y= .ref b/\H l=some (.lst xs)/\H b=some (.lst zs)/\xs.length+zs.length<=sizeLine/\∀ p,H p=none->Q (.ref p) (upd H p (.lst (xs++zs)))
theorem dB:OpR X (binaryOp .Add) acw:=by
 intro pins s σ H x y v u Q I rx ry h;obtain⟨l,b,xs,zs,rfl,rfl,hH,hB,hz,q⟩:=h;cases rx;cases ry;obtain⟨z,its,n,r,hl,e⟩:=I.Ek hH;obtain⟨z2,its2,n2,r2,hl2,e2⟩:=I.Ek hB;refine PySem.P.add_list e e2 ?_ (by rw[List.size_toArray,List.size_toArray];omega);have ea:its.toArray++its2.toArray=(its++its2).toArray:=by simp
 rw[ea];exact⟨.ref _,_,I.Yd (t':=s.toks) (r.append r2) (by rw[List.length_append];omega),rfl,q _ I.fresh⟩
def acy:R2:=fun x y H Q=>∃ l k xs,x= .ref l/\y= .int k/\H l=some (.lst xs)/\-(2 ^ 63)<=k/\k<2 ^ 63/\xs.length*k.toNat<=sizeLine/\
 ∀ p,H p=none->Q (.ref p) (upd H p (.lst (List.replicate k.toNat xs).flatten))
theorem len_rep{α:Type}(xs:List α)(k:Nat):(List.replicate k xs).flatten.length=k*xs.length:=by
 induction k with
 | zero=>simp
 | succ k ih=>rw[List.replicate_succ,List.flatten_cons,List.length_append,ih,Nat.succ_mul,Nat.add_comm]
theorem nW:OpR X (binaryOp .Mult) acy:=by
 intro pins s σ H x y v u Q I rx ry h;obtain⟨l,k,xs,rfl,rfl,hH,h1,h2,hz,q⟩:=h;cases rx;obtain⟨t,rfl⟩:=ry;obtain⟨z,its,n,r,hl,e⟩:=I.Ek hH;have hlen:its.toArray.size*k.toNat<=sizeLine:=by rw[List.size_toArray,<- hl];exact hz
 have hcap:¬ its.toArray.size*k.toNat > (2 ^ 63 - 1) / 8:=by
  have:(sizeLine:Nat)<=(2 ^ 63 - 1) / 8:=by decide
  omega
 have hfit:¬ (!Builtin.List.listFitsIndex k)=true:=by
  rw[fitsIndex_both h1 h2];exact Bool.false_ne_true
 have SM:¬ Builtin.List.listTooLong (its.toArray.size*k.toNat)=true:=by
  rw[MN hlen];exact Bool.false_ne_true
 have hnew:List.foldl (fun x1 x2=>x1++x2) #[] (List.replicate (if its.toArray.isEmpty=true then 0 else k.toNat) its.toArray)=(List.replicate k.toNat its).flatten.toArray:=by
  have f0:∀ m:Nat,List.foldl (fun x1 x2=>x1++x2) #[] (List.replicate m its.toArray)=(List.replicate m its).flatten.toArray:=fun m=>by
   have:=foldl_rep its m [];rw[List.nil_append]at this;exact this
  rw[f0]
  cases its with
  | nil=>simp
  | cons a r'=>rw[if_neg (by simp)]
 refine wpAny_binaryOp_repeat_ref (T:="list") (U:="int") (by decide) ⟨_,e,rfl⟩ (fun s'=>typeIs_int s' k t) noFill_list_mul F.fills_int_mul F.slot_int_rmul repeat_list F.slot_int_index.lookup
  (call_meets F.slot_int_rmul (typeIs_int s k t) F.entry_int_rmul (F.args_int_rmul_2 _ _) (int___rmul___int_list k t l its.toArray n)
    ⟨e,rfl,⟨_,e,rfl⟩,call_meets F.slot_list_mul ⟨_,e,rfl⟩ F.entry_list_mul (F.args_list_mul_2 _ _) (AutoListH.list___mul___list_int_3 l its.toArray n k t hfit hcap SM) ⟨e,?_⟩⟩)
 rw[hnew];exact⟨.ref _,_,I.Yd (t':=s.toks) (r.rep k.toNat) (by rw[len_rep,Nat.mul_comm];exact hz),rfl,q _ I.fresh⟩
end
section
variable{prog:Program}{w:World}{A:Around}{E:Value->Shared->Prop}{s:Shared}
set_option maxRecDepth 100000 in
end
end L2
namespace Att
open PySem PySem.W PySem.Calls PyProof.Rows
theorem Gg{P:Params}{h:Heap}:∀(ns:List Int) (vs:List Value),WellAll P h vs (ns.map WData.int)->IntsAre vs ns:=by
 intro ns
 induction ns with
 | nil=>
   intro vs w;rw[List.map_nil]at w;cases w
   exact .nil
 | cons n ns ih=>
   intro vs w;rw[List.map_cons]at w
   cases w with
   | cons a b=>
     cases a;exact .cons _ _ (ih _ b)
theorem Vw{l:OpenLaw}{n:Nat}(hn:l.most=some n){P:Params}{h:Heap}{args:List WData}{vals:List Value}
 (hpre:l.row.toRowW.claim.pre args=true) (hwl:WellAll P h vals args):
 ∃ a vs ns,vals= [Value.ref a]/\args= [WData.list (ns.map WData.int)]/\h.get? a=some { cls:=.type "list",data:=.seq vs.toArray }/\IntsAre vs ns/\ns.length<=n:=by
 have hsh:WShape.hasAll [] args [.list .int] =true:=(pre_splitW hpre).1;have hc:l.pre.holds [] { args:=args } =true:=(pre_splitW hpre).2;obtain⟨d,r,rfl,h1,h2⟩:=hasAllW_cons hsh;obtain rfl:=hasAllW_nil h2;obtain⟨xs,rfl,h3⟩:=hasW_list h1;obtain⟨ns,rfl⟩:=items_int h3
 have hlen:ns.length<=n:=by
  unfold OpenLaw.pre at hc
  have h4:(WTm.not (.lt (.lit (.int (n:Int))) (.len (.arg 0)))).holds [] { args:=[.list (ns.map .int)] } =true:=by
   have h4:=(holds_andW hc).1;rw[hn]at h4;exact h4
  have h5:=condW_of h4 (w_not (w_lt w_lit (w_len_list (w_arg rfl))));rw[List.length_map]at h5;refine Nat.le_of_not_lt fun q=>?_;have q':(n:Int)<((ns.length:Nat):Int):=by omega
  first
   | (rw[decide_eq_true q']at h5;exact absurd h5 (by decide))
   | (simp at h5;omega)
 cases hwl with
 | cons w1 w2=>
   cases w2
   cases w1 with
   | list ho hall=>exact⟨_,_,ns,rfl,rfl,ho,Gg ns _ hall,hlen⟩
theorem Vx(l:OpenLaw)(args:List WData):l.row.toRowW.claim.post args (.bool true) args=true:=
 postW_of (r:=l.row.toRowW) (X:=(true==true))
  (show WShape.has [] (.bool true) .bool=true by first | rfl | decide | simp[WShape.has,WShape.arms,WShape.armsAll])
  (show(WTm.eq .res (.lit (.bool true))).value [] { args:=args,res:=some (.bool true),after:=args } =some (.bool (true==true)) from w_eq_bool (w_res rfl) w_lit) rfl
theorem P_{l:OpenLaw}{n:Nat}{q:Program}{loose:List Str}{XP:(Str->Option Value)->Heap->Prop}{YP:World->Heap->Prop}{d:DefRec}
 (hn:l.most=some n) (hdf:d.params.defaults= [])
 (call:∀(w:World) (s₀ s₁:Shared) (mg mb:Str->Option Value) (fa:Addr) (o:Obj) (pm cd doc:Value) (a:Addr) (vs:List Value) (ns:List Int),
   Ground q loose [] XP w s₀ mg mb s₁.heap->YP w s₁.heap->
   s₁.heap.get? fa=some o->o.data= .func (docDef d.name d.params d.body d.scope pm cd doc)->s₁.heap.CodeRec cd d.name->mg d.name=some (.ref fa)->
   s₁.heap.get? a=some { cls:=.type "list",data:=.seq vs.toArray }->IntsAre vs ns->ns.length<=n->s₁.gens= #[]->
   codeAny (model l.prog w) callerA (.call (.ref fa) ⟨[.ref a],[]⟩) (fun r s'=>r= .ok (.ret (.bool true))/\OldK s₁.heap s'.heap/\s'.os=s₁.os/\AllBare s'.gens) s₁):
 WalkO q loose XP YP l.row.toRowW d [] (fun f vs=>PySem.call f vs):=by
 intro w s₀ s₁ mg mb G Y fa o pm cd doc dV kV ho hd hcd hD hmg hg args vals as hpre hlay hrd hwl hlo;obtain rfl:dV= .none:=Dflts.none hD hdf;obtain rfl:kV= .none:=Dflts.noKw hD;obtain⟨a,vs,ns,rfl,rfl,hobj,hints,hlen⟩:=Vw hn hpre hwl;refine enter_call (codeAny_mono (call w s₀ s₁ mg mb fa o pm cd doc a vs ns G Y ho (fd_plain hd) hcd hmg hobj hints hlen hg) fun r s' hq=>?_);obtain⟨rfl,h2,h3,h4⟩:=hq;exact⟨.inl ⟨.bool true,.bool true,[],rfl,fun _=>rfl,.bool true,Vx l _,fun _=>⟨List.Pairwise.nil,fun _ hm=>(nomatch hm)⟩⟩,h2,h3,h4⟩
end Att
namespace L2
open PySem PySem.Spec PyProof.Rows
theorem JX:∀ {vs:List Value} {ns:List Int},IntsAre vs ns->Vals (ns.map V.int) vs
 | _,_,.nil=>.nil
 | _,_,.cons n t h=>.cons ⟨t,rfl⟩ (JX h)
def Only(H:Hp):Prop:=∀ b,H b=none\/∃ o xs,H b=some (.frz o (.lst xs))
theorem Ye{P:Program}{w:World}{K:aq}{mg mb:Str->Option Value}{CX:CXT}{k:Nat}{fa a:Addr}{fd:FuncData}{x:Str}{sp:Sp}{s₁:Shared}{vs:List Value}{ns:List Int}
 (KX:K.In s₁.heap) (hns:s₁.heap.Ns mainGlobals mg) (hb:s₁.heap.Ns builtinsNs mb) (hbb:∀ x:Str,x ≠ "__name__"->mb x=bootBuiltins x) (hlim:s₁.heap.NoLimit) (hg:s₁.gens= #[])
 (ha:s₁.heap.get? a=some { cls:=.type "list",data:=.seq vs.toArray }) (hi:IntsAre vs ns) (hl:ns.length<=sizeLine) (hr:bZ k callerA)
 (F:∀ base:Heap,K.In base->base.Ns mainGlobals mg->bH P w K mg base CX k fa fd [x] sp) (hbind:∀(s:Shared) (u:Value),BindsTo s fd ⟨[u],[]⟩ [(x,u)])
 (hsp:∀ H:Hp,Only H->SqL K H a (ns.map V.int)->sp [.ref a] H (fun v _=>v= .bl true) fun _ _ _=>False)
 (hCX:∀ H e s',CX [] H s₁ (fun _ _ _=>False) e s'->False):
 codeAny (model P w) callerA (.call (.ref fa) ⟨[.ref a],[]⟩) (fun r s'=>r= .ok (.ret (.bool true))/\OldK s₁.heap s'.heap/\s'.os=s₁.os/\AllBare s'.gens) s₁:=by
 have rv:=JX hi;have lenV:=hi.length
 have core:∀ H:Hp,Only H->SqL K H a (ns.map V.int)->HOk P w H s₁.heap->(∀ b,H b ≠ none->b=a)->(H a ≠ none->K.lookup a=none)->
  codeAny (model P w) callerA (.call (.ref fa) ⟨[.ref a],[]⟩) (fun r s'=>r= .ok (.ret (.bool true))/\OldK s₁.heap s'.heap/\s'.os=s₁.os/\AllBare s'.gens) s₁:=by
  intro H hO hS hok hA hK;have QJ:∀ {b:Addr} {o:Obj},s₁.heap.get? b=some o->H b=none->(yE s₁.heap H).get? b=some o:=fun e n=>XH e n
  have noA:∀ {b:Addr} {o:Obj} {es:Array DictEntry} {ep:Nat},s₁.heap.get? b=some o->o.data= .dict es ep->H b=none:=fun {b o es ep} e d=>by
   cases q:H b with
   | none=>rfl
   | some u=>
     have e':b=a:=hA b (by rw[q];simp);subst e';rw[ha]at e;cases e;have d':Data.seq vs.toArray _=Data.dict es ep:=d;cases d'
  have nsK:∀ {b:Addr} {m:Str->Option Value},s₁.heap.Ns b m->(yE s₁.heap H).Ns b m:=fun {b m} ⟨o,es,ep,e,d,r⟩=>⟨o,es,ep,QJ e (noA e d),d,r⟩
  have hKb:K.In (yE s₁.heap H):=fun b o e=>QJ (KX b o e) (by
   cases q:H b with
   | none=>rfl
   | some u=>
     have e':b=a:=hA b (by rw[q];simp);subst e'
     rw[hK (by rw[q];simp)]at e;cases e)
  have hM:Mod K mg (yE s₁.heap H):=⟨hKb,nsK hns,⟨mb,nsK hb,hbb⟩,let ⟨mc,h1,h2⟩:=hlim;⟨mc,nsK h1,h2⟩⟩;have e0:Eh P w K mg (yE s₁.heap H) callerA [] s₁ H:=⟨rfl,hM,fun b o e=>aax e,Nat.le_of_eq (Vc _ _),trivial,fun b hb=>absurd (show b ∈ ([]:List Addr) from hb) (by simp),hok,.of_eq hg⟩;refine codeAny_mono ((F _ hKb (nsK hns)).run callerA [] s₁ H ⟨[.ref a],[]⟩ [.ref a] [.ref a] _ _ hr e0 (hbind s₁ (.ref a)) (.cons rfl .nil) (hsp H hO hS)) fun r s' h=>?_
  cases r with
  | error e=>exact(hCX H e s' h).elim
  | ok fl=>
    cases fl with
    | next=>exact False.elim h
    | brk=>exact False.elim h
    | cont=>exact False.elim h
    | ret u=>
      obtain⟨v,H',os,bare,un,hok',r',q⟩:=h;have q':v= .bl true:=q;subst q';obtain rfl:u=Value.bool true:=r';refine⟨rfl,OldK.of_keep fun b o e=>?_,os,bare⟩
      cases q:H b with
      | none=>exact un.keep b o e q (by intro z;exact absurd (show b ∈ ([]:List Addr) from z) (by simp)) (by simp)
      | some u=>
        rcases hO b with z | ⟨ob,xs,z⟩
        · rw[q]at z;cases z
        · have z2:=un.qm b ob _ z;obtain⟨e1,_⟩:=hok b _ z;obtain⟨e2,_⟩:=hok' b _ z2;rw[e]at e1;cases e1;exact e2
 cases hk:K.lookup a with
 | some o=>
   have e:=KX a o hk;rw[ha]at e;cases e
   refine core (fun _=>none) (fun _=>.inl rfl) (.inr ⟨_,vs.toArray,_,hk,rfl,rfl,rfl,by rw[List.size_toArray,lenV];exact hl,by simpa using rv⟩) (fun b u z=>by have z':(none:Option HO)=some u:=z;cases z') (fun b z=>absurd rfl z) fun z=>absurd rfl z
 | none=>
   refine core (fun b=>if b=a then some (.frz { cls:=.type "list",data:=.seq vs.toArray } (.lst (ns.map V.int))) else none) (fun b=>?_) (.inl (.inr ⟨{ cls:=.type "list",data:=.seq vs.toArray },if_pos rfl⟩)) (fun b u z=>?_) (fun b z=>?_) fun _=>hk
   · by_cases hb:b=a
     · exact .inr ⟨_,_,if_pos hb⟩
     · exact .inl (if_neg hb)
   · by_cases hb:b=a
     · have z':=(if_pos hb).symm.trans z;cases z';subst hb;exact⟨ha,by rw[List.length_map];exact hl,vs,_,rv,ha⟩
     · have z':=(if_neg hb).symm.trans z;cases z'
   · by_cases hb:b=a
     · exact hb
     · exact absurd (if_neg hb) z
theorem aaH{l:PySem.W.OpenLaw}{n k:Nat}{q:Program}{loose:List Str}{XP:(Str->Option Value)->Heap->Prop}{YP:World->Heap->Prop}{d:DefRec}{K:Params->aq}{CX:World->CXT}{sp:World->Sp}{x:Str}
 (hn:l.most=some n) (hn2:n<=sizeLine) (hdf:d.params.defaults= []) (hr:bZ k callerA)
 (hY:∀(w:World) (h:Heap),YP w h->(K w.params).In h)
 (F:∀(w:World) (mg:Str->Option Value) (fa:Addr) (h:Heap),(K w.params).In h->h.Ns mainGlobals mg->mg d.name=some (.ref fa)->
   ∃ fd:FuncData,(∀(s:Shared) (u:Value),BindsTo s fd ⟨[u],[]⟩ [(x,u)])/\
     ∀ base:Heap,(K w.params).In base->base.Ns mainGlobals mg->bH l.prog w (K w.params) mg base (CX w) k fa fd [x] (sp w))
 (hsp:∀(w:World) (H:Hp) (a:Addr) (ns:List Int),ns.length<=n->Only H->SqL (K w.params) H a (ns.map V.int)->sp w [.ref a] H (fun v _=>v= .bl true) fun _ _ _=>False)
 (hCX:∀(w:World) (H:Hp) (s:Shared) (e:Value) (s':Shared),CX w [] H s (fun _ _ _=>False) e s'->False):
 PySem.W.WalkO q loose XP YP l.row.toRowW d [] (fun f vs=>PySem.call f vs):=by
 refine Att.P_ hn hdf fun w s₀ s₁ mg mb fa o pm cd doc a vs ns G Y ho hd hcd hmg hobj hints hlen hg=>?_;have KX:=hY w _ Y;obtain⟨fd,hb,hF⟩:=F w mg fa _ KX G.T.g hmg;exact Ye KX G.T.g G.T.b G.T.builtins G.T.nolimit hg hobj hints (Nat.le_trans hlen hn2) hr hF hb (fun H hO hS=>hsp w H a ns hlen hO hS) fun H e s'=>hCX w H s₁ e s'
def inClass(s:Stmt)(j:Nat):Stmt:=match s with
 | .ClassDef _ _ _ body _ _ _ _ _ _ _=>body.getD j (.Pass ⟨0,0,0,0⟩)
 | _=>.Pass ⟨0,0,0,0⟩
def kO(s:Stmt):Arguments:=match s with
 | .FunctionDef _ a _ _ _ _ _ _ _ _=>a
 | _=>{ posonlyargs:=[],args:=[],vararg:=none,kwonlyargs:=[],kw_defaults:=[],kwarg:=none,defaults:=[] }
def d8(s:Stmt):List Stmt:=match s with
 | .FunctionDef _ _ b _ _ _ _ _ _ _=>b
 | _=>[]
def au(s:Stmt):Scope:=match s with
 | .FunctionDef _ _ _ _ _ _ sc _ _ _=>sc
 | _=>{ kind:=.function,names:=[],isGenerator:=false,isCoroutine:=false }
abbrev CX0:CXT:=fun _ _ _ _ _ _=>False
abbrev E0:XK:=fun _ _ _=>False
theorem uG{X:Cx}:Passes CX0 X E0:=fun _ _ _ _ _ _ _ h=>h.elim
structure Fun (K:aq)(x qual:Str)(st:Stmt)(f:Addr)(fd:FuncData):Prop where
 ex:∃(oc:Value) (od:Option Addr) (kV doc pm:Value) (an:Option Addr) (cdv ct:Value) (osl:Array (Option Value)),
  fd=PySem.W.fnOf x qual (kO st) (d8 st) (au st) .none kV doc pm an cdv ct/\K.lookup f=some ⟨oc,od,.func fd,osl⟩/\PySem.W.codeIn K cdv qual=true
 kp:PySem.W.keepIn K (.ref f)=true
section
variable{P:Program}{w:World}{K:aq}{mg:Str->Option Value}{base:Heap}
theorem Fun.ok{x qual:Str}{st:Stmt}{f:Addr}{fd:FuncData}{N ps:List Str}{k:Nat}{sp:Sp}(F:Fun K x qual st f fd)(S:aD N ps (au st))(len:∀ vs H Q E,sp vs H Q E->vs.length=ps.length)
 (hbody:∀(cdv:Value) (A:Around) (outer:List Env) (s:Shared) (H:Hp) (vs:List V) (Q:VK) (E:XK),bZ k (A.deeper (envOfC qual (au st) s.heap.objs.size f cdv))->sp vs H Q E->
   ∃ t,PSs (qT CX0 P w K mg base N qual (au st) f cdv A outer s H E).nox (d8 st) t/\t { nx:=fun _ H'=>Q .non H',rt:=Q } (start N vs) H):bH P w K mg base CX0 (k+1) f fd ps sp:=by
 obtain⟨oc,od,kV,doc,pm,an,cdv,ct,osl,rfl,lk,hcd⟩:=F.ex;refine ZR lk hcd S len fun A outer s H vs Q E hr hsp=>?_;obtain⟨t,h,q⟩:=hbody cdv A outer s H vs Q E hr hsp;exact⟨t,h.nox,q⟩
theorem Fun.binds{x qual:Str}{st:Stmt}{f:Addr}{fd:FuncData}{ps:List Str}(F:Fun K x qual st f fd)
 (h:∀(kV doc pm:Value) (an:Option Addr) (cdv ct:Value) (us:List Value),us.length=ps.length->bindArgs (PySem.W.fnOf x qual (kO st) (d8 st) (au st) .none kV doc pm an cdv ct) ⟨us,[]⟩ =pure (ps.zip us)):Binds K fd ps []:=by
 obtain⟨oc,od,kV,doc,pm,an,cdv,ct,osl,rfl,lk,hcd⟩:=F.ex;exact .all (h kV doc pm an cdv ct)
theorem Gh{x qual:Str}{st:Stmt}{f:Addr}{oc:Value}{od an:Option Addr}{osl:Array (Option Value)}{kV doc pm cdv ct:Value}(l:K.lookup f=some ⟨oc,od,.func (PySem.W.fnOf x qual (kO st) (d8 st) (au st) .none kV doc pm an cdv ct),osl⟩)
 (c:PySem.W.codeIn K cdv qual=true) (k:PySem.W.keepIn K (.ref f)=true):Fun K x qual st f (PySem.W.fnOf x qual (kO st) (d8 st) (au st) .none kV doc pm an cdv ct):=⟨⟨oc,od,kV,doc,pm,an,cdv,ct,osl,rfl,l,c⟩,k⟩
end
theorem Vy{n:Nat}(h:n<=1000):n<sizeLine:=Nat.lt_of_le_of_lt h (by decide)
section
variable{X:Cx}
theorem pv(i:Nat){x:Str}{pos:Pos}(hN:X.N[i]? =some x:=by rfl)(hv:Vis X.env.scope x:=by first | exact Or.inl rfl | exact Or.inr (Or.inl rfl) | exact Or.inr (Or.inr rfl))(hd:(x==("__debug__":Str))=false:=by decide)
 (hcd:(x==("__classdict__":Str))=false:=by decide):PE X (.Name x pos) (abR i):=Ve hN hv hd hcd
end
theorem yJ{A B:Prop}(h:B):if false=true then A else B:=by
 rw[if_neg Bool.false_ne_true];exact h
theorem yK{A B:Prop}(h:A):if true=true then A else B:=by
 rw[if_pos rfl];exact h
theorem SN{c A B:Prop}[Decidable c](h1:c->A)(h2:¬ c->B):if c then A else B:=by
 by_cases h:c
 · rw[if_pos h];exact h1 h
 · rw[if_neg h];exact h2 h
def fQ(H H':Hp):Prop:=∀ b o,H b=some o->H' b=some o
theorem fQ.trans{H H1 H2:Hp}(a:fQ H H1)(b:fQ H1 H2):fQ H H2:=fun c o h=>b c o (a c o h)
end L2
set_option maxRecDepth 1000000
set_option maxHeartbeats 4000000
namespace L2
open PySem PySem.Spec PyProof.Rows
section
variable{κ:Type}[DecidableEq κ]
def m9(kvs:List (κ × V))(k:κ):Option V:=(kvs.find? fun kv=>decide (kv.1=k)).map (·.2)
def putK(kvs:List (κ × V))(k:κ)(v:V):List (κ × V):=
 if(kvs.any fun kv=>decide (kv.1=k))=true then kvs.map (fun kv=>if kv.1=k then(kv.1,v) else kv) else kvs ++ [(k,v)]
theorem vq{p:κ × V}{r:List (κ × V)}{k:κ}(e:p.1=k):m9 (p::r) k=some p.2:=by simp[m9,List.find?_cons,e]
theorem vz{p:κ × V}{r:List (κ × V)}{k:κ}(e:¬ p.1=k):m9 (p::r) k=m9 r k:=by simp[m9,List.find?_cons,e]
theorem yL(k:κ):∀ kvs:List (κ × V),(kvs.any fun kv=>decide (kv.1=k))=(m9 kvs k).isSome
 | []=>rfl
 | p::r=>by
   rw[List.any_cons]
   by_cases e:p.1=k
   · simp only[vq e,decide_eq_true e,Bool.true_or,Option.isSome_some]
   · rw[vz e,decide_eq_false e,Bool.false_or];exact yL k r
theorem DW(kvs:List (κ × V))(k:κ)(v:V):(putK kvs k v).length<=kvs.length+1:=by
 unfold putK
 split
 · rw[List.length_map];omega
 · rw[List.length_append,List.length_cons,List.length_nil];omega
theorem pq.An{o:Option V}{u:Option Value}(r:pq o u):o.isSome=u.isSome:=by
 cases o with
 | none=>cases u with
   | none=>rfl
   | some _=>exact(show False from r).elim
 | some _=>cases u with
   | none=>exact(show False from r).elim
   | some _=>rfl
theorem KV.val{kvs:List (κ × V)}{vs:List (κ × Value)}(r:KV kvs vs)(k:κ):pq (m9 kvs k) (valueAt vs k):=by
 unfold KV at r
 induction r with
 | nil=>exact True.intro
 | @cons p q ps qs h t ih=>
   obtain⟨h1,h2⟩:=h
   by_cases e:p.1=k
   · have e':q.1=k:=h1.symm.trans e;have b:valueAt (q::qs) k=some q.2:=by simp[valueAt,List.find?_cons,e']
     rw[vq e,b];exact h2
   · have e':¬ q.1=k:=fun z=>e (h1.trans z);have b:valueAt (q::qs) k=valueAt qs k:=by simp[valueAt,List.find?_cons,e']
     rw[vz e,b];exact ih
theorem KV.any{kvs:List (κ × V)}{vs:List (κ × Value)}(r:KV kvs vs)(k:κ):(kvs.any fun kv=>decide (kv.1=k))=vs.any fun kv=>decide (kv.1=k):=by
 unfold KV at r
 induction r with
 | nil=>rfl
 | cons h t ih=>rw[List.any_cons,List.any_cons,ih,h.1]
theorem KV.repl{kvs:List (κ × V)}{vs:List (κ × Value)}(r:KV kvs vs)(k:κ){y:V}{u:Value}(ry:RelV y u):
 KV (kvs.map fun kv=>if kv.1=k then(kv.1,y) else kv) (vs.map fun kv=>if kv.1=k then(kv.1,u) else kv):=by
 unfold KV at r ⊢
 induction r with
 | nil=>exact .nil
 | @cons p q ps qs h t ih=>
   rw[List.map_cons,List.map_cons];refine .cons ?_ ih;obtain⟨h1,h2⟩:=h
   by_cases e:p.1=k
   · rw[if_pos e,if_pos (h1.symm.trans e)];exact⟨h1,ry⟩
   · rw[if_neg e,if_neg (fun z=>e (h1.trans z))];exact⟨h1,h2⟩
theorem KV.put{kvs:List (κ × V)}{vs:List (κ × Value)}(r:KV kvs vs)(k:κ){y:V}{u:Value}(ry:RelV y u):KV (putK kvs k y) (stored vs k u):=by
 unfold putK stored;rw[r.any k]
 by_cases e:(vs.any fun kv=>decide (kv.1=k))=true
 · rw[if_pos e,if_pos e];exact r.repl k ry
 · rw[if_neg e,if_neg e];exact Paired.snoc r ⟨rfl,ry⟩
theorem KV.length{kvs:List (κ × V)}{vs:List (κ × Value)}(r:KV kvs vs):kvs.length=vs.length:=Paired.length r
end
theorem Ls{P:Program}{w:World}{k:Key}{u:Value}(r:RelV (kV k) u):(iH P w).is k u=true:=by
 cases k with
 | inl i=>obtain⟨t,e⟩:=(show ∃ t,u=Value.int i t from r);subst e;exact PL P w i t
 | inr x=>obtain⟨t,e⟩:=(show ∃ t,u=Value.str x t from r);subst e;exact PX P w x t
theorem JZ{P:Program}{w:World}:∀ {ks:List Key} {us:List Value},Vals (ks.map kV) us->ItemsAre (iH P w) ks us
 | [],_,r=>by rw[List.map_nil]at r;cases r;exact .nil
 | k::ks,_,r=>by
   rw[List.map_cons]at r
   cases r with
   | cons h t=>exact .cons (Ls h) (JZ t)
abbrev KT(H:Hp):List (List Key × V)->List (List Key × Addr × Value)->Prop:=Paired fun p q=>p.1=q.1/\H q.2.1=some (.tup (p.1.map kV))/\RelV p.2 q.2.2
theorem KT.val{H:Hp}{kvs:List (List Key × V)}{xs:List (List Key × Addr × Value)}(r:KT H kvs xs)(k:List Key):pq (m9 kvs k) ((atKey xs k).map (·.2)):=by
 induction r with
 | nil=>exact True.intro
 | @cons p q ps qs h t ih=>
   obtain⟨h1,_,h2⟩:=h
   by_cases e:p.1=k
   · have e':q.1=k:=h1.symm.trans e;have b:atKey (q::qs) k=some q.2:=by simp[atKey,List.find?_cons,e']
     rw[vq e,b];exact h2
   · have e':¬ q.1=k:=fun z=>e (h1.trans z);have b:atKey (q::qs) k=atKey qs k:=by simp[atKey,List.find?_cons,e']
     rw[vz e,b];exact ih
theorem KT.repl{H:Hp}{kvs:List (List Key × V)}{xs:List (List Key × Addr × Value)}(r:KT H kvs xs)(k:List Key){y:V}{u:Value}(ry:RelV y u):
 KT H (kvs.map fun kv=>if kv.1=k then(kv.1,y) else kv) (xs.map (putAt k u)):=by
 induction r with
 | nil=>exact .nil
 | @cons p q ps qs h t ih=>
   rw[List.map_cons,List.map_cons];refine .cons ?_ ih;obtain⟨h1,h2,h3⟩:=h;unfold putAt
   by_cases e:p.1=k
   · rw[if_pos e,if_pos (h1.symm.trans e)];exact⟨h1,h2,ry⟩
   · rw[if_neg e,if_neg (fun z=>e (h1.trans z))];exact⟨h1,h2,h3⟩
theorem KT.put{H:Hp}{kvs:List (List Key × V)}{xs:List (List Key × Addr × Value)}(r:KT H kvs xs)(k:List Key){b:Addr}{y:V}{u:Value}(hb:H b=some (.tup (k.map kV)))(ry:RelV y u):
 KT H (putK kvs k y) (storedH xs k b u):=by
 have e:(kvs.any fun kv=>decide (kv.1=k))=(atKey xs k).isSome:=by
  rw[yL,(r.val k).An,Option.isSome_map]
 unfold putK storedH;rw[e]
 by_cases q:(atKey xs k).isSome=true
 · rw[if_pos q,if_pos q];exact r.repl k ry
 · rw[if_neg q,if_neg q];exact Paired.snoc r ⟨rfl,hb,ry⟩
theorem KT.keeps{H H':Hp}{kvs:List (List Key × V)}{xs:List (List Key × Addr × Value)}(r:KT H kvs xs)(ht:∀ b ys,H b=some (.tup ys)->H' b=some (.tup ys)):KT H' kvs xs:=
 Paired.pA r fun _ _ z=>⟨z.1,ht _ _ z.2.1,z.2.2⟩
section
variable{P:Program}{w:World}{H:Hp}{h:Heap}{a:Addr}
theorem ZS{u:HO}(ok:HOk P w H h)(e:Rd H a u):b8 P w H h a u:=e.ok ok
theorem Lw{kvs:List (Key × V)}(ok:HOk P w H h)(e:Rd H a (.dK kvs)):kvs.length<=sizeLine/\(a==sysModules)=false/\∃ vs,KV kvs vs/\h.DictOf (iH P w) a vs:=
 show b8 P w H h a (.dK kvs) from ZS ok e
theorem aeG{kvs:List (Key × V)}(ok:HOk P w H h)(e:H a=some (.dK kvs)):kvs.length<=sizeLine/\(a==sysModules)=false/\∃ vs,KV kvs vs/\h.DictOf (iH P w) a vs:=Lw ok (.inl e)
theorem Gi{ks:List Key}(ok:HOk P w H h)(e:H a=some (.tup (ks.map kV))):(tupleKind (iH P w)).is h ks a:=by
 obtain⟨_,its,r,o,h1,h2,n,h3⟩:=(show b8 P w H h a (.tup (ks.map kV)) from ok a _ e);exact⟨o,its.toArray,n,h1,h2,h3,by simpa using JZ r⟩
theorem Lx{kvs:List (List Key × V)}(ok:HOk P w H h)(e:Rd H a (.dT kvs)):kvs.length<=sizeLine/\(a==sysModules)=false/\
 ∃ xs,KT H kvs xs/\h.DictOfH (tupleKind (iH P w)) a xs:=by
 obtain⟨z,y,xs,r,o,es,ep,h1,h2,h3,h4,h5⟩:=(show b8 P w H h a (.dT kvs) from ZS ok e);refine⟨z,y,xs,r,o,es,ep,h1,h2,h3,h4,fun x hx=>?_,h5⟩
 have all:∀ {l:List (List Key × V)} {m:List (List Key × Addr × Value)},KT H l m->∀ x ∈ m,(tupleKind (iH P w)).is h x.1 x.2.1:=by
  intro l m q
  induction q with
  | nil=>intro x hx;exact nomatch hx
  | @cons p q ps qs hq t ih=>
    intro x hx
    rcases List.mem_cons.mp hx with e | hx
    · subst e;exact Gi ok (by rw[<- hq.1];exact hq.2.1)
    · exact ih x hx
 exact all r x hx
theorem aeH{kvs:List (List Key × V)}(ok:HOk P w H h)(e:H a=some (.dT kvs)):kvs.length<=sizeLine/\(a==sysModules)=false/\
 ∃ xs,KT H kvs xs/\h.DictOfH (tupleKind (iH P w)) a xs:=Lx ok (.inl e)
end
def rT(H:Hp)(a:Addr)(y:V)(r:Option V):Prop:=
 (∃ kvs k,Rd H a (.dK kvs)/\y=kV k/\r=m9 kvs k)\/∃ kvs k b,Rd H a (.dT kvs)/\y= .ref b/\H b=some (.tup (k.map kV))/\r=m9 kvs k
def Ao(H:Hp)(a:Addr)(y v:V)(H':Hp):Prop:=
 (∃ kvs k,H a=some (.dK kvs)/\y=kV k/\kvs.length<sizeLine/\H'=upd H a (.dK (putK kvs k v)))\/
 ∃ kvs k b,H a=some (.dT kvs)/\y= .ref b/\H b=some (.tup (k.map kV))/\kvs.length<sizeLine/\H'=upd H a (.dT (putK kvs k v))
theorem rT.k{H:Hp}{a:Addr}{kvs:List (Key × V)}{k:Key}(e:H a=some (.dK kvs)):rT H a (kV k) (m9 kvs k):=.inl ⟨kvs,k,.inl e,rfl,rfl⟩
theorem rT.t{H:Hp}{a b:Addr}{kvs:List (List Key × V)}{k:List Key}(e:H a=some (.dT kvs))(eb:H b=some (.tup (k.map kV))):rT H a (.ref b) (m9 kvs k):=.inr ⟨kvs,k,b,.inl e,rfl,eb,rfl⟩
theorem Ao.k{H:Hp}{a:Addr}{kvs:List (Key × V)}{k:Key}{v:V}(e:H a=some (.dK kvs))(hl:kvs.length<sizeLine):Ao H a (kV k) v (upd H a (.dK (putK kvs k v))):=.inl ⟨kvs,k,e,rfl,hl,rfl⟩
theorem Ao.t{H:Hp}{a b:Addr}{kvs:List (List Key × V)}{k:List Key}{v:V}(e:H a=some (.dT kvs))(eb:H b=some (.tup (k.map kV)))(hl:kvs.length<sizeLine):
 Ao H a (.ref b) v (upd H a (.dT (putK kvs k v))):=.inr ⟨kvs,k,b,e,rfl,eb,hl,rfl⟩
section
variable{X:Cx}{pins:List (Addr × Obj)}{σ:St}{H:Hp}{s:Shared}{a:Addr}{y v:V}{u r:Value}{o:Option V}{A:Around}{E:Value->Shared->Prop}
theorem Inv.big(I:Inv X pins σ H s):sysModules<s.heap.objs.size:=by
 have h:mainGlobals<s.heap.objs.size:=(I.mod.glob.keeps I.bk).lt;exact Nat.lt_trans (by decide) h
theorem Vz{Q:Value->Shared->Prop}(hu:A.units+1<cLine)(I:Inv X pins σ H s)(g:rT H a y (some v))(ry:RelV y u)(h:∀ w' s',Inv X pins σ H s'->RelV v w'->Q w' s'):
 wpAny (model X.prog X.w) A (getItem (.ref a) u) Q E s:=by
 rcases g with ⟨kvs,k,e,ey,l⟩ | ⟨kvs,k,b,e,ey,eb,l⟩
 · subst ey;obtain⟨z,hd,vs,rel,dd⟩:=Lw I.hok e;obtain⟨w',hw,rw'⟩:=pq.some_of (v:=v) (o:=valueAt vs k) (by rw[l];exact rel.val k);exact wpAny_getItem_of (Ls ry) dd.mapOf hw (h w' _ (I.tok _) rw')
 · subst ey;cases (show u=Value.ref b from ry);obtain⟨z,hd,xs,rel,dd⟩:=Lx I.hok e;obtain⟨w',hw,rw'⟩:=pq.some_of (v:=v) (o:=(atKey xs k).map (·.2)) (by rw[l];exact rel.val k);obtain⟨p,hp,hp2⟩:=Option.map_eq_some_iff.mp hw;refine wpAny_getItem_heap (tupleKind_room_in1 hu) (Gi I.hok eb) dd hp ?_;rw[hp2];exact h w' _ (I.tok _) rw'
theorem afN{Q:Value->Shared->Prop}(hu:A.units+1<cLine)(I:Inv X pins σ H s)(g:rT H a y o)(ry:RelV y u)(h:∀ s',Inv X pins σ H s'->Q (.bool o.isSome) s'):
 wpAny (model X.prog X.w) A (compareOp .In u (.ref a)) Q E s:=by
 rcases g with ⟨kvs,k,e,ey,l⟩ | ⟨kvs,k,b,e,ey,eb,l⟩
 · subst ey;obtain⟨z,hd,vs,rel,dd⟩:=Lw I.hok e;refine wpAny_in_of (Ls ry) hd dd.mapOf ?_;rw[<- (rel.val k).An,<- l];exact h _ (I.tok _)
 · subst ey;cases (show u=Value.ref b from ry);obtain⟨z,hd,xs,rel,dd⟩:=Lx I.hok e;refine wpAny_in_heap (tupleKind_room_in1 hu) (Gi I.hok eb) hd dd ?_;have q:=(rel.val k).An;rw[Option.isSome_map]at q;rw[<- q,<- l];exact h _ (I.tok _)
theorem QK{h':Heap}{t':Nat}{ob:HO}(I:Inv X pins σ H s)(mu:Mut (H a))(hs:Heap.SameBut a s.heap h')(he:∃ q,h'.get? a=some q)(new:b8 X.prog X.w (upd H a ob) h' a ob):
 Inv X pins σ (upd H a ob) { s with heap:=h',toks:=t' }:=
 I.write (x:=a) (e:=a) mu (.inl rfl) (fun b q hb z=>(hs.2 b hb).trans z) he new
theorem acz{P:Program}{w:World}{H':Hp}{h':Heap}{kvs:List (Key × V)}{vs:List (Key × Value)}(z:kvs.length<=sizeLine)(hd:(a==sysModules)=false)(rel:KV kvs vs)(dd:h'.DictOf (iH P w) a vs):
 b8 P w H' h' a (.dK kvs):=⟨z,hd,vs,rel,dd⟩
theorem VB{H':Hp}{Q:Unit->Shared->Prop}(hu:A.units+1<cLine)(I:Inv X pins σ H s)(g:Ao H a y v H')(ry:RelV y u)(rv:RelV v r)(h:∀ s',Inv X pins σ H' s'->Q () s'):
 wpAny (model X.prog X.w) A (setItem (.ref a) u r) Q E s:=by
 rcases g with ⟨kvs,k,e,ey,l,eH⟩ | ⟨kvs,k,b,e,ey,eb,l,eH⟩
 · subst ey eH;obtain⟨z,hd,vs,rel,dd⟩:=aeG I.hok e;have hz:vs.length<=sizeLine:=by rw[<- rel.length];exact z
   have hl:(putK kvs k v).length<=sizeLine:=by have:=DW kvs k v;omega
   refine wpAny_setItem_pairs (hsz:=hz) (Ls ry) dd fun h' dd' hs=>h _ ?_;have he:∃ q,h'.get? a=some q:=let ⟨q,_,_,hq,_⟩:=dd';⟨q,hq⟩;exact QK I (by rw[e];exact True.intro) hs he (acz hl hd (rel.put k rv) dd')
 · subst ey eH;cases (show u=Value.ref b from ry);obtain⟨z,hd,xs,rel,dd⟩:=aeH I.hok e;have hz:xs.length<=sizeLine:=by rw[<- Paired.length rel];exact z
   have hl:(putK kvs k v).length<=sizeLine:=by have:=DW kvs k v;omega
   refine wpAny_setItem_heap (hsz:=hz) (tupleKind_room_in1 hu) (Gi I.hok eb) dd fun h' dd' hs=>h _ ?_;obtain⟨q,es,ep,hq,h2,h3,h4,_,h5⟩:=dd';refine QK I (by rw[e];exact True.intro) hs ⟨q,hq⟩ ⟨hl,hd,_,(rel.put k eb rv).keeps fun c ys ec=>?_,q,es,ep,hq,h2,h3,h4,h5⟩;rw[aN (ZG ec e (fun z=>nomatch z))];exact ec
end
theorem Qa{X:Cx}{pins:List (Addr × Obj)}{σ:St}{H:Hp}{s:Shared}{a:Addr}{y:V}{o:Option V}(I:Inv X pins σ H s)(g:rT H a y o):s.TypeIs (.ref a) "dict":=by
 rcases g with ⟨kvs,k,e,_,_⟩ | ⟨kvs,k,b,e,_,_,_⟩
 · obtain⟨_,_,vs,_,dd⟩:=Lw I.hok e;exact dd.typeIs
 · obtain⟨_,_,xs,_,dd⟩:=Lx I.hok e;exact dd.typeIs
def SQ(td ty tv:TE):TS:=fun D σ H=>tv σ H fun v H1=>td σ H1 fun x H2=>ty σ H2 fun y H3=>∃ a H4,x= .ref a/\Ao H3 a y v H4/\D.nx σ H4
section
variable{X:Cx}{o i e value:Expr}{pos pos' tpos:Pos}{td ty tv:TE}
theorem QL(hu:X.A.units+1<cLine)(ho:PE X o td)(hi:PE X i ty)(hv:PE X value tv)(hs:swapsWith value (some (.Subscript o i pos')) pos.line X.env=pure false):
 PS X (.Assign [.Subscript o i pos'] value pos) (SQ td ty tv):=by
 intro pins s σ H D I h;refine wpAny_Assign_Subscript (thn (hv pins s σ H _ I h) fun r s1 ⟨v,H1,I1,rv,q1⟩=>thn (ho pins s1 σ H1 _ I1 q1) fun u s2 ⟨x,H2,I2,rx,q2⟩=>thn (hi pins s2 σ H2 _ I2 q2) fun iv s3 ⟨y,H3,I3,ry,a,H4,ex,g,q3⟩=>?_) hs;subst ex;obtain rfl:u=Value.ref a:=rx;exact VB hu I3 g ry rv fun s4 I4=>⟨σ,H4,I4,q3⟩
end
theorem Yg{P:Program}{w:World}{H:Hp}(h:Heap)(hb:sysModules<h.objs.size):b8 P w H (h.push { cls:=.type "dict",data:=.dict #[] }) h.objs.size (.dK []):=
 ⟨Nat.zero_le _,beq_eq_false_iff_ne.mpr (Ne.symm (Nat.ne_of_lt hb)),[],.nil,Heap.DictOf.new h⟩
theorem Yh{P:Program}{w:World}{H:Hp}(h:Heap)(hb:sysModules<h.objs.size):b8 P w H (h.push { cls:=.type "dict",data:=.dict #[] }) h.objs.size (.dT []):=
 ⟨Nat.zero_le _,beq_eq_false_iff_ne.mpr (Ne.symm (Nat.ne_of_lt hb)),[],.nil,_,#[],0,Heap.get?_push_size _ rfl,⟨rfl,rfl,rfl⟩,rfl,rfl,List.nodup_nil⟩
def acA:TE:=fun _ H Q=>∀ p,H p=none->Q (.ref p) (upd H p (.dK []))
def acB:TE:=fun _ H Q=>∀ p,H p=none->Q (.ref p) (upd H p (.dT []))
section
variable{X:Cx}{pos:Pos}
theorem Yi:PE X (.Dict [] [] pos) acA:=fun pins s σ H Q I h=>
 wpAny_Dict_empty ⟨.ref s.heap.objs.size,_,I.laid (a:=s.heap.objs.size) (o:=.dK []) (t':=s.toks) (fun _ _ q=>Heap.get?_push_of_some _ q) (az _) (Yg s.heap I.big),rfl,h _ (I.hok.fresh (az _))⟩
theorem Yj:PE X (.Dict [] [] pos) acB:=fun pins s σ H Q I h=>
 wpAny_Dict_empty ⟨.ref s.heap.objs.size,_,I.laid (a:=s.heap.objs.size) (o:=.dT []) (t':=s.toks) (fun _ _ q=>Heap.get?_push_of_some _ q) (az _) (Yh s.heap I.big),rfl,h _ (I.hok.fresh (az _))⟩
end
def VD:List (TE × TE)->St->Hp->(List (V × V)->Hp->Prop)->Prop
 | [],_,H,Q=>Q [] H
 | (tk,tv)::r,σ,H,Q=>tk σ H fun x H1=>tv σ H1 fun y H2=>VD r σ H2 fun ps H3=>Q ((x,y)::ps) H3
abbrev VV:List (V × V)->List (Value × Value)->Prop:=Paired fun p q=>RelV p.1 q.1/\RelV p.2 q.2
def PPs(X:Cx)(pos:Pos)(keys:List (Option Expr))(values:List Expr)(trs:List (TE × TE)):Prop:=
 ∀(pins:List (Addr × Obj)) (s:Shared) (σ:St) (H:Hp) (Q:List (V × V)->Hp->Prop),Inv X pins σ H s->VD trs σ H Q->
  wpAny (model X.prog X.w) X.A (evalPairs (pairTrees keys values X.env pos)) (fun vs s'=>∃ ps H',Inv X pins σ H' s'/\VV ps vs/\Q ps H') X.xe s
structure M1 (X:Cx)(o:Expr)(m:Str)(apos:Pos)(e:Expr)(cpos:Pos):Prop where
 base:attributeBase o m X.env (eval o X.env)=eval o X.env
 few:((backTo cpos (starEach [e] X.env)).all (fun x=> !x.1)&&(backToKw cpos (keywordEach [] X.env)).all (fun x=>x.1.isSome)
  && decide (([e]:List Expr).length+([]:List Keyword).length+(if([]:List Keyword).isEmpty then 0 else 1)<30))=true
 line:(apos.endLine==cpos.line)=true
 trees:backTo cpos (starEach [e] X.env)= [(false,eval e X.env)]
structure M2 (X:Cx)(o:Expr)(m:Str)(apos:Pos)(e f:Expr)(cpos:Pos):Prop where
 base:attributeBase o m X.env (eval o X.env)=eval o X.env
 few:((backTo cpos (starEach [e,f] X.env)).all (fun x=> !x.1)&&(backToKw cpos (keywordEach [] X.env)).all (fun x=>x.1.isSome)
  && decide (([e,f]:List Expr).length+([]:List Keyword).length+(if([]:List Keyword).isEmpty then 0 else 1)<30))=true
 line:(apos.endLine==cpos.line)=true
 trees:backTo cpos (starEach [e,f] X.env)= [(false,eval e X.env),(false,eval f X.env)]
end L2
namespace L2
open PySem PySem.Spec PySem.SeqAt PyProof.Rows
theorem log2_lt_of{n k:Nat}(hk:0<k)(h:n<2 ^ k):n.log2<k:=by
 rcases Nat.eq_zero_or_pos n with h0 | hp
 · rw[h0];exact hk
 · exact(Nat.log2_lt (Nat.ne_of_gt hp)).mpr h
def Sml(i:Int):Prop:=i.natAbs<2 ^ 4000
theorem DX{i:Int}(h:Sml i):Builtin.Int.intBits i<=2 ^ 20:=by
 have hl:i.natAbs.log2<4000:=log2_lt_of (by decide) h;have e:(2:Nat) ^ 20=1048576:=by decide
 unfold Builtin.Int.intBits
 split <;> omega
def Ly(i j:Int):Prop:=XX i j\/(Sml i/\Sml j)
def ZV(j:Int):Prop:=j ≠ 0/\Sml j
section
variable{X:Cx}
theorem fK:OpR X (binaryOp .Mult) (rI Ly fun i j=>.int (i*j)):=opI fun _ _ _ _ _ _ _ hc q=>by
 rcases hc with hc | ⟨h1,h2⟩
 · exact mul_int q hc.ok
 · exact mul_int q (IntMulOk.of_bits (DX h1) (DX h2))
theorem vA:OpR X (binaryOp .FloorDiv) (rI (fun _ j=>ZV j) fun i j=>.int (i.fdiv j)):=opI fun i j _ _ _ _ _ hc q=>
 floordiv_int hc.1 q (.inl (PyProof.noPylong_of_log2 (aY (log2_lt_of (k:=4000) (by decide) hc.2) (by decide))))
def afO(K:aq):List V->Hp->VK->Prop:=fun xs H Q=>∃ x n t b,xs= [x,.ty n]/\qR K H x t/\PySem.W.kitOne K t (.type n)=some b/\Q (.bl b) H
theorem Yk:lV X (.builtin "isinstance") (afO X.K):=by
 intro pins s σ H xs us Q I r h;obtain⟨x,n,t,b,rfl,ty,e,q⟩:=h;obtain⟨u,v,rfl,ru,rv⟩:=vals2 r;cases (show v=Value.type n from rv);exact Vq I ru ty e fun tk=>⟨.bl b,H,I.tok _,rfl,q⟩
end
mutual
inductive Rep (H:Hp):V->PyData->Prop
 | non:Rep H .non .none
 | bl (b):Rep H (.bl b) (.bool b)
 | int (i):Rep H (.int i) (.int i)
 | str (x):Rep H (.str x) (.str x)
 | lst {a xs ds}:H a=some (.lst xs)->iu H xs ds->Rep H (.ref a) (.list ds)
 | tup {a xs ds}:H a=some (.tup xs)->iu H xs ds->Rep H (.ref a) (.tuple ds)
inductive iu (H:Hp):List V->List PyData->Prop
 | nil:iu H [] []
 | cons {v vs d ds}:Rep H v d->iu H vs ds->iu H (v::vs) (d::ds)
end
mutual
theorem Rep.mono{H H':Hp}(e:fQ H H'):∀ {v:V} {d:PyData},Rep H v d->Rep H' v d
 | _,_,.non=>.non
 | _,_,.bl b=>.bl b
 | _,_,.int i=>.int i
 | _,_,.str x=>.str x
 | _,_,.lst h r=>.lst (e _ _ h) (iu.mono e r)
 | _,_,.tup h r=>.tup (e _ _ h) (iu.mono e r)
theorem iu.mono{H H':Hp}(e:fQ H H'):∀ {vs:List V} {ds:List PyData},iu H vs ds->iu H' vs ds
 | _,_,.nil=>.nil
 | _,_,.cons r t=>.cons (Rep.mono e r) (iu.mono e t)
end
mutual
theorem Rep.reads{P:Program}{w:World}{H:Hp}{h:Heap}(ok:HOk P w H h):∀ {v:V} {d:PyData} {u:Value},Rep H v d->RelV v u->∃ as,Reads h u d as
 | _,_,_,.non,r=>by cases r;exact⟨_,.none⟩
 | _,_,_,.bl b,r=>by cases r;exact⟨_,.bool b⟩
 | _,_,_,.int i,r=>by obtain⟨t,rfl⟩:=r;exact⟨_,.int i t⟩
 | _,_,_,.str x,r=>by obtain⟨t,rfl⟩:=r;exact⟨_,.str x t⟩
 | _,_,_,.lst (a:=a) (xs:=xs) e ra,r=>by
   cases r;obtain⟨_,its,n,rv,ho⟩:=(show b8 P w H h a (.lst xs) from ok a _ e);obtain⟨as,q⟩:=iu.reads ok ra rv
   exact⟨_,.list ho rfl rfl (by simpa using q)⟩
 | _,_,_,.tup (a:=a) (xs:=xs) e ra,r=>by
   cases r;obtain⟨_,its,rv,o,ho,hc,n,hd⟩:=(show b8 P w H h a (.tup xs) from ok a _ e);obtain⟨as,q⟩:=iu.reads ok ra rv;exact⟨_,.tuple ho hc hd (by simpa using q)⟩
theorem iu.reads{P:Program}{w:World}{H:Hp}{h:Heap}(ok:HOk P w H h):∀ {vs:List V} {ds:List PyData} {us:List Value},iu H vs ds->Vals vs us->∃ as,ReadsAll h us ds as
 | _,_,_,.nil,.nil=>⟨_,.nil⟩
 | _,_,_,.cons r t,.cons rv tv=>by
   obtain⟨as,q1⟩:=Rep.reads ok r rv;obtain⟨bs,q2⟩:=iu.reads ok t tv;exact⟨_,.cons q1 q2⟩
end
section
variable{X:Cx}
def acC:R2:=fun x y H Q=>∃ dx dy,Rep H x dx/\Rep H y dy/\shaped dx=true/\shaped dy=true/\Q (.bl (PyData.eqv dx dy)) H
def acD:R2:=fun x y H Q=>∃ dx dy,Rep H x dx/\Rep H y dy/\shaped dx=true/\shaped dy=true/\Q (.bl (!PyData.eqv dx dy)) H
theorem cY(hu:X.A.units+64<cLine):OpR X (compareOp .Eq) acC:=by
 intro pins s σ H x y v u Q I rx ry h;obtain⟨dx,dy,hx,hy,sx,sy,q⟩:=h;obtain⟨as,ra⟩:=hx.reads I.hok rx;obtain⟨bs,rb⟩:=hy.reads I.hok ry;exact eq_dataH ra rb sx sy hu ⟨.bl _,H,I,rfl,q⟩
theorem tZ(hu:X.A.units+64<cLine):OpR X (compareOp .NotEq) acD:=by
 intro pins s σ H x y v u Q I rx ry h;obtain⟨dx,dy,hx,hy,sx,sy,q⟩:=h;obtain⟨as,ra⟩:=hx.reads I.hok rx;obtain⟨bs,rb⟩:=hy.reads I.hok ry;exact ne_dataH ra rb sx sy hu ⟨.bl _,H,I,rfl,q⟩
end
theorem gM{H:Hp}{p:Addr}(h:H p=none)(o:HO):fQ H (upd H p o):=fun b u q=>by rw[aN (cg q h)];exact q
structure Df (K:aq)(mg:Str->Option Value)(x:Str)(st:Stmt)(ps:List Str)(f:Addr)(fd:FuncData):Prop where
 fn:Fun K x x st f fd
 bd:Binds K fd ps []
 mg:mg x=some (.ref f)
section
variable{X:Cx}{k:Nat}{x:Str}{st:Stmt}{f:Addr}{fd:FuncData}{ps:List Str}{sp:Sp}{p pos:Pos}{e:Expr}{es:List Expr}{t:TA}
theorem Gj(D:Df X.K X.mg x st ps f fd)(F:bH X.prog X.w X.K X.mg X.base CX0 k f fd ps sp)(hr:bZ k X.A)(hg:Gl X x)(ha:PA X (e::es) t)(hdb:(x==("__debug__":Str))=false:=by decide)
 (he:starEach (e::es) X.env=(false,eval e X.env)::starEach es X.env:=by rfl) (hpl:(backTo pos (starEach es X.env)).any (·.1)=false:=by rfl):
 PE X (.Call (.Name x p) (e::es) [] pos) (Ck sp [] E0 t):=xY F hr hg D.mg D.fn.kp D.bd .nil uG ha hdb he hpl
end
def pB(cells:List (Str × Addr)):List (Str × NameKind)->List (Str × Addr)->List (Str × Addr)
 | [],acc=>acc
 | (n,k)::r,acc=>if k= .free then pB cells r ((n,(cells.lookup n).getD 0)::acc) else pB cells r acc
theorem zJ{scope:Scope}{env:Env}(h:∀ y ∈ scope.names,y.2= .free->∃ c,env.cells.lookup y.1=some c):closureFor scope env=pure (pB env.cells scope.names []):=by
 have key:∀(names:List (Str × NameKind)) (cs:List (Str × Addr)),(∀ y ∈ names,y.2= .free->∃ c,env.cells.lookup y.1=some c)->
  (forIn names cs fun(x:Str × NameKind) (r:List (Str × Addr))=>(match x with
    | (name,kind)=>if(kind == .free)=true then do let a <- cellOf env name;pure (ForInStep.yield ((name,a)::r)) else pure (ForInStep.yield r):Sem (ForInStep (List (Str × Addr)))))=(pure (pB env.cells names cs):Sem _):=by
  intro names
  induction names with
  | nil=>intro cs _;rfl
  | cons y r ih=>
    intro cs hy;obtain⟨n,k⟩:=y;rw[List.forIn_cons]
    by_cases hk:k= .free
    · obtain⟨c,hc⟩:=hy (n,k) List.mem_cons_self hk;have hc':env.cells.lookup n=some c:=hc;subst hk;have e1:cellOf env n=pure c:=by unfold cellOf;rw[hc']
      simp only[beq_self_eq_true,if_true,e1,pure_bind];rw[ih _ fun z hz=>hy z (List.mem_cons_of_mem _ hz)];simp only[pB,if_true,hc',Option.getD_some]
    · have hb:(k==NameKind.free)=false:=by simpa using hk
      simp only[hb,Bool.false_eq_true,if_false,pure_bind];rw[ih _ fun z hz=>hy z (List.mem_cons_of_mem _ hz)];simp only[pB,if_neg hk]
 have e:closureFor scope env=(forIn scope.names ([]:List (Str × Addr)) (fun(x:Str × NameKind) (r:List (Str × Addr))=>(match x with
  | (name,kind)=>if(kind == .free)=true then do let a <- cellOf env name;pure (ForInStep.yield ((name,a)::r)) else pure (ForInStep.yield r):Sem (ForInStep (List (Str × Addr))))) >>= fun r=>pure r):=by
  unfold closureFor;rfl
 rw[e,key _ _ h];rfl
theorem yM{cells:List (Str × Addr)}{x:Str}{c:Addr}:∀ {names:List (Str × NameKind)} {acc:List (Str × Addr)},(∀ y ∈ names,y.2= .free->∃ c,cells.lookup y.1=some c)->
 (pB cells names acc).lookup x=some c->cells.lookup x=some c\/acc.lookup x=some c
 | [],acc,_,h=>.inr h
 | (n,k)::r,acc,hy,h=>by
   unfold pB at h
   by_cases hk:k= .free
   · rw[if_pos hk]at h;obtain⟨d,hd⟩:=hy (n,k) List.mem_cons_self hk;have hd':cells.lookup n=some d:=hd;rw[hd']at h
     rcases yM (fun z hz=>hy z (List.mem_cons_of_mem _ hz)) h with q | q
     · exact .inl q
     · rw[List.lookup_cons]at q
       cases e:x==n with
       | true=>
         have e':x=n:=eq_of_beq e;rw[e]at q;subst e'
         exact .inl (by rw[hd'];exact q)
       | false=>
         rw[e]at q;exact .inr q
   · rw[if_neg hk]at h;exact yM (fun z hz=>hy z (List.mem_cons_of_mem _ hz)) h
theorem Cq{cells:List (Str × Addr)}{x:Str}{c:Addr}(hc:cells.lookup x=some c):∀ {names:List (Str × NameKind)} {acc:List (Str × Addr)},((x,NameKind.free) ∈ names\/acc.lookup x=some c)->
 (pB cells names acc).lookup x=some c
 | [],acc,h=>by
   rcases h with h | h
   · cases h
   · exact h
 | (n,k)::r,acc,h=>by
   unfold pB
   by_cases hk:k= .free
   · rw[if_pos hk];refine Cq hc ?_
     by_cases e:x=n
     · subst e;exact .inr (by rw[List.lookup_cons,beq_self_eq_true,hc];rfl)
     · have eb:(x==n)=false:=by simpa using e
       rcases h with h | h
       · rcases List.mem_cons.mp h with z | z
         · exact absurd (congrArg Prod.fst z) e
         · exact .inl z
       · exact .inr (by rw[List.lookup_cons,eb];exact h)
   · rw[if_neg hk];refine Cq hc ?_
     rcases h with h | h
     · rcases List.mem_cons.mp h with z | z
       · exact absurd (congrArg Prod.snd z).symm hk
       · exact .inl z
     · exact .inr h
theorem rN{env:Env}:∀ {names:List (Str × NameKind)} {x:Str},names.lookup x=some .free->
 (names.map fun(n,k)=>if(k==NameKind.free&&env.scope.kind == .function&&env.kindOf n==some .cell) then(n,NameKind.cell) else(n,k)).lookup x=some .cell\/
 (names.map fun(n,k)=>if(k==NameKind.free&&env.scope.kind == .function&&env.kindOf n==some .cell) then(n,NameKind.cell) else(n,k)).lookup x=some .free
 | [],_,h=>by simp at h
 | (n,k)::r,x,h=>by
   have ih:= @rN env r x;show List.lookup x ((if(k==NameKind.free&&env.scope.kind == .function&&env.kindOf n==some .cell)=true then(n,NameKind.cell) else(n,k))::_)=_\/List.lookup x ((if(k==NameKind.free&&env.scope.kind == .function&&env.kindOf n==some .cell)=true then(n,NameKind.cell) else(n,k))::_)=_
   cases hx:x==n with
   | true=>
     simp only[List.lookup_cons,hx]at h;cases h
     by_cases hc:(NameKind.free==NameKind.free&&env.scope.kind == .function&&env.kindOf n==some .cell)=true
     · rw[if_pos hc];simp[List.lookup_cons,hx]
     · rw[if_neg hc];simp[List.lookup_cons,hx]
   | false=>
     simp only[List.lookup_cons,hx]at h
     by_cases hc:(k==NameKind.free&&env.scope.kind == .function&&env.kindOf n==some .cell)=true
     · rw[if_pos hc];simp only[List.lookup_cons,hx];exact ih h
     · rw[if_neg hc];simp only[List.lookup_cons,hx];exact ih h
theorem zK{env:Env}:∀ {names:List (Str × NameKind)} {x:Str},(∀ y ∈ names,y.2 ≠ .cell)->
 ((names.map fun(n,k)=>if(k==NameKind.free&&env.scope.kind == .function&&env.kindOf n==some .cell) then(n,NameKind.cell) else(n,k)).lookup x=some .cell\/
 (names.map fun(n,k)=>if(k==NameKind.free&&env.scope.kind == .function&&env.kindOf n==some .cell) then(n,NameKind.cell) else(n,k)).lookup x=some .free)->names.lookup x=some .free
 | [],_,_,h=>by simp at h
 | (n,k)::r,x,hn,h=>by
   have ih:= @zK env r x fun y hy=>hn y (List.mem_cons_of_mem _ hy);have hnk:k ≠ .cell:=hn (n,k) List.mem_cons_self;change List.lookup x ((if(k==NameKind.free&&env.scope.kind == .function&&env.kindOf n==some .cell)=true then(n,NameKind.cell) else(n,k))::_)=_\/List.lookup x ((if(k==NameKind.free&&env.scope.kind == .function&&env.kindOf n==some .cell)=true then(n,NameKind.cell) else(n,k))::_)=_ at h
   cases hx:x==n with
   | true=>
     rw[List.lookup_cons,hx]
     by_cases hc:(k==NameKind.free&&env.scope.kind == .function&&env.kindOf n==some .cell)=true
     · have hk:k= .free:=by
        rw[Bool.and_eq_true,Bool.and_eq_true]at hc;exact eq_of_beq hc.1.1
       rw[hk]
     · rw[if_neg hc]at h;simp only[List.lookup_cons,hx]at h
       rcases h with h | h
       · exact absurd (Option.some.inj h) hnk
       · exact h
   | false=>
     rw[List.lookup_cons,hx]
     by_cases hc:(k==NameKind.free&&env.scope.kind == .function&&env.kindOf n==some .cell)=true
     · rw[if_pos hc]at h;simp only[List.lookup_cons,hx]at h;exact ih h
     · rw[if_neg hc]at h;simp only[List.lookup_cons,hx]at h;exact ih h
def blk(X:Cx)(N':List Str)(sc:Scope)(C:Addr)(s₀:Shared)(H₀:Hp)(fp:List Addr):Cx:=
 { X with N:=N',s₀:=s₀,H₀:=H₀,env:=compEnvC sc (pB X.env.cells sc.names []) C X.env,outer:=X.stack,ex:=fp,fn:=fun _=>false,pn:=[],xe:=fun _ _=>False }
def sgb(nt:Nat)(idx:List Nat)(σ:St):St:=List.replicate nt none++idx.map fun j=>(σ[j]?).getD none
structure uH (X:Cx)(N':List Str)(sc:Scope)(nt:Nat)(idx:List Nat):Prop where
 kind:sc.kind= .function
 VG:∀ y ∈ sc.names,y.2 ≠ .cell
 loc:∀ y ∈ sc.names,y.2= .local->sc.names.lookup y.1=some .local
 fr:∀ y ∈ sc.names,y.2= .free->X.env.kindOf y.1=some .cell\/X.env.kindOf y.1=some .free
 len:nt+idx.length=N'.length
 ix:∀ p ∈ idx.zip (N'.drop nt),X.N[p.1]? =some p.2/\sc.names.lookup p.2=some .free
theorem oN{names:List (Str × NameKind)}{x:Str}{k:NameKind}(h:names.lookup x=some k):(x,k) ∈ names:=PySem.mem_of_lookup h
theorem aaI{X:Cx}{N':List Str}{sc:Scope}{nt:Nat}{idx:List Nat}{pins:List (Addr × Obj)}{σ:St}{H:Hp}{s:Shared}{fp:List Addr}{h':Heap}{tk:Nat}{m:Str->Option Value}(B:uH X N' sc nt idx)
 (I:Inv X pins σ H s) (hf:∀ b ∈ fp,m8 X pins H b) (hlt:∀ b ∈ fp,b<s.heap.objs.size) (hns:h'.Ns s.heap.objs.size m) (hk:∀ b o,s.heap.get? b=some o->h'.get? b=some o):
 Inv (blk X N' sc s.heap.objs.size s H fp) (X.pn++pins) (sgb nt idx σ) H { s with heap:=h',toks:=tk }:=by
 have hcl:∀ y ∈ sc.names,y.2= .free->∃ c,X.env.cells.lookup y.1=some c:=fun y hy e=>I.ok.has y.1 (B.fr y hy e)
 have sub:∀ x c,(pB X.env.cells sc.names []).lookup x=some c->X.env.cells.lookup x=some c:=fun x c h=>by
  rcases yM hcl h with z | z
  · exact z
  · simp at z
 have afP:∀ b,b ∈ frs X.stack->b=X.env.locals\/b ∈ X.fs:=fun b hb=>List.mem_cons.mp (I.FQ b hb);have ZW:∀ b,b ≠ X.env.locals->b ∉ X.fs->b ∉ frs X.stack:=fun b h1 h2 h=>(afP b h).elim h1 h2;have fresh:H s.heap.objs.size=none:=I.hok.fresh (az _)
 refine⟨⟨I.ok.mod,B.kind,I.ok.glob,I.ok.blt,az _,fun x y c h1 h2=>I.ok.inj x y c (sub x c h1) (sub y c h2),fun x hx=>?_,fun x c hx _=>?_,I.ok.hd,I.ok.frames,.inl rfl,fun b hb=>⟨Nat.ne_of_lt (hlt b hb),fun x c h=>(hf b hb).2.2.2.2.1 x c (sub x c h)⟩,
  I.bs,Nat.le_trans I.ok.bsz I.sz,fun b o e hb=>?_,fun b hb=>ZW b (hf b hb).2.1 (hf b hb).2.2.1,I.stack,I.Cg⟩,
  rfl,I.bare,Un.kept hk,⟨m,hns,fun i x v h1 h2 h3=>?_⟩,fun x c h=>?_,fresh,fun x c h=>I.qO x c (sub x c h),fun p hp=>?_,I.hok.kept hk,?_⟩
 · -- has
   have hx':=zK (env:=X.env) (x:=x) B.VG hx;obtain⟨c,hc⟩:=hcl (x,.free) (oN hx') rfl;exact⟨c,Cq hc (.inl (oN hx'))⟩
 · -- cab
   have hx':false=true:=hx;cases hx'
 · -- H_
   rcases (hf b hb).2.2.2.1 with z | z
   · exact I.ok.H_ b o e z
   · exact absurd (aY (Heap.lt_size e) (Nat.le_trans I.ok.bsz z)) (Nat.lt_irrefl _)
 · -- loc
   have h1':N'[i]? =some x:=h1
   by_cases hi:i<nt
   · exfalso;unfold sgb at h2;rw[List.getElem?_append_left (by simpa using hi),List.getElem?_replicate]at h2
     split at h2 <;> cases h2
   · unfold sgb at h2;rw[List.getElem?_append_right (by simpa using hi),List.length_replicate,List.getElem?_map]at h2
     cases ej:idx[i - nt]? with
     | none=>rw[ej]at h2;cases h2
     | some j=>
       rw[ej]at h2;have h2':(σ[j]?).getD none=some v:=by simpa using h2
       have hz:(j,x) ∈ idx.zip (N'.drop nt):=by
        have e1:(N'.drop nt)[i - nt]? =some x:=by rw[List.getElem?_drop];rw[show nt+(i - nt)=i by omega];exact h1'
        refine List.mem_of_getElem? (i:=i - nt) ?_;rw[List.getElem?_zip_eq_some];exact⟨ej,e1⟩
       obtain⟨q1,q2⟩:=B.ix _ hz;have q1':X.N[j]? =some x:=q1;have q2':sc.names.lookup x=some .free:=q2
       have hs:σ[j]? =some (some v):=by
        cases e:σ[j]? with
        | none=>rw[e]at h2';cases h2'
        | some o=>rw[e]at h2';exact congrArg some h2'
       have hkx:=B.fr (x,.free) (oN q2') rfl;obtain⟨mX,_,hl⟩:=I.loc
       obtain⟨u,ru,lk⟩:=hl j x v q1' hs (by
        rcases hkx with z | z
        · exact .inr (.inl z)
        · exact .inr (.inr z))
       refine⟨u,ru,.inr ⟨rN (env:=X.env) q2',?_⟩⟩
       rcases lk with ⟨z,_⟩ | ⟨_,c,hc,hcell⟩
       · exfalso
         rcases hkx with y | y
         · rw[z]at y;cases y
         · rw[z]at y;cases y
       · obtain⟨o,ho,hd⟩:=hcell;exact⟨c,Cq hc (.inl (oN q2')),o,hk c o ho,hd⟩
 · obtain⟨v,o,ho,hd⟩:=I.cell x c (sub x c h);exact⟨v,o,hk c o ho,hd⟩
 · have hp':p ∈ X.pn++pins:=by
    have:p ∈ ([]:List (Addr × Obj))++(X.pn++pins):=hp;simpa using this
   obtain⟨e,n,ne,nf,d⟩:=I.pin p hp';exact⟨hk _ _ e,n,Nat.ne_of_lt (Heap.lt_size e),ZW _ ne nf,d⟩
 · show(sgb nt idx σ).length=N'.length;unfold sgb;rw[List.length_append,List.length_replicate,List.length_map];exact B.len
def Wk:St->St->Prop
 | [],[]=>True
 | none::r,_::r'=>Wk r r'
 | some a::r,b::r'=>b=some a/\Wk r r'
 | _,_=>False
theorem Wk.ok:∀ {σ σ2:St},Wk σ σ2->σ.length=σ2.length/\∀(i:Nat) (v:V),σ[i]? =some (some v)->σ2[i]? =some (some v)
 | [],[],_=>⟨rfl,fun _ _ h=>h⟩
 | none::r,b::r',h=>by
   obtain⟨h1,h2⟩:=Wk.ok (σ:=r) (σ2:=r') h;refine⟨by simp[h1],fun i v e=>?_⟩
   cases i with
   | zero=>simp at e
   | succ i=>simpa using h2 i v (by simpa using e)
 | some a::r,b::r',h=>by
   obtain⟨hb,h⟩:=h;obtain⟨h1,h2⟩:=Wk.ok (σ:=r) (σ2:=r') h;refine⟨by simp[h1],fun i v e=>?_⟩
   cases i with
   | zero=>subst hb;simpa using e
   | succ i=>simpa using h2 i v (by simpa using e)
 | [],_::_,h=>h.elim
 | none::_,[],h=>h.elim
 | some _::_,[],h=>h.elim
abbrev TN:=St->Hp->(Hp->Prop)->Prop
def Gk(J:It)(g:TG)(tif:TT)(tin:TN):TN:=fun σ H Q=>∃ W:Nat->Nat->Hp->Prop,(∃ m,W 0 m H)/\∀ i m H,W i m H->
 (J.stop i H/\Q H)\/(J.go i H/\∃ N:Hp->Prop,(∀ H',N H'->∃ m',m'<m/\W (i+1) m' H')/\∀ x H',J.yld i H x H'->g x σ H' fun σ2 H2=>Wk σ σ2/\tif σ2 H2 fun b H3=>if b=true then tin σ2 H3 N else N H3)
def Gm(D:Addr)(te:TE):TN:=fun σ H N=>te σ H fun y H1=>∃ ys,H1 D=some (.lst ys)/\ys.length<sizeLine/\N (upd H1 D (.lst (ys ++ [y])))
def VH(wi:TI)(g:TG)(tif:TT)(tin:TN):TN:=fun σ H N=>wi σ H fun J H1=>Gk J g tif tin σ H1 N
def PTs(Y:Cx)(ifs:List Expr)(t:TT):Prop:=
 ∀(pins:List (Addr × Obj)) (s:Shared) (σ:St) (H:Hp) (Q:Bool->Hp->Prop),Inv Y pins σ H s->t σ H Q->
  wpAny (model Y.prog Y.w) Y.A (forIn ifs true fun c r=>if r=true then do let ok <- isTrue c Y.env (eval c Y.env);pure (ForInStep.yield ok) else pure (ForInStep.yield r)) (TP Y pins σ Q) Y.xe s
def ZX:TT:=fun _ H Q=>Q true H
theorem aaJ{Y:Cx}:PTs Y [] ZX:=fun _ _ _ H _ I h=>wpAny_tests_nil ⟨H,I,h⟩
theorem Ik{Y:Cx}{c:Expr}{t:TT}(h:PT Y c t):PTs Y [c] t:=fun pins s σ H Q I q=>wpAny_tests_one (h pins s σ H Q I q)
def PN(Y:Cx)(m:Sem Unit)(t:TN):Prop:=
 ∀(pins:List (Addr × Obj)) (s:Shared) (σ:St) (H:Hp) (N:Hp->Prop),Inv Y pins σ H s->t σ H N->wpAny (model Y.prog Y.w) Y.A m (fun _ s'=>∃ H',Inv Y pins σ H' s'/\N H') Y.xe s
def NoX(Y:Cx):Prop:=∀ e s,¬ Y.xe e s
theorem NoX.any{Y:Cx}(hx:NoX Y){α:Type}{t:Sem α}{Q:α->Shared->Prop}{E:Value->Shared->Prop}{s:Shared}(h:wpAny (model Y.prog Y.w) Y.A t Q Y.xe s):wpAny (model Y.prog Y.w) Y.A t Q E s:=
 wpAny_mono h (fun _ _ q=>q) fun e s' z=>(hx e s' z).elim
theorem QM{Y:Cx}{elt:Expr}{te:TE}{D:Addr}(he:PE Y elt te):PN Y (do let _ <- call (.builtin "list.append") [.ref D,<- eval elt Y.env]) (Gm D te):=by
 intro pins s σ H N I h;refine wpAny_bind (thn (he pins s σ H _ I h) fun u s1 ⟨y,H1,I1,r1,ys,e1,hl,hN⟩=>?_);refine wpAny_bind (thn (fJ (X:=Y) pins s1 σ H1 (.ref D) [y] (.ref D) [u] (fun _ H2=>N H2) I1 rfl (.cons r1 .nil) ⟨D,ys,y,rfl,rfl,e1,hl,hN⟩) fun v s2 ⟨z,H2,I2,_,q2⟩=>?_);exact wpAny_pure ⟨H2,I2,q2⟩
def nY(e:Expr)(d:Nat)(it acc:Value)(env:Env)(target:Expr)(ifs:List Expr)(ipos:Pos)(inner:Sem Unit):Sem Fin:=do
 standAt ipos
 match <- pyNext it with
 | none=>pure (.done .next)
 | some v=>
   letOwnedTupleGo target it v
   assign target env v
   let mut ok:=true
   for c in ifs do
    if ok then ok <- isTrue c env (eval c env)
   if ok then
    inner
   again (.compLoop e d it acc env)
theorem aeI(elt target iter:Expr)(ifs:List Expr)(scope:Scope)(pos:Pos)(it acc:Value)(env:Env):
 compTurn (.ListComp elt [⟨target,iter,ifs,0⟩] scope pos) 0 it acc env=nY (.ListComp elt [⟨target,iter,ifs,0⟩] scope pos) 0 it acc env target ifs iter.pos (do let _ <- call (.builtin "list.append") [acc,<- eval elt env]):=rfl
theorem acE(elt target iter mQ cF:Expr)(ifs i_:List Expr)(scope:Scope)(pos:Pos)(it acc:Value)(env:Env):
 compTurn (.ListComp elt [⟨target,iter,ifs,0⟩,⟨mQ,cF,i_,0⟩] scope pos) 0 it acc env=nY (.ListComp elt [⟨target,iter,ifs,0⟩,⟨mQ,cF,i_,0⟩] scope pos) 0 it acc env target ifs iter.pos
  (do
    let x <- eval cF env
    standAt cF.pos
    let x <- foldedSetIterable cF env x
    let _ <- runOwn (.compStart (.ListComp elt [⟨target,iter,ifs,0⟩,⟨mQ,cF,i_,0⟩] scope pos) 1 (<- holding [x] (pyIter x)) acc env) env):=by
 have e:compTurn (.ListComp elt [⟨target,iter,ifs,0⟩,⟨mQ,cF,i_,0⟩] scope pos) 0 it acc env=(do
  standAt iter.pos
  match <- pyNext it with
  | none=>pure (.done .next)
  | some v=>
    letOwnedTupleGo target it v
    assign target env v
    let mut ok:=true
    for c in ifs do
     if ok then ok <- isTrue c env (eval c env)
    if ok then
     let x <- eval cF env
     standAt cF.pos
     let x <- foldedSetIterable cF env x
     let _ <- runOwn (.compStart (.ListComp elt [⟨target,iter,ifs,0⟩,⟨mQ,cF,i_,0⟩] scope pos) 1 (<- holding [x] (pyIter x)) acc env) env
    again (.compLoop (.ListComp elt [⟨target,iter,ifs,0⟩,⟨mQ,cF,i_,0⟩] scope pos) 0 it acc env)):=rfl
 rw[e];unfold nY;simp only[bind_assoc,pure_bind]
theorem acF(elt target iter mQ cF:Expr)(ifs i_:List Expr)(scope:Scope)(pos:Pos)(it acc:Value)(env:Env):
 compTurn (.ListComp elt [⟨target,iter,ifs,0⟩,⟨mQ,cF,i_,0⟩] scope pos) 1 it acc env=nY (.ListComp elt [⟨target,iter,ifs,0⟩,⟨mQ,cF,i_,0⟩] scope pos) 1 it acc env mQ i_ cF.pos (do let _ <- call (.builtin "list.append") [acc,<- eval elt env]):=rfl
def LR(Y:Cx)(pins:List (Addr × Obj))(σ:St)(Q:Hp->Prop)(r:Result)(s':Shared):Prop:=
 match r with
 | .ok _=>∃ H',Inv Y pins σ H' s'/\Q H'
 | .error _=>False
theorem QT{Y:Cx}(hx:NoX Y)(hc:Y.calm=true){elt:Expr}{gens:List Comprehension}{scope:Scope}{pos:Pos}{d:Nat}{it D:Addr}{tg:Expr}{ifs:List Expr}{ipos:Pos}{inner:Sem Unit}{J:It}{fp:List Addr}{tn:Nat->Heap->Prop}{g:TG}{tif:TT}{tin:TN}
 (ht:compTurn (.ListComp elt gens scope pos) d (.ref it) (.ref D) Y.env=nY (.ListComp elt gens scope pos) d (.ref it) (.ref D) Y.env tg ifs ipos inner)
 (T:Turn Y.prog Y.w Y.K tg J fp it tn) (hg:PG Y tg g) (hi:PTs Y ifs tif) (hn:PN Y inner tin)
 {pins:List (Addr × Obj)} {s:Shared} {σ:St} {H:Hp} {Q:Hp->Prop} (I:Inv Y pins σ H s) (st:tn 0 s.heap) (f:∀ b ∈ fp,m8 Y pins H b) (h:Gk J g tif tin σ H Q):
 codeAny (model Y.prog Y.w) Y.A (.compLoop (.ListComp elt gens scope pos) d (.ref it) (.ref D) Y.env) (LR Y pins σ Q) s:=by
 obtain⟨W,⟨m0,w0⟩,turn⟩:=h;have stat:∀ {H':Hp},(∀ b ∈ fp,H' b=none)->∀ b ∈ fp,m8 Y pins H' b:=fun hn b hb=>⟨hn b hb,(f b hb).2⟩;refine codeAny_loop rfl (fun n s'=>∃ i H',Inv Y pins σ H' s'/\tn i s'.heap/\(∀ b ∈ fp,H' b=none)/\W i n H') ?_ m0 ⟨0,H,I,st,fun b hb=>(f b hb).1,w0⟩;rintro n s3 ⟨i,H3,I3,st3,fr3,w3⟩;show wpAny _ Y.A ((compTurn (.ListComp elt gens scope pos) d (.ref it) (.ref D) Y.env).onRaise (fun x=>do noteFrame x Y.env;theTreesLotGoes x)) _ _ s3;refine wpAny_noted ?_;rw[ht];unfold nY;refine wpAny_bind (wpAny_standAt ?_)
 rcases turn i n H3 w3 with ⟨stop,qn⟩ | ⟨go,N,hN,step⟩
 · refine wpAny_bind (thn (hx.any (T.done Y rfl rfl rfl hc i pins s3 σ H3 Y.xe I3 (stat fr3) st3 stop)) fun r s4 ⟨hr,I4⟩=>?_);subst hr;exact wpAny_pure ⟨H3,I4,qn⟩
 · refine wpAny_bind (thn (hx.any (T.item Y rfl rfl rfl hc i pins s3 σ H3 Y.xe I3 (stat fr3) st3 go)) fun r s4 ⟨u,hr,h4⟩=>?_);subst hr;refine wpAny_bind (thn (hx.any h4) fun _ s5 ⟨x,H5,I5,r5,y5,st5,fr5⟩=>?_);have I5':=I5.pinned (stat fr5) (T.obj _ _ st5);refine wpAny_bind (thn (hx.any (hg _ s5 σ H5 x u _ I5' r5 (step x H5 y5))) fun _ s6 ⟨σ6,H6,I6,wk,q6⟩=>?_);obtain⟨wl,wv⟩:=wk.ok
   have again:∀ {σ7:St} {H7:Hp} {s7:Shared},Inv Y (pins++Ah fp s5.heap) σ7 H7 s7->Wk σ σ7->N H7->∃ m,m<n/\∃ i H',Inv Y pins σ H' s7/\tn i s7.heap/\(∀ b ∈ fp,H' b=none)/\W i m H':=fun {σ7 H7 s7} I7 wk7 n7=>by
    obtain⟨m',hm,w7⟩:=hN H7 n7;obtain⟨wl7,wv7⟩:=wk7.ok;refine⟨m',hm,i+1,H7,(I7.weak wl7 wv7).vo,T.keep _ _ _ st5 fun b hb o e=>(I7.pin (b,o) (List.mem_append_right _ (List.mem_append_right _ (uF hb e)))).1,fun b hb=>?_,w7⟩;obtain⟨o,e,d⟩:=T.obj _ _ st5 b hb;exact(I7.pin (b,o) (List.mem_append_right _ (List.mem_append_right _ (uF hb e)))).2.1
   refine wpAny_bind (thn (hx.any (hi _ s6 σ6 H6 _ I6 q6)) fun ok s7 ⟨H7,I7,q7⟩=>?_)
   cases ok with
   | false=>exact wpAny_pure ⟨rfl,again I7 wk q7⟩
   | true=>exact wpAny_bind (thn (hx.any (hn _ s7 σ6 H7 N I7 q7)) fun _ s8 ⟨H8,I8,q8⟩=>wpAny_pure ⟨rfl,again I8 wk q8⟩)
theorem J0{prog:Program}{w:World}{A:Around}{R:Result->Shared->Prop}{s:Shared}{elt:Expr}{gens:List Comprehension}{scope:Scope}{pos:Pos}{d:Nat}{it acc:Value}{env:Env}{g:Comprehension}(hg:gens[d]? =some g)(ha:g.is_async=0)
 (h0:codeAny (model prog w) A (.compLoop (.ListComp elt gens scope pos) d it acc env) R s)
 (h:wpAny (model prog w) A (pyIter it) (fun it' s'=>codeAny (model prog w) A (.compLoop (.ListComp elt gens scope pos) d it' acc env) R s') (notedBy (model prog w) A env fun x s'=>R (.error x) s') s):
 codeAny (model prog w) A (.compStart (.ListComp elt gens scope pos) d it acc env) R s:=by
 refine codeAny_of_tree ?_;show wpAny _ _ ((compStart (.ListComp elt gens scope pos) d it acc env).onRaise (fun x=>do noteFrame x env;standAt theWindowsPlace)) _ _ s;refine wpAny_notedAt ?_;unfold compStart;rw[show clausesOf (.ListComp elt gens scope pos)=gens from rfl,hg];have e1:(Option.elim (some g) false fun x=>x.is_async != 0)=false:=by show(g.is_async != 0)=false;rw[ha];rfl
 rw[e1];show wpAny _ _ (ask >>= _) _ _ s;refine wpAny_bind (wpAny_askSetting (wpAny_ite ?_))
 split
 · exact wpAny_bind (wpAny_pure (wpAny_pure (And.intro rfl h0)))
 · exact wpAny_bind (wpAny_rule (wpAny_bind (wpAny_standAt (wpAny_bind (wpAny_mono h (fun it' s' h'=>wpAny_pure (And.intro rfl h')) fun _ _ x=>x)))))
theorem MP{X:Cx}{N':List Str}{sc:Scope}{pins Gn:List (Addr × Obj)}{σ σY:St}{H H':Hp}{s s':Shared}{fp:List Addr}{h':Heap}(I:Inv X pins σ H s)(hf:∀ b ∈ fp,m8 X pins H b)
 (IY:Inv (blk X N' sc s.heap.objs.size s H fp) Gn σY H' s') (hs:Heap.SameBut s.heap.objs.size s'.heap h'):Inv X pins σ H' { s' with heap:=h' }:=by
 have hC:∀ b o,s.heap.get? b=some o->b ≠ s.heap.objs.size:=fun b o e=>Nat.ne_of_lt (Heap.lt_size e);have nC:H' s.heap.objs.size=none:=IY.free;have u:Un (frs X.stack) fp H H' s.heap s'.heap:=IY.base;have kk:∀ b o,b ≠ s.heap.objs.size->s'.heap.get? b=some o->h'.get? b=some o:=fun b o hb e=>hs.extBut b o hb e;refine I.call' (s':={ s' with heap:=h' }) (ch:=fp) IY.os ⟨fun b o e n h1 h2=>kk b o (hC b o e) (u.keep b o e n h1 h2),fun b o e n h1 h2=>?_,u.free,fun b o e h2=>?_,u.tups,u.qm,u.qN⟩ ?_ IY.bare fun b hb=>?_
 · obtain⟨sl,q⟩:=u.slot b o e n h1 h2;exact⟨sl,kk b _ (hC b o e) q⟩
 · obtain⟨o',q⟩:=u.there b o e h2;exact⟨o',kk b _ (hC b o e) q⟩
 · intro a o e;refine(IY.hok a o e).stay (fun b v hb q=>kk b v ?_ q) (fun _ q=>q) fun _ _ q=>q;rintro rfl
   rcases hb with z | z
   · rw[z]at nC;rw[nC]at e;cases e
   · rw[nC]at z;cases z
 · obtain⟨f0,f1,f2,f3,f4,f5⟩:=hf b hb;exact⟨f3,f1,f4,f5⟩
section
variable{X:Cx}{N':List Str}{sc:Scope}{nt:Nat}{idx:List Nat}{elt tg iter:Expr}{ifs:List Expr}{gs:List Comprehension}{pos:Pos}{wi:TI}{g:TG}{tif:TT}{tin:Addr->TN}
def Lz(nt:Nat)(idx:List Nat)(wi:TI)(g:TG)(tif:TT)(tin:Addr->TN):TE:=fun σ H Q=>wi σ H fun J H1=>∀ D,H1 D=none->Gk J g tif (tin D) (sgb nt idx σ) (upd H1 D (.lst [])) fun H2=>Q (.ref D) H2
structure Aq (X:Cx)(N':List Str)(sc:Scope)(elt tg iter:Expr)(ifs:List Expr)(gs:List Comprehension)(pos:Pos)(g:TG)(tif:TT)(tin:Addr->TN):Prop where
 ok:∀(C:Addr) (s₀:Shared) (H₀:Hp) (fp:List Addr) (D it:Addr),∃ inner:Sem Unit,
  compTurn (.ListComp elt (⟨tg,iter,ifs,0⟩::gs) sc pos) 0 (.ref it) (.ref D) (blk X N' sc C s₀ H₀ fp).env=nY (.ListComp elt (⟨tg,iter,ifs,0⟩::gs) sc pos) 0 (.ref it) (.ref D) (blk X N' sc C s₀ H₀ fp).env tg ifs iter.pos inner/\
  PG (blk X N' sc C s₀ H₀ fp) tg g/\PTs (blk X N' sc C s₀ H₀ fp) ifs tif/\PN (blk X N' sc C s₀ H₀ fp) inner (tin D)
theorem MT(B:uH X N' sc nt idx)(hc:X.calm=true)(hi:PI X tg iter wi)(O:Aq X N' sc elt tg iter ifs gs pos g tif tin){pins:List (Addr × Obj)}{s:Shared}{σ:St}{H:Hp}{Q:VK}{E:Value->Shared->Prop}{use:Option (Value->Sem Unit)}{QQ:Value->Shared->Prop}
 (I:Inv X pins σ H s) (h:Lz nt idx wi g tif tin σ H Q) (hE:∀ e s,X.xe e s->E e s)
 (hend:∀(D C:Addr) (s3 s':Shared) (H3 H':Hp) (fp:List Addr) (Gn:List (Addr × Obj)) (σY:St),C=s3.heap.objs.size->Inv X pins σ H3 s3->(∀ b ∈ fp,m8 X pins H3 b)->Inv (blk X N' sc C s3 H3 fp) Gn σY H' s'->Q (.ref D) H'->
   compPost (model X.prog X.w) X.A E use QQ (.ref D) C (.ok .next) s'):
 wpAny (model X.prog X.w) X.A (eval iter X.env) (fun x s₁=>wpAny (model X.prog X.w) X.A (pyIter x) (fun it s₂=>wpAny (model X.prog X.w) X.A (newList []) (fun acc s₃=>
  wpAny (model X.prog X.w) X.A (newFunctionEnv sc X.env.globals (pB X.env.cells sc.names []) [] X.env.qual none .none (some X.env)) (fun cenv s₄=>
   codeAny (model X.prog X.w) X.A (.compStart (.ListComp elt (⟨tg,iter,ifs,0⟩::gs) sc pos) 0 it acc { cenv with scope:=relabel sc X.env }) (compPost (model X.prog X.w) X.A E use QQ acc cenv.locals) s₄) E s₃) E s₂) E s₁) E s:=by
 refine wpAny_mono (hi pins s σ H _ I h) (fun v s1 h1=>wpAny_mono h1 (fun itv s2 h2=>?_) hE) hE;obtain⟨it,fp,tn,J,H2,e,I2,T,st2,f2,hl⟩:=h2;subst e;refine wpAny_newObj_type ?_;have I3:Inv X pins σ (upd H2 s2.heap.objs.size (.lst [])) { s2 with heap:=s2.heap.push { cls:=.type "list",data:=.seq ([]:List Value).toArray } }:=I2.Yd (its:=[]) (ys:=[]) (t':=s2.toks) .nil (Nat.zero_le _);have hD:H2 s2.heap.objs.size=none:=I2.hok.fresh (az _);have lt2:∀ b ∈ fp,b<s2.heap.objs.size:=fun b hb=>let ⟨o,ho,_⟩:=T.obj _ _ st2 b hb;Heap.lt_size ho;have f3:∀ b ∈ fp,m8 X pins (upd H2 s2.heap.objs.size (.lst [])) b:=fun b hb=>⟨by rw[aN (Nat.ne_of_lt (lt2 b hb))];exact(f2 b hb).1,(f2 b hb).2⟩;generalize hS3:({ s2 with heap:=s2.heap.push { cls:=.type "list",data:=.seq ([]:List Value).toArray } }:Shared)=s3 at I3 ⊢;have lt3:∀ b ∈ fp,b<s3.heap.objs.size:=fun b hb=>by rw[<- hS3];show b<(s2.heap.push _).objs.size;rw[Heap.size_push];exact Nat.lt_succ_of_lt (lt2 b hb)
 have k3:∀ b o,s2.heap.get? b=some o->s3.heap.get? b=some o:=fun b o e=>by rw[<- hS3];exact Heap.get?_push_of_some _ e
 refine wpAny_newFunctionEnv B.VG (by intro y hy;simp at hy) (fun h₁ hns hsb=>?_) B.kind;have old:∀ b o,s3.heap.get? b=some o->h₁.get? b=some o:=fun b o e=>hsb.extBut b o (Nat.ne_of_lt (Heap.lt_size e)) (Heap.get?_push_of_some _ e);have IY:=aaI (tk:=s3.toks+([]:List (Str × Value)).length) B I3 f3 lt3 hns old;have hx:NoX (blk X N' sc s3.heap.objs.size s3 (upd H2 s2.heap.objs.size (.lst [])) fp):=fun _ _ z=>z;obtain⟨inner,ht,hg,hif,hin⟩:=O.ok s3.heap.objs.size s3 (upd H2 s2.heap.objs.size (.lst [])) fp s2.heap.objs.size it;have stY:tn 0 h₁:=T.keep _ _ _ st2 fun b _ o e=>old b o (k3 b o e)
 have fY:∀ b ∈ fp,m8 (blk X N' sc s3.heap.objs.size s3 (upd H2 s2.heap.objs.size (.lst [])) fp) (X.pn++pins) (upd H2 s2.heap.objs.size (.lst [])) b:=fun b hb=>by
  obtain⟨g0,g1,g2,g3,g4,g5⟩:=f3 b hb;refine⟨g0,Nat.ne_of_lt (lt3 b hb),fun z=>(List.mem_cons.mp (I3.FQ b z)).elim g1 g2,.inl hb,fun x c e=>?_,fun p hp=>g5 p (by have hp':p ∈ ([]:List (Addr × Obj))++(X.pn++pins):=hp;simpa using hp')⟩
  rcases yM (fun y hy e=>I3.ok.has y.1 (B.fr y hy e)) e with z | z
  · exact g4 x c z
  · simp at z
 have loop:codeAny (model X.prog X.w) X.A (.compLoop (.ListComp elt (⟨tg,iter,ifs,0⟩::gs) sc pos) 0 (.ref it) (.ref s2.heap.objs.size) (blk X N' sc s3.heap.objs.size s3 (upd H2 s2.heap.objs.size (.lst [])) fp).env)
  (compPost (model X.prog X.w) X.A E use QQ (.ref s2.heap.objs.size) s3.heap.objs.size) { s3 with heap:=h₁,toks:=s3.toks+([]:List (Str × Value)).length }:=by
  refine codeAny_mono (QT (Y:=blk X N' sc s3.heap.objs.size s3 (upd H2 s2.heap.objs.size (.lst [])) fp) hx hc ht T hg hif hin IY stY fY (hl _ hD)) fun r s' hr=>?_
  cases r with
  | error e=>exact False.elim hr
  | ok fl=>
    obtain⟨H',IY',q⟩:=hr;have fin:=hend s2.heap.objs.size _ s3 s' _ H' fp _ _ rfl I3 f3 IY' q
    cases use with
    | none=>exact fin
    | some u=>exact fin
 exact J0 (g:=⟨tg,iter,ifs,0⟩) rfl rfl loop (T.self _ 0 _ _ _ stY loop)
theorem Il(B:uH X N' sc nt idx)(hc:X.calm=true)(hi:PI X tg iter wi)(O:Aq X N' sc elt tg iter ifs gs pos g tif tin)(hs:∀ x,foldedSetIterable iter X.env x=pure x:=by intro _;rfl):
 PE X (.ListComp elt (⟨tg,iter,ifs,0⟩::gs) sc pos) (Lz nt idx wi g tif tin):=by
 intro pins s σ H Q I h;rw[eval_ListComp]
 refine wpAny_comprehension_free (use:=none) (cl:=pB X.env.cells sc.names []) rfl hs (zJ fun y hy e=>I.ok.has y.1 (B.fr y hy e)) B.kind B.loc
  (MT B hc hi O I h (fun _ _ z=>z) fun D C s3 s' H3 H' fp Gn σY hC I3 f3 IY q=>?_)
 subst hC;obtain⟨m,hn,_⟩:=IY.loc;exact⟨m,hn,fun h' hs'=>⟨.ref D,H',MP I3 f3 IY hs',rfl,q⟩⟩
theorem Im{i:Nat}{y:Str}{py spos:Pos}(hN:X.N.Nodup)(hi':X.N[i]? =some y)(hy:Loc X.env.scope y)(B:uH X N' sc nt idx)(hc:X.calm=true)(hi:PI X tg iter wi)(O:Aq X N' sc elt tg iter ifs gs pos g tif tin)
 (hsw:swapsWith (.ListComp elt (⟨tg,iter,ifs,0⟩::gs) sc pos) (some (.Name y py)) spos.line X.env=pure true:=by rfl) (hs:∀ x,foldedSetIterable iter X.env x=pure x:=by intro _;rfl)
 (hf:X.fn y=true\/X.env.scope.names.lookup y=some .local:=by first | exact .inl rfl | exact .inr rfl | assumption):
 PS X (.Assign [.Name y py] (.ListComp elt (⟨tg,iter,ifs,0⟩::gs) sc pos) spos) (R1 (Lz nt idx wi g tif tin) (Lk i)):=by
 intro pins s σ H D0 I h;rw[exec_Assign_Name_used _ _ _ _ hsw];refine wpAny_bind (wpAny_standAt (wpAny_bind ?_));show wpAny _ X.A (do let _ <- comprehension (.ListComp elt (⟨tg,iter,ifs,0⟩::gs) sc pos) sc X.env _ (newList []) false (eval iter X.env) (some (assign (.Name y py) X.env))) _ _ s
 refine wpAny_bind (wpAny_mono (wpAny_comprehension_free (use:=some (assign (.Name y py) X.env)) (Q:=fun _ s'=>SP X pins D0 .next s') (cl:=pB X.env.cells sc.names []) rfl hs (zJ fun y hy e=>I.ok.has y.1 (B.fr y hy e)) B.kind B.loc
  (MT B hc hi O I h (fun _ _ z=>z) fun D C s3 s' H3 H' fp Gn σY hC I3 f3 IY q=>?_)) (fun _ s' hq=>wpAny_pure (wpAny_pure hq)) fun _ _ e=>e)
 subst hC;obtain⟨m,hn,_⟩:=id IY.loc;obtain⟨oC,es,ep,hoC,hdC,rest⟩:=id hn;have IX:Inv X pins σ H' s':=MP (h':=s'.heap) I3 f3 IY (Heap.SameBut.refl ..);have neL:s3.heap.objs.size ≠ X.env.locals:=Nat.ne_of_gt I3.lt;have nfs:s3.heap.objs.size ∉ X.fs:=I3.abP (az _)
 have aeJ:∀ x c,X.env.cells.lookup x=some c->c ≠ s3.heap.objs.size:=fun x c e z=>by
  obtain⟨v,hv⟩:=I3.cell x c e;exact absurd hv.lt (by rw[z];exact Nat.lt_irrefl _)
 have afQ:s'.heap.get? s3.heap.objs.size=some oC:=hoC;have hfree:H' s3.heap.objs.size=none:=IY.free
 have IP:Inv X (pins ++ [(s3.heap.objs.size,oC)]) σ H' s':=IX.Ia fun p hp=>by
  rcases List.mem_append.mp hp with z | z
  · exact IX.pin p (List.mem_append_right _ z)
  · have e:p=(s3.heap.objs.size,oC):=by simpa using z
    subst e;exact⟨afQ,hfree,neL,nfs,fun v z=>by rw[hdC]at z;cases z⟩
 show wpAny _ X.A (assign (.Name y py) X.env (.ref D)) _ _ _;refine wpAny_assign_Name (yF IP hN hi' hy (v:=.ref D) rfl (fun s'' I''=>?_) hf);have pC:=I''.pin (s3.heap.objs.size,oC) (List.mem_append_right _ (List.mem_append_right _ (List.mem_singleton.mpr rfl)));refine⟨m,⟨oC,es,ep,pC.1,hdC,rest⟩,fun h' hs'=>?_⟩;refine⟨_,H',(I''.vo).turned (it:=s3.heap.objs.size) (h':=h') (t':=s''.toks) (fun b o hb e=>hs'.extBut b o hb e) pC.2.1 neL (.inr I3.sz) aeJ (fun p hp z=>?_),q⟩;have:=(I3.pin p hp).1;exact absurd (Heap.lt_size this) (by rw[z];exact Nat.lt_irrefl _)
theorem LC{te:TE}(hg:∀ C s₀ H₀ fp,PG (blk X N' sc C s₀ H₀ fp) tg g)(hif:∀ C s₀ H₀ fp,PTs (blk X N' sc C s₀ H₀ fp) ifs tif)(he:∀ C s₀ H₀ fp,PE (blk X N' sc C s₀ H₀ fp) elt te):
 Aq X N' sc elt tg iter ifs [] pos g tif (fun D=>Gm D te):=
 ⟨fun C s₀ H₀ fp D it=>⟨_,aeI elt tg iter ifs sc pos (.ref it) (.ref D) _,hg C s₀ H₀ fp,hif C s₀ H₀ fp,QM (he C s₀ H₀ fp)⟩⟩
theorem ZZ{tg2 cF:Expr}{i_:List Expr}{te:TE}{wi2:TI}{g2:TG}{acG:TT}(hc:X.calm=true)(hg:∀ C s₀ H₀ fp,PG (blk X N' sc C s₀ H₀ fp) tg g)(hif:∀ C s₀ H₀ fp,PTs (blk X N' sc C s₀ H₀ fp) ifs tif)
 (hi2:∀ C s₀ H₀ fp,PI (blk X N' sc C s₀ H₀ fp) tg2 cF wi2) (hg2:∀ C s₀ H₀ fp,PG (blk X N' sc C s₀ H₀ fp) tg2 g2) (M3:∀ C s₀ H₀ fp,PTs (blk X N' sc C s₀ H₀ fp) i_ acG) (he:∀ C s₀ H₀ fp,PE (blk X N' sc C s₀ H₀ fp) elt te)
 (hs:∀ C s₀ H₀ fp x,foldedSetIterable cF (blk X N' sc C s₀ H₀ fp).env x=pure x:=by intro _ _ _ _ _;rfl):
 Aq X N' sc elt tg iter ifs [⟨tg2,cF,i_,0⟩] pos g tif (fun D=>VH wi2 g2 acG (Gm D te)):=by
 refine⟨fun C s₀ H₀ fp D it=>⟨_,acE elt tg iter tg2 cF ifs i_ sc pos (.ref it) (.ref D) _,hg C s₀ H₀ fp,hif C s₀ H₀ fp,?_⟩⟩;have hx:NoX (blk X N' sc C s₀ H₀ fp):=fun _ _ z=>z;intro pins s σ H N I h;refine wpAny_bind (thn (hi2 C s₀ H₀ fp pins s σ H _ I h) fun v s1 h1=>?_);refine wpAny_bind (wpAny_standAt (wpAny_bind (wpAny_of_eq (hs C s₀ H₀ fp v) ?_)));refine wpAny_bind (wpAny_holding (thn h1 fun itv s2 h2=>?_));obtain⟨it2,fp2,tn2,J2,H2,e,I2,T2,st2,f2,hl2⟩:=h2;subst e;have loop:=QT (Y:=blk X N' sc C s₀ H₀ fp) hx hc (acF elt tg iter tg2 cF ifs i_ sc pos (.ref it2) (.ref D) _) T2 (hg2 C s₀ H₀ fp) (M3 C s₀ H₀ fp) (QM (he C s₀ H₀ fp)) I2 st2 f2 hl2
 have loop':codeAny (model (blk X N' sc C s₀ H₀ fp).prog (blk X N' sc C s₀ H₀ fp).w) (blk X N' sc C s₀ H₀ fp).A (.compLoop (.ListComp elt [⟨tg,iter,ifs,0⟩,⟨tg2,cF,i_,0⟩] sc pos) 1 (.ref it2) (.ref D) (blk X N' sc C s₀ H₀ fp).env)
  (fun r s'=>match r with | .ok f=>wpAny (model (blk X N' sc C s₀ H₀ fp).prog (blk X N' sc C s₀ H₀ fp).w) (blk X N' sc C s₀ H₀ fp).A (pure ()) (fun _ s'=>∃ H',Inv (blk X N' sc C s₀ H₀ fp) pins σ H' s'/\N H') (blk X N' sc C s₀ H₀ fp).xe s' | .error e=>cameBackBy (model (blk X N' sc C s₀ H₀ fp).prog (blk X N' sc C s₀ H₀ fp).w) (blk X N' sc C s₀ H₀ fp).A (blk X N' sc C s₀ H₀ fp).env (blk X N' sc C s₀ H₀ fp).xe e s') s2:=
  codeAny_mono loop fun r s' hr=>by
   cases r with
   | error e=>exact False.elim hr
   | ok fl=>exact wpAny_pure hr
 exact wpAny_bind (wpAny_runOwn (h:=none) (J0 (g:=⟨tg2,cF,i_,0⟩) rfl rfl loop' (T2.self _ 0 _ _ _ st2 loop')))
end
def acH(N N':List Str)(sc osc:Scope)(nt:Nat)(idx:List Nat):Bool:=
 decide (sc.kind= .function)&&sc.names.all (fun y=>decide (y.2 ≠ .cell))&&sc.names.all (fun y=> !decide (y.2= .local)||decide (sc.names.lookup y.1=some .local)) &&
 sc.names.all (fun y=> !decide (y.2= .free)||(decide (osc.names.lookup y.1=some .cell)||decide (osc.names.lookup y.1=some .free)))&&decide (nt+idx.length=N'.length) &&
 (idx.zip (N'.drop nt)).all (fun p=>decide (N[p.1]? =some p.2)&&decide (sc.names.lookup p.2=some .free))
theorem gJ{X:Cx}{N N':List Str}{sc osc:Scope}{nt:Nat}{idx:List Nat}(h1:X.env.scope=osc)(h2:X.N=N)(h:acH N N' sc osc nt idx=true):uH X N' sc nt idx:=by
 unfold acH at h;simp only[Bool.and_eq_true,List.all_eq_true,decide_eq_true_eq,Bool.or_eq_true,Bool.not_eq_true',decide_eq_false_iff_not]at h;obtain⟨⟨⟨⟨⟨a,b⟩,c⟩,d⟩,e⟩,f⟩:=h;refine⟨a,b,fun y hy q=>(c y hy).resolve_left (fun z=>z q),fun y hy q=>?_,e,fun p hp=>?_⟩
 · have z:=(d y hy).resolve_left (fun z=>z q);unfold Env.kindOf;rw[h1];exact z
 · rw[h2];exact f p hp
structure Low (o u n d:Int):Prop where
 pos:0<d
 gcd:Int.gcd n d=1
 eq:n*u=o*d
 le1:n.natAbs<=o.natAbs
 le2:d.natAbs<=u.natAbs
abbrev Drawn:List Int->List Int->Prop:=Paired fun n l=>0<=n/\n<l
section
variable{X:Cx}
theorem Yl{bs:List Bool}:∀ {us:List Value},Vals (bs.map V.bl) us->LSm.BoolsAre us bs:=by
 induction bs with
 | nil=>intro us r;rw[List.map_nil]at r;cases r;exact .nil
 | cons b bs ih=>
   intro us r;rw[List.map_cons]at r
   cases r with
   | cons r1 r2=>
     obtain rfl:=(show _=Value.bool b from r1);exact .cons b (ih r2)
def Ym(f:List Bool->Bool):List V->Hp->VK->Prop:=fun xs H Q=>∃ p bs,xs= [.ref p]/\H p=some (.lst (bs.map V.bl))/\Q (.bl (f bs)) H
theorem VJ(hc:X.calm=true):lV X (.builtin "all") (Ym fun bs=>bs.all id):=by
 intro pins s σ H xs us Q I r h;obtain⟨p,bs,rfl,hp,q⟩:=h;obtain⟨u,rfl,ru⟩:=vals1 r;cases ru;obtain⟨_,its,n,rv,ho⟩:=(show b8 X.prog X.w H s.heap p (.lst (bs.map V.bl)) from I.hok p _ hp);have hb:=Yl rv;have hl:s.heap.IsList p its.toArray:=⟨_,ho,rfl,_,rfl⟩;have hlt:p<s.heap.objs.size:=Heap.lt_size ho;refine call_all_walk (wpAny_pyIter_list hl ?_)
 refine⟨s.heap.objs.size,[s.heap.objs.size,p],[s.heap.objs.size],its.toArray.size,_,_,fun i=>(bs[i]?).getD true,rfl,Walks.list (A:=X.A.in1) (I.ok.hd hc) _ p (Nat.ne_of_lt hlt) its.toArray,
  ⟨⟨_,Heap.get?_push_size _ rfl,rfl,rfl⟩,hl.push _⟩,fun i v s' Q' E' hP hQ=>?_,fun h' tk hk=>?_⟩
 · obtain⟨b,e,rfl⟩:=hb.get i v (by simpa using hP);simp only[e,Option.getD_some]at hQ;exact wpAny_truthy_bool hQ
 · have e:((List.range its.toArray.size).all fun i=>(bs[i]?).getD true)=bs.all id:=by
    rw[List.size_toArray,hb.length];exact LSm.range_all bs
   rw[e];exact⟨.bl _,H,I.kept (h':=h') (t':=tk) (LSm.kept_iter hk),rfl,q⟩
end
section
variable{X:Cx}{K:aq}{tg l o e:Expr}{es:List Expr}{tl to te:TE}{t:TA}{pos apos:Pos}
def afR(K:aq):List V->Hp->VK->Prop:=fun xs H Q=>∃ p ys,xs= [.ref p]/\(SqL K H p ys\/SqT K H p ys)/\Q (.int ys.length) H
end
theorem QV{K:aq}{a:Addr}{xs:List V}{g:TG}{tif:TT}{tin:TN}{σ:St}{H:Hp}{Q:Hp->Prop}(Pv:Nat->Hp->Prop)(h0:Pv 0 H)(hl:∀ i H,i<=xs.length->Pv i H->SqL K H a xs)
 (hs:∀ i x H,xs[i]? =some x->Pv i H->g x σ H fun σ2 H2=>Wk σ σ2/\tif σ2 H2 fun b H3=>if b=true then tin σ2 H3 (Pv (i+1)) else Pv (i+1) H3) (hd:∀ H,Pv xs.length H->Q H):Gk (Itl K a) g tif tin σ H Q:=by
 refine⟨fun i m H=>m=xs.length - i/\i<=xs.length/\Pv i H,⟨xs.length,by simp,Nat.zero_le _,h0⟩,?_⟩;rintro i m H ⟨rfl,hi,p⟩;have q:=hl i H hi p
 by_cases hlt:i<xs.length
 · refine .inr ⟨⟨xs,xs[i],q,by simp[hlt]⟩,Pv (i+1),fun H' p'=>⟨xs.length - (i+1),by omega,rfl,hlt,p'⟩,fun x H' y=>?_⟩;obtain⟨e,y⟩:=y;subst e;exact hs i x _ (y xs q) p
 · have e:i=xs.length:=by omega
   subst e;exact .inl ⟨⟨xs,q,az _⟩,hd H p⟩
example (a b v:V):Wk (sgb 1 [0,1] [some a,some b]) ((sgb 1 [0,1] [some a,some b]).set 0 (some v)):=⟨rfl,rfl,trivial⟩
def Kp(fs:List Addr)(g h:Heap):Prop:=∀ b o,g.get? b=some o->(b ∉ fs->h.get? b=some o)/\(b ∈ fs->∃ sl,h.get? b=some { o with slots:=sl })
theorem Kp.of_keeps{fs:List Addr}{g h:Heap}(k:∀ b o,g.get? b=some o->h.get? b=some o):Kp fs g h:=fun b o e=>⟨fun _=>k b o e,fun _=>⟨o.slots,k b o e⟩⟩
def Fly(g:Heap)(fl:Value)(e:Addr)(cls:Value)(d:Option Addr)(a0:Value)(h:Heap):Prop:=
 g.get? e=none/\∃ oe vs T oT ts,h.get? e=some oe/\oe.cls=cls/\oe.dict=d/\oe.data= .fields vs/\vs[0]? =some a0/\vs[1]? =some (.ref T)/\T ≠ e/\g.get? T=none/\h.get? T=some oT/\oT.data= .fields ts/\ts[3]? =some fl
section
variable{M:Model}{A:Around}{E:Value->Shared->Prop}{s:Shared}{base g:Heap}{env:Env}{outer:List Env}{L e:Addr}{a0:Value}
theorem J3{oe:Obj}{vs:Array Value}{head:Value}{hadNext:Bool}{Q:Unit->Shared->Prop}(hfr:A.frames=some (env::outer))(hl:s.heap.FunFrames base (env::outer))(hf:env.frame=some L)
 (he:s.heap.get? e=some oe) (hd:oe.data= .fields vs) (hsz:1<vs.size)
 (h:∀ h' T oT ts,(∀ b o,s.heap.get? b=some o->b ≠ e->(b ∉ frs (env::outer)->h'.get? b=some o)/\∃ sl,h'.get? b=some { o with slots:=sl })->s.heap.get? T=none->
   h'.get? e=some (Obj.mapFields (·.setIfInBounds 1 (.ref T)) oe)->h'.get? T=some oT->oT.data= .fields ts->ts[3]? =some (rawInt L)->Q () { s with heap:=h' }):
 wpAny M A (do let a <- frameOf env;let pl <- entryPlaceOf L hadNext;let b <- EntryCells.newEntry head a .none (rawInt L) .none pl;setField (.ref e) 1 b) Q E s:=by
 have hene:e ∉ (env::outer).filterMap (·.frame):=fun hm=>by
  obtain⟨_,o,ho,hnf⟩:=hl.mem hm;rw[he]at ho;cases ho;exact hnf vs hd
 refine wpAny_bind (wpAny_frameOf_fun hfr hl hf fun h1 hs1=>?_);refine wpAny_bind (wpAny_entryPlaceOf fun pl hpl=>?_);unfold EntryCells.newEntry newFields;refine wpAny_bind (wpAny_newObj_type ?_ (hpl.sizeOk5 _ _ _ _ _));have he1:h1.get? e=some oe:=(hs1.2.1 e hene).trans he;refine wpAny_setField (Heap.get?_push_of_some _ he1) hd hsz ?_;have hTe:h1.objs.size ≠ e:=Nat.ne_of_gt (Heap.lt_size he1);refine h _ h1.objs.size _ _ (fun b o hb hbe=>?_) ?_ ?_ ((Heap.get?_update_other _ _ hTe.symm).trans (Heap.get?_push_size h1 rfl)) rfl ?_
 · have up:∀ o',h1.get? b=some o'->((h1.push { cls:=.type "traceback",dict:=none,data:=.fields ([head,.ref L,.none,rawInt L,.none]++(if pl.isEmpty then List.replicate 6 Value.none else pl)).toArray }).update e (Obj.mapFields (·.setIfInBounds 1 (Value.ref h1.objs.size)))).get? b=some o':=fun o' q=>by
    rw[Heap.get?_update_other _ _ hbe.symm];exact Heap.get?_push_of_some _ q
   refine⟨fun hn=>up o ((hs1.2.1 b hn).trans hb),?_⟩;obtain⟨sl,q⟩:=hs1.2.2 b o hb;exact⟨sl,up _ q⟩
 · cases q:s.heap.get? h1.objs.size with
   | none=>rfl
   | some o=>
     obtain⟨sl,q'⟩:=hs1.2.2 _ o q;exact absurd (Heap.lt_size q') (Nat.lt_irrefl _)
 · exact Heap.get?_update_self _ (Heap.get?_push_of_some _ he1) (Obj.isFreed_of_fields (Obj.data_mapFields hd _))
 · first
    | (simp;done)
    | (rcases hpl with rfl | ⟨_,_,_,_,_,_,_,rfl⟩ <;> simp)
theorem yd(f:Array Value->Array Value)(o:Obj):(Obj.mapFields f o).dict=o.dict:=by
 obtain⟨c,d,dt,sl⟩:=o;cases dt <;> rfl
theorem SX{oe:Obj}{vs:Array Value}{Q:Unit->Shared->Prop}(hfr:A.frames=some (env::outer))(hl:s.heap.FunFrames base (env::outer))(hf:env.frame=some L)
 (he:s.heap.get? e=some oe) (hd:oe.data= .fields vs) (h0:vs[0]? =some a0) (h1:vs[1]? =some .none) (hg:g.get? e=none) (hgs:Kp (frs (env::outer)) g s.heap)
 (h:∀ h',Kp (frs (env::outer)) g h'->Fly g (rawInt L) e oe.cls oe.dict a0 h'->Q () { s with heap:=h' }):wpAny M A (noteFrame (.ref e) env) Q E s:=by
 unfold noteFrame;simp only[hf];refine wpAny_bind (wpAny_field he hd h1 ?_);rw[if_neg (by decide)];have sz:=(Array.getElem?_eq_some_iff.mp h1).1;refine J3 hfr hl hf he hd sz fun h' T oT ts k kT ke kt kd k3=>h h' (fun b o q=>?_) ⟨hg,_,_,T,oT,ts,ke,Obj.cls_mapFields _ _,yd _ _,Obj.data_mapFields hd _,by rw[Array.getElem?_setIfInBounds_ne (by decide)];exact h0,by simp[sz],fun z=>?_,?_,kt,kd,k3⟩
 · have hbe:b ≠ e:=fun z=>by rw[z,hg]at q;cases q
   refine⟨fun hb=>(k b o ((hgs b o q).1 hb) hbe).1 hb,fun hb=>?_⟩;obtain⟨sl,q1⟩:=(hgs b o q).2 hb;obtain⟨sl2,q2⟩:=(k b _ q1 hbe).2;exact⟨sl2,q2⟩
 · rw[z,he]at kT;cases kT
 · cases q:g.get? T with
   | none=>rfl
   | some o=>
     exfalso
     by_cases hb:T ∈ frs (env::outer)
     · obtain⟨sl,q1⟩:=(hgs T o q).2 hb;rw[kT]at q1;cases q1
     · have q1:=(hgs T o q).1 hb;rw[kT]at q1;cases q1
theorem VL{cls:Value}{d:Option Addr}{Q:Unit->Shared->Prop}(hfr:A.frames=some (env::outer))(hl:s.heap.FunFrames base (env::outer))(hf:env.frame=some L)
 (hF:Fly g .none e cls d a0 s.heap) (hgs:Kp (frs (env::outer)) g s.heap)
 (h:∀ h',Kp (frs (env::outer)) g h'->Fly g (rawInt L) e cls d a0 h'->Q () { s with heap:=h' }):wpAny M A (noteFrame (.ref e) env) Q E s:=by
 obtain⟨hg,oe,vs,T,oT,ts,he,hc,hdd,hd,h0,h1,hTe,hgT,hT,hdT,h3⟩:=hF;subst hc hdd;unfold noteFrame;simp only[hf];refine wpAny_bind (wpAny_field he hd h1 ?_);rw[if_pos (show(Value.ref T != Value.none)=true from by simp)];refine wpAny_bind (wpAny_field hT hdT h3 ?_);rw[if_neg (show ¬ ((Value.none==rawInt L)=true) from by simp[rawInt])];refine wpAny_bind (wpAny_setField hT hdT (Array.getElem?_eq_some_iff.mp h3).1 ?_);have other:∀ b,b ≠ T->(s.heap.update T (Obj.mapFields (·.setIfInBounds 3 Value.none))).get? b=s.heap.get? b:=fun b hb=>Heap.get?_update_other _ _ (Ne.symm hb);have sz:=(Array.getElem?_eq_some_iff.mp h1).1;have Gp:(s.heap.update T (Obj.mapFields (·.setIfInBounds 3 Value.none))).FunFrames base (env::outer):=hl.of_keeps fun b o hb hnf=>⟨o,(other b fun q=>by rw[q,hT]at hb;cases hb;exact hnf ts hdT).trans hb,rfl⟩;refine J3 hfr Gp hf ((other e (Ne.symm hTe)).trans he) hd sz fun h' T2 oT2 ts2 k kT ke kt kd k3=>h h' (fun b o q=>?_) ⟨hg,_,_,T2,oT2,ts2,ke,Obj.cls_mapFields _ _,yd _ _,Obj.data_mapFields hd _,by rw[Array.getElem?_setIfInBounds_ne (by decide)];exact h0,by simp[sz],fun z=>?_,?_,kt,kd,k3⟩
 · have hbe:b ≠ e:=fun z=>by rw[z,hg]at q;cases q
   have hbT:b ≠ T:=fun z=>by rw[z,hgT]at q;cases q
   refine⟨fun hb=>(k b o ((other b hbT).trans ((hgs b o q).1 hb)) hbe).1 hb,fun hb=>?_⟩;obtain⟨sl,q1⟩:=(hgs b o q).2 hb;obtain⟨sl2,q2⟩:=(k b _ ((other b hbT).trans q1) hbe).2;exact⟨sl2,q2⟩
 · rw[z,other e (Ne.symm hTe),he]at kT;cases kT
 · cases q:g.get? T2 with
   | none=>rfl
   | some o=>
     exfalso;have hbT:T2 ≠ T:=fun z=>by rw[z,hgT]at q;cases q
     rw[other _ hbT]at kT
     by_cases hb:T2 ∈ frs (env::outer)
     · obtain⟨sl,q1⟩:=(hgs T2 o q).2 hb;rw[kT]at q1;cases q1
     · have q1:=(hgs T2 o q).1 hb;rw[kT]at q1;cases q1
theorem M4{fs:List Addr}{cls fl:Value}{d:Option Addr}{Q:Unit->Shared->Prop}(hF:Fly g fl e cls d a0 s.heap)(hgs:Kp fs g s.heap)
 (h:∀ h',Kp fs g h'->Fly g .none e cls d a0 h'->Q () { s with heap:=h' }):wpAny M A (setFlight (.ref e) none) Q E s:=by
 obtain⟨hg,oe,vs,T,oT,ts,he,hc,hdd,hd,h0,h1,hTe,hgT,hT,hdT,h3⟩:=hF;have sz:=(Array.getElem?_eq_some_iff.mp h3).1;have other:∀ b,b ≠ T->(s.heap.update T (Obj.mapFields (·.setIfInBounds 3 ((none:Option Addr).elim Value.none fun f=>rawInt f)))).get? b=s.heap.get? b:=fun b hb=>Heap.get?_update_other _ _ (Ne.symm hb);unfold setFlight;refine wpAny_bind (wpAny_field he hd h1 ?_);rw[if_pos (show(Value.ref T != Value.none)=true from by simp)];refine wpAny_setField hT hdT sz (h _ (fun b o q=>?_) ?_)
 · have hbT:b ≠ T:=fun z=>by rw[z,hgT]at q;cases q
   exact⟨fun hb=>(other b hbT).trans ((hgs b o q).1 hb),fun hb=>let ⟨sl,q1⟩:=(hgs b o q).2 hb;⟨sl,(other b hbT).trans q1⟩⟩
 · exact⟨hg,oe,vs,T,_,_,(other e (Ne.symm hTe)).trans he,hc,hdd,hd,h0,h1,hTe,hgT,Heap.get?_update_self _ hT (Obj.isFreed_of_fields (Obj.data_mapFields hdT _)),Obj.data_mapFields hdT _,by simp[sz]⟩
theorem Qc{oe:Obj}{vs:Array Value}{Q:Unit->Shared->Prop}(hfr:A.frames=some (env::outer))(hl:s.heap.FunFrames base (env::outer))(hf:env.frame=some L)
 (he:s.heap.get? e=some oe) (hd:oe.data= .fields vs) (h0:vs[0]? =some a0) (h1:vs[1]? =some .none) (hg:g.get? e=none) (hgs:Kp (frs (env::outer)) g s.heap)
 (h:∀ h',Kp (frs (env::outer)) g h'->Fly g .none e oe.cls oe.dict a0 h'->Q () { s with heap:=h' }):wpAny M A (leaving env (.ref e)) Q E s:=by
 unfold leaving;exact wpAny_bind (SX hfr hl hf he hd h0 h1 hg hgs fun h' k F=>M4 (s:={ s with heap:=h' }) F k fun h'' k2 F2=>h h'' k2 F2)
theorem S5{cls:Value}{d:Option Addr}{Q:Unit->Shared->Prop}(hfr:A.frames=some (env::outer))(hl:s.heap.FunFrames base (env::outer))(hf:env.frame=some L)
 (hF:Fly g .none e cls d a0 s.heap) (hgs:Kp (frs (env::outer)) g s.heap)
 (h:∀ h',Kp (frs (env::outer)) g h'->Fly g .none e cls d a0 h'->Q () { s with heap:=h' }):wpAny M A (leaving env (.ref e)) Q E s:=by
 unfold leaving;exact wpAny_bind (VL hfr hl hf hF hgs fun h' k F=>M4 (s:={ s with heap:=h' }) F k fun h'' k2 F2=>h h'' k2 F2)
end
structure Ord (bm:List Value):Prop where
 v:bm.contains (.type "ValueError")=true
 b:bm.contains (.type "BaseException")=true
 a:bm.contains (.type "AttributeError")=false
 n:bm.contains (.type "NameError")=false
theorem Ord.cv{bm:List Value}(T:Ord bm)(C:Addr):(Value.ref C::bm).contains (.type "ValueError")=true:=by rw[List.contains_cons,T.v,Bool.or_true]
theorem Ord.cb{bm:List Value}(T:Ord bm)(C:Addr):(Value.ref C::bm).contains (.type "BaseException")=true:=by rw[List.contains_cons,T.b,Bool.or_true]
theorem Ord.ca{bm:List Value}(T:Ord bm)(C:Addr):(Value.ref C::bm).contains (.type "AttributeError")=false:=by rw[List.contains_cons,T.a];rfl
theorem Ord.cn{bm:List Value}(T:Ord bm)(C:Addr):(Value.ref C::bm).contains (.type "NameError")=false:=by rw[List.contains_cons,T.n];rfl
abbrev VF:=PySem.F.excBase_ValueError
abbrev jc(C t:Addr)(d:Option Addr):Obj:={ cls:=.ref C,dict:=d,data:=.fields #[.ref t,.none,.none,.none,.bool false,.none] }
section
variable{prog:Program}{w:World}{A:Around}{E:Value->Shared->Prop}{h:Heap}{g:Array GenState}{d:PySem.Drawn}{t:Nat}{os:OsState}
variable{nm q:Str}{C N:Addr}{bs bm:List Value}{hdct:Bool}{sn:List Str}{sub:List Value}{ab:Bool}{col:Option Bool}{dd:Option Addr}{k0 k1 k2 k3 k5:Option Value}
theorem acI{R:Result->Shared->Prop}{rest:List Value}(T:Ord bm)(hC:h.get? C=some (excClassObj nm q C N bs bm hdct sn sub ab col dd k0 k1 k2 k3 k5 "ValueError.__new__"))
 (hq:R (.ok (.ret (.ref (h.objs.size+1)))) ⟨(h.push { cls:=.type "tuple",data:=.seq rest.toArray }).push (jc C h.objs.size none),g,d,t,os⟩) (hrest:rest.length<=sizeLine:=by size_fits):
 codeAny (model prog w) A (.builtin "ValueError.__new__" ⟨.ref C::rest,[]⟩) R ⟨h,g,d,t,os⟩:=by
 have hends:=VF.ends;have c1:=T.cv C;have c2:=T.ca C;have c3:=T.cn C;refine codeAny_builtinAt VF.entry ?_;unfold Builtin.«BaseException.__new__»;refine PySem.wpAt_bind ?_;show PySem.wpAt _ _ _ (stack >>= _) _ _ _;refine PySem.wpAt_bind (PySem.wpAt_stack fun p below=>PySem.wpAt_of_wpAny ?_)
 wp_walk
 refine PySem.wpAt_of_wpAny ?_;rw[VF.owner]
 repeat (first | with_reducible refine wpAny_madeHere_exc VF.canon hC ?_ | with_reducible refine wpAny_loadPart_at hC ?_ | (with_reducible refine wpAny_isSubtype_exc hC ?_;first | rw[c1] | rw[c2] | rw[c3]) | wp_step)
 show R _ _;rw[Heap.size_push];exact hq
theorem Yn{M:Model}{rest:List Value}{Q:Unit->Shared->Prop}(T:Ord bm)(hC:h.get? C=some (excClassObj nm q C N bs bm hdct sn sub ab col dd k0 k1 k2 k3 k5 "ValueError.__new__"))
 (hq:Q () ⟨h,g,d,t,os⟩):wpAny M A (checkBuiltinCall "ValueError.__new__" ⟨.ref C::rest,[]⟩) Q E ⟨h,g,d,t,os⟩:=by
 have c1:=T.cv C;have hstar:=VF.noStar;simp only[checkBuiltinCall,VF.newKind,VF.newSplit,VF.newRow]
 repeat (first | refine wpAny_loadPart_at hC ?_ | (refine wpAny_isSubtype_exc hC ?_;rw[c1]) | refine wpAny_staticBase_exc hC ?_ | refine wpAny_madeBy_exc hC ?_ | simp only[bne_self_eq_false,Bool.false_eq_true,if_false] | wp_step)
 exact hq
theorem aaK{rest:List Value}{fI:Addr}{Q:Value->Shared->Prop}(T:Ord bm)(hC:h.get? C=some (excClassObj nm q C N bs bm hdct sn sub ab col dd k0 k1 k2 k3 k5 "ValueError.__new__"))
 (hi:PySem.W.Looks (model prog w) h (typeLookup (.ref C) "__init__") (some (.ref fI))) (hb:∀ self,PySem.W.Looks (model prog w) h (bindSpecial (.ref fI) self) (.ref fI,[self]))
 (hq:wpAny (model prog w) (A.under (.builtin "type.__call__" ⟨.ref C::rest,[]⟩)) (call (.ref fI) (.ref (h.objs.size+1)::rest)) (fun r s'=>r= .none/\Q (.ref (h.objs.size+1)) s') E
   ⟨(h.push { cls:=.type "tuple",data:=.seq rest.toArray }).push (jc C h.objs.size none),g,d,t,os⟩) (hrest:rest.length<=sizeLine:=by size_fits):
 wpAny (model prog w) A (call (.ref C) rest) Q E ⟨h,g,d,t,os⟩:=by
 have f1:=tc_lookup;have f2:=tc_bind (.ref C);have hT:(⟨h,g,d,t,os⟩:Shared).TypeIs (.ref C) "type":=⟨_,hC,rfl⟩;refine wpAny_call (codeAny_of_tree ?_);show wpAny _ _ (callAny (.ref C) _) _ _ _
 repeat (any_goals (first | assumption | with_reducible refine wpAny_loadPart_at hC ?_ | wp_step))
 refine⟨rfl,?_⟩;refine codeAny_call_builtin_at (Code.quiet_builtin _ (by decide +kernel)) entry_typeCall (wpAny_check_type_call_sub hC ?_)
 repeat (first | with_reducible refine wpAny_loadPart_at hC ?_ | with_reducible refine wpAny_madeBy_exc hC ?_ | wp_step)
 refine codeAny_call_builtin_code (Code.quiet_builtin _ VF.quiet) (Yn T hC ?_);refine acI T hC ?_ hrest;show wpAny _ _ _ _ _ _;have k:∀ b o,h.get? b=some o->((h.push { cls:=.type "tuple",data:=.seq rest.toArray }).push (jc C h.objs.size none)).get? b=some o:=fun b o e=>Heap.get?_push_of_some _ (Heap.get?_push_of_some _ e);have hC1:=k _ _ hC;have hget:((h.push { cls:=.type "tuple",data:=.seq rest.toArray }).push (jc C h.objs.size none)).get? (h.objs.size+1)=some (jc C h.objs.size none):=by heap_get
 have hcC:(Value.ref C::bm).contains (.ref C)=true:=by simp
 unfold isInstance
 repeat (first | with_reducible refine wpAny_loadPart_at hget ?_ | wp_step)
 show wpAny _ _ (isSubtype (.ref C) (.ref C)) _ _ _;refine wpAny_isSubtype_exc hC1 ?_;rw[hcC]
 repeat (first | with_reducible refine wpAny_loadPart_at hget ?_ | wp_step)
 show wpAny _ _ (typeLookup (.ref C) _) _ _ _;refine(hi.keeps k).here ?_;refine wpAny_holding (wpAny_bind (((hb _).keeps k).here ?_));refine wpAny_bind (wpAny_mono hq (fun r s' hr=>?_) fun _ _ x=>x);obtain⟨rfl,hQ⟩:=hr
 wp_walk
 exact hQ
end
end L2
namespace L2
open PySem PySem.Spec PySem.SeqAt PyProof.Rows
open PySem.Builtin.ObjectAttr
abbrev bmV:List Value:=[.type "ValueError",.type "Exception",.type "BaseException",.type "object"]
theorem S6(self:Value):refuseLoop self "__setattr__" bmV=pure ():=by
 kernel_rfl
theorem Gq(self:Value):∀ as:List Addr,refuseLoop self "__setattr__" (as.map Value.ref++bmV)=pure ()
 | []=>S6 self
 | c::r=>by rw[List.map_cons,List.cons_append,refuseLoop_ref];exact Gq self r
theorem QW:∀ as:List Addr,(as.map Value.ref++bmV).contains (.type "object")=true
 | []=>by decide
 | c::r=>by rw[List.map_cons,List.cons_append,List.contains_cons,QW r,Bool.or_true]
section
variable{prog:Program}{w:World}{A:Around}{E:Value->Shared->Prop}{s:Shared}{K:aq}{C e t:Addr}{v:Value}{name:Str}{cd:ClassData}{as:List Addr}
theorem aaL{Q:Unit->Shared->Prop}(X:K.In s.heap)(hx:s.heap.get? e=some (jc C t none))(hc:PySem.W.clsIn K C=some cd)(hm:cd.mro=as.map Value.ref++bmV)(hd:cd.hasDict=true)
 (hs:PySem.W.findIn K (.ref C) "__setattr__" =some (some (.builtin "object.__setattr__"))) (ht:PySem.W.findIn K (.ref C) name=some none)
 (h:∀ h' dx,s.heap.get? dx=none->h'.Ns1 dx (fun y=>if y=name then some v else none)->h'.get? e=some (jc C t (some dx))->(∀ b o,b ≠ e->s.heap.get? b=some o->h'.get? b=some o)->Q () { s with heap:=h',toks:=s.toks+2 }):
 wpAny (model prog w) A (setAttr (.ref e) name v) Q E s:=by
 have SF:=PySem.F.store_object;have J:PySem.W.InstAt s.heap e (jc C t none) C none:=⟨hx,rfl,rfl,trivial⟩;have J1:PySem.W.InstAt ({ s with toks:=s.toks+1 }:Shared).heap e (jc C t none) C none:=J;have ne:cd.mro.isEmpty=false:=by rw[hm];cases as <;> rfl
 have sub:PySem.W.Looks (model prog w) s.heap (isInstance (.ref e) (.type "object")) true:=J.type.andThen (PySem.W.looks_mroIn X (by unfold PySem.W.mroIn;rw[hc,Option.bind_some,if_neg (by rw[ne];decide),hm,QW as]));refine PySem.W.set_plain X J hs ?_;refine codeAny_call_builtin SF.slot.plain SF.entry (@PySem.W.check_slot (model prog w) _ _ { s with toks:=s.toks+1 } "object.__setattr__" "object" "__setattr__" (.ref e) [.str name s.toks,v] [] _ SF.kind SF.split sub (SF.args (.ref e) (.str name s.toks) v) ?_);have hmro:PySem.W.Looks (model prog w) s.heap (mroOf (.ref C)) cd.mro:=(PySem.W.looks_clsIn X hc).andThen .now;rw[PySem.W.osa_eq,refuse_eq];refine wpAny_bind (wpAny_bind (J1.type.here (wpAny_bind (PySem.W.Looks.here (s:={ s with toks:=s.toks+1 }) hmro ?_))));rw[hm,Gq];refine wpAny_pure (wpAny_bind (J1.type.here (wpAny_bind (PySem.W.Looks.here (s:={ s with toks:=s.toks+1 }) (PySem.W.looks_findIn X ht) (wpAny_bind (wpAny_pure ?_))))));show wpAny _ _ (storeInOwnDict (.ref e) (.ref C) (.str name s.toks) name v false) _ _ _;refine wpAny_bind (wpAny_pure (wpAny_bind ?_));show wpAny _ _ (instanceDict e true) _ _ _;unfold instanceDict;refine wpAny_bind (wpAny_loadPart (s:={ s with toks:=s.toks+1 }) hx (wpAny_bind (PySem.W.Looks.here (s:={ s with toks:=s.toks+1 }) (PySem.W.looks_clsIn X hc) ?_)));rw[hd];show wpAny _ _ (alloc { cls:=.type "dict",data:=.dict #[] } >>= fun d=>update e (fun o=>{ o with dict:=some d }) >>= fun _=>dictMade (.ref C) e d) _ _ _;refine wpAny_bind (wpAny_alloc (wpAny_bind (wpAny_update (o:=jc C t none) (Heap.get?_push_of_some _ hx) (wpAny_pure ?_))));have hlt:e<s.heap.objs.size:=Heap.lt_size hx;have hE:((s.heap.push PySem.W.emptyDict).update e (fun o=>{ o with dict:=some s.heap.objs.size })).get? e=some (jc C t (some s.heap.objs.size)):=Heap.get?_update_self _ (Heap.get?_push_of_some _ hx) rfl;have hD:((s.heap.push PySem.W.emptyDict).update e (fun o=>{ o with dict:=some s.heap.objs.size })).get? s.heap.objs.size=some PySem.W.emptyDict:=(Heap.get?_update_other _ _ (Nat.ne_of_lt hlt)).trans (Heap.get?_push_size _ rfl)
 have hn:((s.heap.push PySem.W.emptyDict).update e (fun o=>{ o with dict:=some s.heap.objs.size })).Ns1 s.heap.objs.size (fun _=>none):=
  Heap.Ns1.of_empty ⟨PySem.W.emptyDict,#[],_,hD,rfl,(fun e he=>absurd he (by simp)),fun _=>rfl⟩
 show wpAny _ _ (storeInDict s.heap.objs.size (.str name s.toks) name v) _ _ _;refine wpAny_bind (wpAny_pure (wpAny_bind ?_));refine wpAny_nsSet1 (s:={ s with heap:=(s.heap.push PySem.W.emptyDict).update e (fun o=>{ o with dict:=some s.heap.objs.size }),toks:=s.toks+1 }) hn fun h' hn2 hs2=>?_;obtain⟨oD,esD,epD,hoD,hdD,hcD⟩:=hn2.count (PySem.Within.cons name v (ns:=[]) (fun _ z=>absurd rfl z));refine wpAny_bind (wpAny_lookBehind hoD (by rw[hdD];exact pastItsLine_dict (Nat.le_trans hcD (by show 1<=sizeLine+1;exact Nat.le_add_left 1 _))) ?_);refine wpAny_pure (h h' s.heap.objs.size (Heap.get?_none_of_le (az _)) hn2 ((hs2.2 _ (Nat.ne_of_lt hlt)).trans hE) fun b o hb q=>?_);refine(hs2.2 b (Nat.ne_of_lt (Heap.lt_size q))).trans ((Heap.get?_update_other _ _ (Ne.symm hb)).trans (Heap.get?_push_of_some _ q))
end
section
variable{prog:Program}{w:World}{A:Around}{E:Value->Shared->Prop}{h:Heap}{g:Array GenState}{d:PySem.Drawn}{t:Nat}{os:OsState}
variable{nm q:Str}{C N e ta:Addr}{bs bm:List Value}{hdct:Bool}{sn:List Str}{sub:List Value}{ab:Bool}{col:Option Bool}{dd od:Option Addr}{k0 k1 k2 k3 k5:Option Value}
theorem init_exc{rest:List Value}{Q:Value->Shared->Prop}(T:Ord bm)(hC:h.get? C=some (excClassObj nm q C N bs bm hdct sn sub ab col dd k0 k1 k2 k3 k5 "ValueError.__new__"))(he:h.get? e=some (jc C ta od))
 (hq:∀ h',h'.get? e=some (jc C h.objs.size od)->(∀ b o,b ≠ e->h.get? b=some o->h'.get? b=some o)->Q .none ⟨h',g,d,t,os⟩) (hrest:rest.length<=sizeLine:=by size_fits):
 wpAny (model prog w) A (call (.builtin "ValueError.__init__") (.ref e::rest)) Q E ⟨h,g,d,t,os⟩:=by
 have c1:=T.cv C;have hstar:=VF.noStar;refine wpAny_call (codeAny_call_builtin VF.init.plain VF.initEntry ?_);simp only[checkBuiltinCall,VF.initKind,VF.initSplit,VF.initRow];have hcls:(jc C ta od).cls= .ref C:=rfl
 repeat (first | (with_reducible refine wpAny_loadPart_at he ?_;rw[hcls]) | with_reducible refine wpAny_loadPart_at hC ?_ | (with_reducible refine wpAny_isSubtype_exc hC ?_;rw[c1]) | wp_step)
 refine wpAny_onRaise ?_
 rw[show ∀(a b:String) (n:Nat),Bind.check ⟨.positional,"*","ValueError",.self,[⟨"args",.varPos,false⟩]⟩ a b n (List.map (fun x=>x.fst) ({ pos:=Value.ref e::rest }:Args).kw)=pure () from
  fun a b n=>check_star_args _ _ _ _ _ _]
 refine wpAny_pure ?_;have hlt:=Heap.lt_size he
 wp_walk
 refine hq _ (Heap.get?_update_self _ (Heap.get?_push_of_some _ he) rfl) fun b o hb z=>?_;exact(Heap.get?_update_other _ _ (Ne.symm hb)).trans (Heap.get?_push_of_some _ z)
end
end L2
namespace L2
open PySem PySem.Spec PySem.SeqAt PyProof.Rows
structure Sup (H':Hp)(h0 g h:Heap):Prop where
 sub:∀ b o,g.get? b=some o->h.get? b=some o
 old:∀ b o,h.get? b=some o->((∃ o0,h0.get? b=some o0)\/∃ u,H' b=some u)->g.get? b=some o
def CXE(P:Program)(w:World):CXT:=fun outer H s E ev s'=>∃(e:Addr) (C:Value) (d:Option Addr) (a0:Value) (H':Hp) (g:Heap),ev= .ref e/\s'.os=s.os/\AllBare s'.gens/\
 Un (frs outer) [] H H' s.heap s'.heap/\HOk P w H' s'.heap/\Fly g .none e C d a0 s'.heap/\Sup H' s.heap g s'.heap/\E C d H'
theorem El{P:Program}{w:World}{outer:List Env}{H:Hp}{s s':Shared}{e:Value}:¬ CXE P w outer H s (fun _ _ _=>False) e s':=fun⟨_,_,_,_,_,_,_,_,_,_,_,_,_,h⟩=>h
theorem b8.get{P:Program}{w:World}{H:Hp}{h:Heap}{a:Addr}{o:HO}(x:b8 P w H h a o):∃ ob,h.get? a=some ob:=by
 cases o with
 | lst xs=>obtain⟨_,_,_,_,e⟩:=x;exact⟨_,e⟩
 | tup xs=>obtain⟨_,_,_,ob,e,_⟩:=x;exact⟨_,e⟩
 | dK kvs=>obtain⟨_,_,_,_,o,_,_,e,_⟩:=x;exact⟨_,e⟩
 | dT kvs=>obtain⟨_,_,_,_,o,_,_,e,_⟩:=x;exact⟨_,e⟩
 | set S n=>obtain⟨o,_,_,_,e,_⟩:=x;exact⟨_,e⟩
 | ins C dx fs=>obtain⟨_,_,_,e,_⟩:=x;exact⟨_,e⟩
 | own y=>obtain⟨_,e⟩:=x;exact⟨_,e⟩
 | xd fs=>obtain⟨_,⟨_,_,_,e,_⟩,_⟩:=x;exact⟨_,e⟩
 | rng lo hi=>obtain⟨_,_,_,e⟩:=x;exact⟨_,e⟩
 | frz ob u=>obtain⟨e,_⟩:=x;exact⟨_,e⟩
 | tbl ps=>exact⟨_,(show h.get? a=some _ from x)⟩
 | met f y=>exact⟨_,(show h.get? a=some _ from x)⟩
 | ext φ=>obtain⟨_,⟨_,e⟩,_⟩:=x;exact⟨_,e⟩
def only(g h:Heap):Heap:=PySem.W.hideAll h ((List.range h.objs.size).filter fun b=>(g.get? b).isNone)
theorem J4{g h:Heap}{b:Addr}(hb:g.get? b=none):(only g h).get? b=none:=by
 cases q:(only g h).get? b with
 | none=>rfl
 | some o=>
   have e:h.get? b=some o:=PySem.W.of_hideAll _ q;have hm:b ∈ (List.range h.objs.size).filter fun b=>(g.get? b).isNone:=List.mem_filter.mpr ⟨List.mem_range.mpr (Heap.lt_size e),by rw[hb];rfl⟩;have q2:(only g h).get? b=none:=PySem.W.hideAll_none _ hm;rw[q]at q2;cases q2
theorem Yo{g h:Heap}{b:Addr}{o o':Obj}(e:h.get? b=some o)(hb:g.get? b=some o'):(only g h).get? b=some o:=by
 refine PySem.W.hideAll_get _ e fun hm=>?_;have:=(List.mem_filter.mp hm).2;rw[hb]at this;cases this
theorem aaM{g h:Heap}{b:Addr}{o:Obj}(e:(only g h).get? b=some o):h.get? b=some o:=PySem.W.of_hideAll _ e
theorem Fly.only{g h:Heap}{fl:Value}{e:Addr}{C:Value}{d:Option Addr}{a0:Value}(F:Fly g fl e C d a0 h):Fly (only g h) fl e C d a0 h:=by
 obtain⟨hg,oe,vs,T,oT,ts,h1,h2,h3,h4,h5,h6,h7,h8,r⟩:=F;exact⟨J4 hg,oe,vs,T,oT,ts,h1,h2,h3,h4,h5,h6,h7,J4 h8,r⟩
theorem yN{env:Env}{outer:List Env}{L:Addr}(h:env.frame=some L):frs (env::outer)=L::frs outer:=by
 unfold frs;rw[List.filterMap_cons,h]
structure Own (X:Cx):Prop where
 ex:X.ex= []
 st:X.stack=X.env::X.outer
 fr:X.env.frame=some X.env.locals
section
variable{X:Cx}{pins:List (Addr × Obj)}{σ:St}{H H':Hp}{s s':Shared}{E:XK}{e:Addr}{C:Value}{d:Option Addr}{a0:Value}{g h':Heap}
theorem Own.frs(O:Own X):L2.frs X.stack=X.env.locals::X.fs:=by rw[O.st,yN O.fr]
theorem Inv.VM(I:Inv X pins σ H s)(O:Own X){b:Addr}{o:Obj}(q:X.s₀.heap.get? b=some o):∃ o',s.heap.get? b=some o':=I.base.there b o q (by rw[O.ex];simp)
theorem acJ{fs:List Addr}{base h h':Heap}{l:List Env}(u:Un fs [] H H' h h')(hs:∀ b ∈ L2.frs l,b ∈ fs)(hf:∀ b ∈ L2.frs l,H b=none)(hl:h.FunFrames base l):h'.FunFrames base l:=by
 induction l with
 | nil=>trivial
 | cons env rest ih=>
   obtain⟨hk,⟨L,o,hfr,hn,ho,hd⟩,hr⟩:=hl;have hm:L ∈ L2.frs (env::rest):=by rw[yN hfr];exact List.mem_cons_self
   obtain⟨sl,e⟩:=u.slot L o ho (hf L hm) (hs L hm) (by simp);exact⟨hk,⟨L,_,hfr,hn,e,hd⟩,ih (fun b hb=>hs b (by rw[yN hfr];exact List.mem_cons_of_mem _ hb)) (fun b hb=>hf b (by rw[yN hfr];exact List.mem_cons_of_mem _ hb)) hr⟩
theorem VN(O:Own X)(I:Inv X pins σ H s)(hos:s'.os=s.os)(hb:AllBare s'.gens)(u:Un (L2.frs X.stack) [] H H' s.heap s'.heap)(ok:HOk X.prog X.w H' s'.heap)
 (sup:Sup H' X.s₀.heap g s'.heap) (k:Kp (L2.frs X.stack) g h') (F:Fly g .none e C d a0 h') (hE:E C d H'):CXE X.prog X.w X.outer X.H₀ X.s₀ E (.ref e) { s' with heap:=h' }:=by
 have b0:Un X.fs [] X.H₀ H X.s₀.heap s.heap:=by have:=I.base;rw[O.ex]at this;exact this
 have fr:=O.frs;rw[fr]at u k;have u0:Un (X.env.locals::X.fs) [] X.H₀ H' X.s₀.heap s'.heap:=(b0.mono (fun b hb=>List.mem_cons_of_mem _ hb) fun _ h=>h).trans u;have hL:X.s₀.heap.get? X.env.locals=none:=Heap.get?_none_of_le I.ok.above;have neL:∀ {b o},X.s₀.heap.get? b=some o->b ≠ X.env.locals:=fun q z=>by rw[z,hL]at q;cases q
 have nof:∀ b u',H' b=some u'->b ∉ X.env.locals::X.fs:=fun b u' q hm=>by
  have hm':b ∈ L2.frs X.stack:=by rw[fr];exact hm
  obtain⟨_,o,ho,_⟩:=I.stack.mem hm';rw[u.free b o ho (I.Cg b hm') (by simp)]at q;cases q
 refine⟨e,C,d,a0,H',L2.only g h',rfl,hos.trans I.os,hb,⟨fun b o q n hf _=>?_,fun b o q n hf _=>?_,u0.free,fun b o q _=>?_,u0.tups,u0.qm,u0.qN⟩,fun a o ea=>?_,F.only,⟨fun b o q=>aaM q,fun b o q hc=>?_⟩,hE⟩
 · have hn:b ∉ X.env.locals::X.fs:=fun z=>(List.mem_cons.mp z).elim (neL q) hf;exact(k b o (sup.old b o (u0.keep b o q n hn (by simp)) (.inl ⟨o,q⟩))).1 hn
 · obtain⟨sl,q1⟩:=u0.slot b o q n (List.mem_cons_of_mem _ hf) (by simp);obtain⟨sl2,q2⟩:=(k b _ (sup.old b _ q1 (.inl ⟨o,q⟩))).2 (List.mem_cons_of_mem _ hf);exact⟨sl2,q2⟩
 · obtain⟨o',q1⟩:=u0.there b o q (by simp);have q2:=sup.old b _ q1 (.inl ⟨o,q⟩)
   by_cases hm:b ∈ X.env.locals::X.fs
   · obtain⟨sl,q3⟩:=(k b _ q2).2 hm;exact⟨_,q3⟩
   · exact⟨_,(k b _ q2).1 hm⟩
 · refine(ok a o ea).stay (fun b v hbv q=>?_) (fun _ q=>q) fun _ _ q=>q
   have tr:∃ u',H' b=some u':=by
    rcases hbv with z | z
    · exact⟨o,by rw[z];exact ea⟩
    · exact⟨_,z⟩
   obtain⟨u',z⟩:=tr;exact(k b v (sup.old b v q (.inr ⟨u',z⟩))).1 (nof b u' z)
 · have:∃ o',g.get? b=some o':=by
    rcases hc with ⟨o0,q0⟩ | ⟨u',z⟩
    · obtain⟨o',q1⟩:=u0.there b o0 q0 (by simp);exact⟨_,sup.old b _ q1 (.inl ⟨o0,q0⟩)⟩
    · obtain⟨o',q1⟩:=(ok b u' z).get;exact⟨_,sup.old b _ q1 (.inr ⟨u',z⟩)⟩
   obtain⟨o',q2⟩:=this;exact Yo q q2
def Em(X:Cx)(E:XK):Value->Shared->Prop:=fun e s'=>wpAny (model X.prog X.w) X.A (leaving X.env e) (fun _ s''=>CXE X.prog X.w X.outer X.H₀ X.s₀ E e s'') (fun e' s''=>CXE X.prog X.w X.outer X.H₀ X.s₀ E e' s'') s'
theorem Yp{E':XK}(O:Own X)(hx:X.xe=Em X E)(hE:∀ C d H,E' C d H->E C d H):Passes (CXE X.prog X.w) X E':=by
 intro pins σ H s ev s' I h;obtain⟨e,C,d,a0,H',g,rfl,hos,hb,u,ok,F,sup,q⟩:=h;rw[hx];unfold Em;have hfr:X.A.frames=some (X.env::X.outer):=by rw[I.ok.frames,O.st]
 have hl:s'.heap.FunFrames X.base (X.env::X.outer):=by
  have:=acJ u (fun _ h=>h) I.Cg I.stack;rw[O.st]at this;exact this
 refine S5 hfr hl O.fr F (Kp.of_keeps sup.sub) fun h' k F'=>?_;rw[<- O.st]at k;refine VN O I hos hb u ok ⟨sup.sub,fun b o q hc=>sup.old b o q ?_⟩ k F' (hE _ _ _ q)
 rcases hc with ⟨o0,q0⟩ | z
 · exact .inl (I.VM O q0)
 · exact .inr z
theorem aaN{oe:Obj}{vs:Array Value}(O:Own X)(hx:X.xe=Em X E)(I:Inv X pins σ H s)(he:s.heap.get? e=some oe)(hd:oe.data= .fields vs)(h0:vs[0]? =some a0)(h1:vs[1]? =some .none)(hn:X.s₀.heap.get? e=none)
 (hm:Mut (H e)) (hE:E oe.cls oe.dict (fun b=>if b=e then none else H b)):X.xe (.ref e) s:=by
 rw[hx];unfold Em;have hfr:X.A.frames=some (X.env::X.outer):=by rw[I.ok.frames,O.st]
 have hl:s.heap.FunFrames X.base (X.env::X.outer):=by have:=I.stack;rw[O.st]at this;exact this
 have ne:∀ {b u},(fun b=>if b=e then none else H b) b=some u->b ≠ e/\H b=some u:=fun {b u} q=>by
  have q':(if b=e then none else H b)=some u:=q
  by_cases z:b=e
  · rw[if_pos z]at q';cases q'
  · rw[if_neg z]at q';exact⟨z,q'⟩
 have eo:∀ {b:Addr},b ≠ e->(fun b=>if b=e then none else H b) b=H b:=fun z=>if_neg z;have acK:∀ b xs,H b=some (.tup xs)->b ≠ e:=fun b xs q z=>by rw[<- z,q]at hm;exact hm
 have afS:∀ b a,H b=some (.own a)->b ≠ e:=fun b a q z=>by rw[<- z,q]at hm;exact hm
 have afT:∀ b o u,H b=some (.frz o u)->b ≠ e:=fun b o u q z=>by rw[<- z,q]at hm;exact hm
 have afU:∀ b ps,H b=some (.tbl ps)->b ≠ e:=fun b ps q z=>by rw[<- z,q]at hm;exact hm
 refine Qc (g:=PySem.W.hideAll s.heap [e]) hfr hl O.fr he hd h0 h1 (PySem.W.hideAll_none _ List.mem_cons_self) (Kp.of_keeps fun b o q=>PySem.W.of_hideAll _ q) fun h' k F=>?_;rw[<- O.st]at k;refine VN (H':=fun b=>if b=e then none else H b) O I rfl I.bare ⟨fun _ _ q _ _ _=>q,fun b o q _ _ _=>⟨o.slots,q⟩,fun b o _ n _=>?_,fun b o q _=>⟨o,q⟩,fun b xs q=>(eo (acK b xs q)).trans q,fun b o u q=>(eo (afT b o u q)).trans q,fun b ps q=>⟨#[],by rw[Array.append_empty];exact(eo (afU b ps q)).trans q⟩⟩ ?_ ⟨fun b o q=>PySem.W.of_hideAll _ q,fun b o q hc=>?_⟩ k F hE
 · by_cases z:b=e
   · exact if_pos z
   · exact(if_neg z).trans n
 · intro a o ea;obtain⟨z,q⟩:=ne ea;exact(I.hok a o q).stay (fun _ _ _ q=>q) (fun b q=>(eo (afS b a q)).trans q) fun b xs q=>(eo (acK b xs q)).trans q
 · refine PySem.W.hideAll_get _ q fun z=>?_;have z':b=e:=by simpa using z
   rcases hc with ⟨o0,q0⟩ | ⟨u',q0⟩
   · rw[z',hn]at q0;cases q0
   · exact(ne q0).1 z'
end
def XO(e C:Addr)(d:Option Addr):HO:=.ext fun h=>∃ t,h.get? e=some (jc C t d)
theorem S7{P:Program}{w:World}{H:Hp}{h:Heap}{e C t:Addr}{d:Option Addr}(q:h.get? e=some (jc C t d)):b8 P w H h e (XO e C d):=
 ⟨⟨t,q⟩,⟨_,q⟩,fun h1 h2 ⟨t',q'⟩ k=>⟨t',k _ q'⟩⟩
theorem S8{P:Program}{w:World}{H:Hp}{h:Heap}{e C:Addr}{d:Option Addr}(ok:HOk P w H h)(q:H e=some (XO e C d)):∃ t,h.get? e=some (jc C t d):=(ok e _ q).1
theorem Yq{H:Hp}{a:Addr}{o:HO}(h:H a=some o):upd H a o=H:=by
 funext b;unfold upd;split
 · rename_i e;rw[e,h]
 · rfl
theorem Cr:∀ as:List Addr,Ord (as.map Value.ref++bmV)
 | []=>⟨by decide,by decide,by decide,by decide⟩
 | c::r=>by
   obtain⟨a,b,c',d⟩:=Cr r;exact⟨by rw[List.map_cons,List.cons_append,List.contains_cons,a,Bool.or_true],by rw[List.map_cons,List.cons_append,List.contains_cons,b,Bool.or_true],by rw[List.map_cons,List.cons_append,List.contains_cons,c'];rfl,by rw[List.map_cons,List.cons_append,List.contains_cons,d];rfl⟩
structure uh (K:aq)(C:Addr):Prop where
 obj:∃(nm q:Str) (N:Addr) (bs:List Value) (as:List Addr) (sn:List Str) (sub:List Value) (ab:Bool) (col:Option Bool) (dd:Option Addr) (k0 k1 k2 k3 k5:Option Value),
  K.lookup C=some (excClassObj nm q C N bs (as.map Value.ref++bmV) true sn sub ab col dd k0 k1 k2 k3 k5 "ValueError.__new__")
 afV:PySem.W.findIn K (.ref C) "__setattr__" =some (some (.builtin "object.__setattr__"))
 agv:PySem.W.findIn K (.ref C) "__getattribute__" =some (some (.builtin "BaseException.__getattribute__"))
 agw:PySem.W.findIn K (.ref C) "__getattr__" =some none
theorem uh.cls{K:aq}{C:Addr}(c:uh K C):∃(cd:ClassData) (as:List Addr),PySem.W.clsIn K C=some cd/\cd.mro=as.map Value.ref++bmV/\cd.hasDict=true:=by
 obtain⟨nm,q,N,bs,as,sn,sub,ab,col,dd,k0,k1,k2,k3,k5,e⟩:=c.obj;have e2:PySem.W.clsIn K C=some { name:=nm,bases:=bs,mro:=.ref C::(as.map Value.ref++bmV),ns:=N,qualname:=q,hasDict:=true,slotNames:=sn,subclasses:=sub,abstract:=ab,collection:=col,hasDel:=false }:=by unfold PySem.W.clsIn;rw[e]
 exact⟨_,C::as,e2,rfl,rfl⟩
structure XMk (K:aq)(C f:Addr):Prop where
 cls:uh K C
 init:PySem.W.findIn K (.ref C) "__init__" =some (some (.ref f))
 fn:PySem.W.typeIn K (.ref f)=some (.type "function")
 kp:PySem.W.keepIn K (.ref C)=true
section
variable{X:Cx}{pins:List (Addr × Obj)}{σ:St}{H:Hp}{s:Shared}
def aeK(K:aq)(ta tv:TE)(f:Str):TS:=fun D σ H=>tv σ H fun y H1=>ta σ H1 fun x H2=>∃ e C,x= .ref e/\H2 e=some (XO e C none)/\uh K C/\dO K C f/\
 ∀ dx,H2 dx=none->dx ≠ e->D.nx σ (upd (upd H2 dx (.xd [(f,y)])) e (XO e C (some dx)))
theorem aaO{e C:Addr}{f:Str}{y:V}{u:Value}{Q:Unit->Shared->Prop}(I:Inv X pins σ H s)(he:H e=some (XO e C none))(c:uh X.K C)(n:dO X.K C f)(ry:RelV y u)
 (h:∀ dx s',H dx=none->dx ≠ e->Inv X pins σ (upd (upd H dx (.xd [(f,y)])) e (XO e C (some dx))) s'->Q () s'):wpAny (model X.prog X.w) X.A (setAttr (.ref e) f u) Q X.xe s:=by
 obtain⟨t,hx⟩:=S8 I.hok he;obtain⟨cd,as,hc,hm,hd⟩:=c.cls;refine aaL I.kIn hx hc hm hd c.afV n fun h' dx hdx hn hE k=>?_
 have hdn:H dx=none:=by
  cases q:H dx with
  | none=>rfl
  | some o=>
    obtain⟨ob,z⟩:=(I.hok dx o q).get;rw[hdx]at z;cases z
 have hde:dx ≠ e:=fun z=>by rw[z,hx]at hdx;cases hdx
 have nT:∀ b xs,H b=some (.tup xs)->b ≠ e:=fun b xs q z=>by rw[z,he]at q;cases q
 have nO:∀ b a,H b=some (.own a)->b ≠ e:=fun b a q z=>by rw[z,he]at q;cases q
 have nF:∀ b o u,H b=some (.frz o u)->b ≠ e:=fun b o u q z=>by rw[z,he]at q;cases q
 have nB:∀ b ps,H b=some (.tbl ps)->b ≠ e:=fun b ps q z=>by rw[z,he]at q;cases q
 have up:∀ {b o},H b=some o->b ≠ e->upd (upd H dx (.xd [(f,y)])) e (XO e C (some dx)) b=some o:=fun q z=>by rw[aN z,aN (cg q hdn)];exact q
 refine h dx _ hdn hde (I.un (h':=h') (t':=s.toks+2) ⟨fun b o q n _ _=>k b o (fun z=>by rw[z,he]at n;cases n) q,fun b o q n _ _=>⟨o.slots,k b o (fun z=>by rw[z,he]at n;cases n) q⟩,fun b o q n _=>?_,fun b o q _=>?_,fun b xs q=>up q (nT b xs q),fun b o u q=>up q (nF b o u q),fun b ps q=>⟨#[],by rw[Array.append_empty];exact up q (nB b ps q)⟩⟩ fun a o q=>?_)
 · have h1:b ≠ e:=fun z=>by rw[z,he]at n;cases n
   have h2:b ≠ dx:=fun z=>by rw[z,hdx]at q;cases q
   rw[aN h1,aN h2];exact n
 · by_cases z:b=e
   · subst z;exact⟨_,hE⟩
   · exact⟨o,k b o z q⟩
 · by_cases z:a=e
   · subst z;rw[aG]at q;cases q;exact S7 hE
   · rw[aN z]at q
     by_cases z2:a=dx
     · subst z2;rw[aG]at q;cases q;refine⟨_,hn,fun g=>?_⟩;rw[List.lookup_cons]
       by_cases hg:g=f
       · subst hg;rw[beq_self_eq_true,if_pos rfl];exact ry
       · rw[if_neg hg,show(g==f)=false by simpa using hg];trivial
     · rw[aN z2]at q;refine(I.hok a o q).stay (fun b v hb q'=>k b v ?_ q') (fun b q'=>up q' (nO b a q')) fun b xs q'=>up q' (nT b xs q')
       rcases hb with z3 | z3
       · rw[z3];exact z
       · exact nO b a z3
theorem aaP{o value:Expr}{f:Str}{pos pos':Pos}{ta tv:TE}(ha:PE X o ta)(hv:PE X value tv)(hs:swapsWith value (some (.Attribute o f pos')) pos.line X.env=pure false:=by rfl):
 PS X (.Assign [.Attribute o f pos'] value pos) (aeK X.K ta tv f):=by
 intro pins s σ H D I h;refine plainObj_wpAny_Assign_Attribute (thn (hv pins s σ H _ I h) fun u s1 ⟨y,H1,I1,ry,q1⟩=>thn (ha pins s1 σ H1 _ I1 q1) fun ov s2 ⟨x,H2,I2,rx,e,C,ex,he,c,n,q2⟩=>?_) hs;subst ex;obtain rfl:ov=Value.ref e:=rx;exact aaO I2 he c n ry fun dx s' h1 h2 I3=>⟨σ,_,I3,q2 dx h1 h2⟩
def acL(K:aq)(t:TA):TE:=fun σ H Q=>t σ H fun vs H1=>∃ e C d y,vs= [.ref e,y]/\H1 e=some (XO e C d)/\uh K C/\Q .non H1
theorem Yr{e C:Addr}{d:Option Addr}{us:List Value}{Q:Value->Shared->Prop}(I:Inv X pins σ H s)(he:H e=some (XO e C d))(c:uh X.K C)(hl:us.length<=sizeLine)
 (h:∀ s',Inv X pins σ H s'->Q .none s'):wpAny (model X.prog X.w) X.A (call (.builtin "ValueError.__init__") (.ref e::us)) Q X.xe s:=by
 obtain⟨t,hx⟩:=S8 I.hok he;obtain⟨nm,q,N,bs,as,sn,sub,ab,col,dd,k0,k1,k2,k3,k5,lk⟩:=c.obj;have hC:=I.kIn _ _ lk;obtain⟨hp,g,dr,tk,os⟩:=s;refine init_exc (Cr as) hC hx (fun h' hE k=>?_) hl;have I2:=I.write (x:=e) (e:=e) (o:=XO e C d) (h':=h') (t':=tk) (by rw[he];trivial) (.inl rfl) (fun b u hb q=>k b u hb q) ⟨_,hE⟩ (S7 hE);rw[Yq he]at I2;exact h _ I2
theorem Ys{p apos pos:Pos}{a b:Expr}{t:TA}(hg:Gl X "ValueError")(hm:X.mg "ValueError" =none)(ha:PA X [a,b] t)
 (hst:starEach [a,b] X.env=(false,eval a X.env)::starEach [b] X.env:=by rfl) (hpl:(backTo pos (starEach [b] X.env)).any (·.1)=false:=by rfl) (hl:(2:Nat)<=sizeLine:=by decide) {pl:Sem Bool}
 (ht:eval (.Call (.Attribute (.Name "ValueError" p) "__init__" apos) [a,b] [] pos) X.env=(do
   let ov <- eval (.Name "ValueError" p) X.env
   standAt apos.atName
   let (f,first) <- holding [ov] (getMethod ov "__init__" pl)
   callWith pos f first (backTo pos (starEach [a,b] X.env)) (backToKw pos (keywordEach [] X.env))):=by rfl):
 PE X (.Call (.Attribute (.Name "ValueError" p) "__init__" apos) [a,b] [] pos) (acL X.K t):=by
 intro pins s σ H Q I h;obtain⟨m,F⟩:=I.fr;refine PySem.W.methodCall_KW (pl:=pl) (qP I hg hm rfl ?_) ht;refine PySem.W.method_type (K:=X.K) F I.mod.kin (v:=.builtin "ValueError.__init__") (by rfl) (by decide +kernel) (by rfl) (by rfl) ?_;refine PyProof.Rows.callWith_builtin1 (thn (ha pos pins _ σ H _ (I.tok _) h) fun us s2 ⟨vs,H2,I2,r,e,C,d,y,ev,he,c,q⟩=>?_) hst hpl;subst ev;obtain⟨u1,u2,rfl,r1,r2⟩:=vals2 r;obtain rfl:u1=Value.ref e:=r1;exact Yr (us:=[u2]) I2 he c (Nat.le_trans (show 1<=2 by decide) hl) fun s' I3=>⟨.non,H2,I3,rfl,q⟩
structure CI (K:aq)(S f:Addr):Prop where
 sp:PySem.W.specialIn K (.ref S) "__getattribute__" =some (some (.builtin "type.__getattribute__"))
 rd:PySem.W.readsIn K S (.type "type")=true
 fc:PySem.W.findCls K (.ref S) (.type "type") "__init__" =some (.val (.ref f))
 hd:PySem.W.handedIn (.ref f)=true
 kp:PySem.W.keepIn K (.ref f)=true
theorem rW{CX:CXT}{k:Nat}{f S:Addr}{fd:FuncData}{ps:List Str}{sp:Sp}{E:XK}{x:Str}{p apos pos:Pos}{e:Expr}{es:List Expr}{t:TA}(c:CI X.K S f)(F:bH X.prog X.w X.K X.mg X.base CX k f fd ps sp)(hr:bZ k X.A)(hg:Gl X x)(hm:X.mg x=some (.ref S))(hb:Binds X.K fd ps [])(hx:Passes CX X E)
 (ha:PA X (e::es) t) (hdb:(x==("__debug__":Str))=false:=by decide)
 (hst:starEach (e::es) X.env=(false,eval e X.env)::starEach es X.env:=by rfl) (hpl:(backTo pos (starEach es X.env)).any (·.1)=false:=by rfl) {pl:Sem Bool}
 (ht:eval (.Call (.Attribute (.Name x p) "__init__" apos) (e::es) [] pos) X.env=(do
   let ov <- eval (.Name x p) X.env
   standAt apos.atName
   let (f,first) <- holding [ov] (getMethod ov "__init__" pl)
   callWith pos f first (backTo pos (starEach (e::es) X.env)) (backToKw pos (keywordEach [] X.env))):=by rfl):
 PE X (.Call (.Attribute (.Name x p) "__init__" apos) (e::es) [] pos) (Ck sp [] E t):=by
 intro pins s σ H Q I h;refine PySem.W.methodCall_KW (pl:=pl) (uX I hg hm ?_ hdb) ht;refine PySem.W.method_cls I.kIn c.sp (PySem.W.cls_value I.kIn c.rd c.fc c.hd ?_);refine PySem.W.callWith_K (first:=[]) (K:=X.K) (h₀:=X.base) I.ok.mod.kin c.kp (thn (ha pos pins _ σ H _ (I.tok _) h) fun us s2 ⟨vs,H2,I2,r,q⟩=>⟨I2.kIn,?_⟩) hst hpl;exact Gd F hr hb .nil hx I2 r q
theorem VR{CX:CXT}{k:Nat}{f C:Addr}{fd:FuncData}{ps:List Str}{sp:Sp}{E:XK}{us:List Value}{vs:List V}{R:Addr->Hp->Prop}(M:XMk X.K C f)(F:bH X.prog X.w X.K X.mg X.base CX k f fd ps sp)(hr:bZ (k+1) X.A)(hb:Binds X.K fd ps [])
 (hx:Passes CX X E) (I:Inv X pins σ H s) (r:Vals vs us) (hlu:us.length<=sizeLine)
 (h:∀ e,H e=none->sp (.ref e::vs) (upd H e (XO e C none)) (fun v H2=>v= .non/\R e H2) E):
 wpAny (model X.prog X.w) X.A (call (.ref C) us) (fun u s'=>∃ e H',u= .ref e/\s.heap.get? e=none/\Inv X pins σ H' s'/\R e H') X.xe s:=by
 obtain⟨nm,q,N,bs,as,sn,sub,ab,col,dd,k0,k1,k2,k3,k5,lk⟩:=M.cls.obj;have hC:=I.kIn _ _ lk;have fr:H (s.heap.objs.size+1)=none:=I.hok.fresh (Nat.le_succ _);have hq:=h (s.heap.objs.size+1) fr;have kp:∀ b o,s.heap.get? b=some o->((s.heap.push { cls:=.type "tuple",data:=.seq us.toArray }).push (jc C s.heap.objs.size none)).get? b=some o:=fun b o e=>Heap.get?_push_of_some _ (Heap.get?_push_of_some _ e);have hget:((s.heap.push { cls:=.type "tuple",data:=.seq us.toArray }).push (jc C s.heap.objs.size none)).get? (s.heap.objs.size+1)=some (jc C s.heap.objs.size none):=by heap_get
 have I2:Inv X pins σ (upd H (s.heap.objs.size+1) (XO (s.heap.objs.size+1) C none)) { s with heap:=(s.heap.push { cls:=.type "tuple",data:=.seq us.toArray }).push (jc C s.heap.objs.size none),toks:=s.toks }:=
  I.laid kp (Nat.le_succ _) (S7 hget)
 have r2:Vals (V.ref (s.heap.objs.size+1)::vs) (Value.ref (s.heap.objs.size+1)::us):=.cons rfl r
 have hl:(Value.ref (s.heap.objs.size+1)::us).length=ps.length:=by
  have e:=r2.length;rw[F.len _ _ _ _ hq]at e;exact e.symm
 have hbs:=hb { s with heap:=(s.heap.push { cls:=.type "tuple",data:=.seq us.toArray }).push (jc C s.heap.objs.size none),toks:=s.toks } (Value.ref (s.heap.objs.size+1)::us) I2.kIn (by rw[List.append_nil];exact hl);rw[List.append_nil]at hbs;refine aaK (h:=s.heap) (g:=s.gens) (d:=s.drawn) (t:=s.toks) (os:=s.os) (Cr as) hC (PySem.W.looks_findIn I.kIn M.init) (fun self=>PySem.W.bind_fn I.kIn self M.fn) ?_ hlu;refine wpAny_call (codeAny_mono (F.run _ X.stack _ _ ⟨Value.ref (s.heap.objs.size+1)::us,[]⟩ (Value.ref (s.heap.objs.size+1)::us) _ _ E (hr.make C us []) (I2.env0.make C us []) hbs r2 hq) fun r s' hq'=>?_)
 cases r with
 | error e=>exact hx pins σ _ _ e s' I2 hq'
 | ok fl=>
   cases fl with
   | ret u=>
     obtain⟨v,H',I3,rv,ev,q3⟩:=I2.after hq';subst ev
     exact⟨rv,_,H',rfl,Heap.get?_none_of_le (Nat.le_succ _),I3,q3⟩
   | next=>exact False.elim hq'
   | brk=>exact False.elim hq'
   | cont=>exact False.elim hq'
theorem Qd{M:Model}{A:Around}{E:Value->Shared->Prop}{s:Shared}{env:Env}{C:Addr}{x:Sem Value}{Q:Flow->Shared->Prop}(hh:A.handled=none)
 (h:wpAny M A x (fun v s₁=>∃(e t N:Addr) (d:Option Addr) (nm q:Str) (bs:List Value) (as:List Addr) (sn:List Str) (sub:List Value) (ab:Bool) (col:Option Bool) (dd:Option Addr) (k0 k1 k2 k3 k5:Option Value),v= .ref e/\s₁.heap.get? C=some (excClassObj nm q C N bs (as.map Value.ref++bmV) true sn sub ab col dd k0 k1 k2 k3 k5 "ValueError.__new__")/\
   s₁.heap.get? e=some (jc C t d)/\E (.ref e) s₁) E s):
 wpAny M A (raiseStmt env (some x) none) Q E s:=by
 unfold raiseStmt;refine wpAny_bind (wpAny_mono h (fun v s₁ h₁=>?_) fun _ _ x=>x);obtain⟨e,t,N,d,nm,q,bs,as,sn,sub,ab,col,dd,k0,k1,k2,k3,k5,rfl,hC,he,hE⟩:=h₁;have hcB:=(Cr as).cb C;obtain⟨hp,g,dr,tk,os⟩:=s₁
 repeat (first | with_reducible refine wpAny_loadPart_at he ?_ | with_reducible refine wpAny_loadPart_at hC ?_ | (with_reducible refine wpAny_isSubtype_exc hC ?_;rw[hcB]) | wp_step)
 exact wpAny_raiseNew_none hh hE
def V0(C:Addr)(sp:Sp)(E:XK)(t:TA):TS:=fun D σ H=>t σ H fun vs H1=>vs.length<=sizeLine/\∀ e,H1 e=none->sp (.ref e::vs) (upd H1 e (XO e C none)) (fun v H2=>v= .non/\∃ d,H2 e=some (XO e C d)/\E (.ref C) d (fun b=>if b=e then none else H2 b)) E0
theorem Yt{k:Nat}{f C:Addr}{fd:FuncData}{ps:List Str}{sp:Sp}{E:XK}{us:List Value}{vs:List V}(O:Own X)(hxe:X.xe=Em X E)(M:XMk X.K C f)(F:bH X.prog X.w X.K X.mg X.base CX0 k f fd ps sp)(hr:bZ (k+1) X.A)(hb:Binds X.K fd ps [])
 (I:Inv X pins σ H s) (r:Vals vs us) (hlu:vs.length<=sizeLine)
 (h:∀ e,H e=none->sp (.ref e::vs) (upd H e (XO e C none)) (fun v H2=>v= .non/\∃ d,H2 e=some (XO e C d)/\E (.ref C) d (fun b=>if b=e then none else H2 b)) E0):
 wpAny (model X.prog X.w) X.A (call (.ref C) us) (fun v s₁=>∃(e t N:Addr) (d:Option Addr) (nm q:Str) (bs:List Value) (as:List Addr) (sn:List Str) (sub:List Value) (ab:Bool) (col:Option Bool) (dd:Option Addr) (k0 k1 k2 k3 k5:Option Value),v= .ref e/\s₁.heap.get? C=some (excClassObj nm q C N bs (as.map Value.ref++bmV) true sn sub ab col dd k0 k1 k2 k3 k5 "ValueError.__new__")/\
  s₁.heap.get? e=some (jc C t d)/\X.xe (.ref e) s₁) X.xe s:=by
 refine thn (VR M F hr hb uG I r (by rw[<- r.length];exact hlu) h) fun u s' ⟨e,H',hu,hn,I',d,he,q⟩=>?_;obtain⟨nm,qn,N,bs,as,sn,sub,ab,col,dd,k0,k1,k2,k3,k5,lk⟩:=M.cls.obj;obtain⟨t,hx⟩:=S8 I'.hok he;refine⟨e,t,N,d,nm,qn,bs,as,sn,sub,ab,col,dd,k0,k1,k2,k3,k5,hu,I'.kIn _ _ lk,hx,?_⟩;refine aaN (a0:=.ref t) O hxe I' hx rfl rfl rfl ?_ (by rw[he];trivial) q
 cases z:X.s₀.heap.get? e with
 | none=>rfl
 | some o=>
   obtain⟨o',z'⟩:=I.VM O z;rw[hn]at z';cases z'
theorem V1{k:Nat}{f C:Addr}{fd:FuncData}{ps:List Str}{sp:Sp}{E:XK}{x:Str}{p cpos pos:Pos}(O:Own X)(hxe:X.xe=Em X E)(hc:X.calm=true)(M:XMk X.K C f)(F:bH X.prog X.w X.K X.mg X.base CX0 k f fd ps sp)(hr:bZ (k+1) X.A)(hb:Binds X.K fd ps [])
 (hg:Gl X x) (hm:X.mg x=some (.ref C)) (hdb:(x==("__debug__":Str))=false:=by decide):PS X (.Raise (some (.Call (.Name x p) [] [] cpos)) none pos) (V0 C sp E Sq):=by
 intro pins s σ H D I h;rw[arm_exec_Raise];refine wpAny_bind (wpAny_standAt ?_);refine Qd (I.ok.hd hc) (C:=C) ?_;refine wpAny_bind (wpAny_mono (Q:=fun v s₁=>_) (wpAny_Call_Name_kw (uX I hg hm (PySem.W.callWith_K0 I.kIn M.kp (Yt (us:=[]) O hxe M F hr hb I .nil h.1 h.2)) hdb)) (fun v s₁ q=>wpAny_bind (wpAny_standAt (wpAny_pure q))) fun _ _ z=>z)
end
def En(K:aq)(C S:Addr):Prop:=∃ cd:ClassData,PySem.W.clsIn K C=some cd/\cd.mro.contains (.ref S)=true
section
variable{X:Cx}{pins:List (Addr × Obj)}{σ:St}{H:Hp}{s:Shared}{h':Heap}
theorem Inv.Cu{t':Nat}{ch:List Addr}(I:Inv X pins σ H s)(k:∀ b o,b ∉ ch->s.heap.get? b=some o->h'.get? b=some o)(hf:∀ b ∈ ch,m8 X pins H b):Inv X pins σ H { s with heap:=h',toks:=t' }:=by
 have nit:∀ b u,H b=some u->b ∉ ch:=fun b u e z=>by rw[(hf b z).1]at e;cases e
 refine I.step (g':=s.gens) (d':=s.drawn) (ch:=ch) (fun b hb=>?_) (fun b o _ _ hc e _=>k b o hc e) (fun b o _ _ hc e _=>⟨o.slots,k b o hc e⟩) (fun _ _ _ _ n=>n)
  (fun b o hc e=>⟨o,k b o hc e⟩) (fun _ _ e=>e) (fun _ _ _ e=>e) (fun b ps e=>⟨#[],by rw[e];simp⟩) (fun m hm=>?_) (fun b u e=>?_) I.bare
 · obtain⟨f0,f1,f2,f3,f4,f5⟩:=hf b hb;exact⟨f3,f1,f4,f5⟩
 · obtain⟨o,es,ep,ho,r⟩:=hm;exact⟨o,es,ep,k _ o (fun z=>(hf _ z).2.1 rfl) ho,r⟩
 · refine(I.hok b u e).stay (fun c v hc q=>k c v ?_ q) (fun _ q=>q) fun _ _ q=>q
   rcases hc with z | z
   · rw[z];exact nit b u e
   · exact nit c _ z
end
def Itz(K:aq)(a b:Addr):It:=
 ⟨fun i H=>∃ xs ys x y,SqL K H a xs/\SqL K H b ys/\xs[i]? =some x/\ys[i]? =some y,
  fun i H v H'=>∃ T x y,H T=none/\v= .ref T/\H'=upd H T (.tup [x,y])/\(∀ xs,SqL K H a xs->xs[i]? =some x)/\∀ ys,SqL K H b ys->ys[i]? =some y,
  fun i H=>∃ xs ys,SqL K H a xs/\SqL K H b ys/\(xs.length<=i\/ys.length<=i)⟩
theorem V2{h:Heap}{a b:Addr}{o u:Obj}(e:h.get? a=some o)(f:h.get? b=some u)(d:o.cls ≠ u.cls):a ≠ b:=fun z=>by
 rw[z,f]at e;cases e;exact d rfl
structure Z0 (z TI TO i1 i2 a b:Addr)(i:Nat)(h:Heap):Prop where
 hz:IsZip h z TI TO .none
 hTI:IsPair h TI (.ref i1) (.ref i2)
 hTO:∃ p q,IsPair h TO p q
 h1:h.IsListIter i1 a i
 h2:h.IsListIter i2 b i
theorem J5{z TI TO i1 i2 a b:Addr}{i:Nat}{h:Heap}{xs ys:Array Value}(nT:TI ≠ TO)(ni:i1 ≠ i2)(st:Z0 z TI TO i1 i2 a b i h)(ha:h.IsList a xs)(hb:h.IsList b ys):ZipApart z TI TO i1 i2 a b:=by
 obtain⟨hz,hTI,⟨p,q,hTO⟩,⟨o1,e1,c1,d1⟩,⟨o2,e2,c2,d2⟩⟩:=st;obtain⟨oa,ea,ca,da⟩:=ha;obtain⟨ob,eb,cb,db⟩:=hb;have t:∀ {x y:Addr} {o u:Obj} {m n:String},h.get? x=some o->h.get? y=some u->o.cls= .type m->u.cls= .type n->m ≠ n->x ≠ y:=fun ex ey cx cy d=>V2 ex ey (by rw[cx,cy];intro z;injection z with z;exact d z)
 exact⟨t hTI hz rfl rfl (by decide),t hTO hz rfl rfl (by decide),t e1 hz c1 rfl (by decide),t e2 hz c2 rfl (by decide),nT,t hTI e1 rfl c1 (by decide),t hTI e2 rfl c2 (by decide),t hTO e1 rfl c1 (by decide),t hTO e2 rfl c2 (by decide),ni,
  t ea hz ca rfl (by decide),t ea hTO ca rfl (by decide),t ea e1 ca c1 (by decide),t ea e2 ca c2 (by decide),t eb hz cb rfl (by decide),t eb hTO cb rfl (by decide),t eb e1 cb c1 (by decide),t eb e2 cb c2 (by decide)⟩
theorem Yu{P:Program}{w:World}{K:aq}{elts:List Expr}{kt:Nat}{tp:Pos}(a b z TI TO i1 i2:Addr)(nT:TI ≠ TO)(ni:i1 ≠ i2):Turn P w K (.Tuple elts kt tp) (Itz K a b) [z,TI,TO,i1,i2] z (fun i h=>Z0 z TI TO i1 i2 a b i h) where
 mem:=by simp
 obj:=fun i h st c hc=>by
  obtain⟨hz,hTI,⟨p,q,hTO⟩,⟨o1,e1,c1,d1⟩,⟨o2,e2,c2,d2⟩⟩:=st;simp only[List.mem_cons,List.mem_nil_iff,or_false]at hc
  rcases hc with rfl | rfl | rfl | rfl | rfl
  · exact⟨_,hz,fun v z=>by cases z⟩
  · exact⟨_,hTI,fun v z=>by cases z⟩
  · exact⟨_,hTO,fun v z=>by cases z⟩
  · exact⟨_,e1,fun v z=>by rw[d1]at z;cases z⟩
  · exact⟨_,e2,fun v z=>by rw[d2]at z;cases z⟩
 keep:=fun i h h' st k=>by
  obtain⟨hz,hTI,⟨p,q,hTO⟩,h1,h2⟩:=st;exact⟨k z (by simp) _ hz,k TI (by simp) _ hTI,⟨p,q,k TO (by simp) _ hTO⟩,h1.at fun o e=>k i1 (by simp) o e,h2.at fun o e=>k i2 (by simp) o e⟩
 item:=by
  intro X hP hw hK hc i pins s σ H E I hf st hg;subst hP hw hK;obtain⟨xs,ys,x,y,hqa,hqb,hx,hy⟩:=hg;obtain⟨ia,ra,pa,za⟩:=I.list hqa;obtain⟨ib,rb,pb,zb⟩:=I.list hqb;obtain⟨u,hu,ru⟩:=ra.get hx;obtain⟨v,hv,rv⟩:=rb.get hy;have D:=J5 nT ni st pa.isList pb.isList;obtain⟨hz,hTI,⟨p,q,hTO⟩,h1,h2⟩:=st;refine wpAny_pyNext_zip_item D hz hTI hTO h1 h2 pa.isList pb.isList (x:=u) (y:=v) (by simpa using hu) (by simpa using hv) fun h' a1 a2 a3 a4 a5 a6 hk=>?_;refine⟨_,rfl,wpAny_letOwnedTupleGo_zip (s:={ s with heap:=h' }) a1 fun h2' hz' sb=>?_⟩;have nTz:∀ {c:Addr} {o:Obj},s.heap.get? c=some o->c ≠ s.heap.objs.size:=fun e=>Nat.ne_of_lt (Heap.lt_size e);have hT2:IsPair h2' s.heap.objs.size u v:=sb.extBut _ _ (Ne.symm (nTz hz)) a5
  have I1:Inv X pins σ (upd H s.heap.objs.size (.tup [x,y])) { s with heap:=s.heap.push { cls:=.type "tuple",data:=.seq #[u,v] },toks:=s.toks }:=
   I.laid (t':=s.toks) (fun b u e=>Heap.get?_push_of_some _ e) (az _) ⟨by show 2<=sizeLine;decide,[u,v],.cons ru (.cons rv .nil),⟨_,Heap.get?_push_size _ rfl,rfl,_,rfl⟩⟩
  have fp:∀ {c:Addr} {o:Obj},s.heap.get? c=some o->m8 X pins H c->m8 X pins (upd H s.heap.objs.size (.tup [x,y])) c:=fun e ⟨f0,f⟩=>⟨by rw[aN (nTz e)];exact f0,f⟩;obtain⟨o1,e1,c1,d1⟩:=id h1;obtain⟨o2,e2,c2,d2⟩:=id h2
  have I2:Inv X pins σ (upd H s.heap.objs.size (.tup [x,y])) { s with heap:=h2',toks:=s.toks }:=Inv.Cu (s:={ s with heap:=s.heap.push { cls:=.type "tuple",data:=.seq #[u,v] },toks:=s.toks }) (t':=s.toks) (ch:=[z,TO,i1,i2]) I1 (fun c o nc e=>by
   simp only[List.mem_cons,List.mem_nil_iff,or_false,not_or]at nc
   by_cases hcT:c=s.heap.objs.size
   · subst hcT;have e':(s.heap.push { cls:=.type "tuple",data:=.seq #[u,v] }).get? s.heap.objs.size=some { cls:=.type "tuple",data:=.seq #[u,v] }:=Heap.get?_push_size _ rfl;rw[e']at e;cases e;exact hT2
   · have e':s.heap.get? c=some o:=by
      have e1:(s.heap.push { cls:=.type "tuple",data:=.seq #[u,v] }).get? c=some o:=e;rw[Heap.get?_push_ne _ _ _ hcT]at e1;exact e1
     exact sb.extBut _ _ nc.1 (hk c o nc.1 nc.2.1 nc.2.2.1 nc.2.2.2 e')) (fun c hc=>by
   simp only[List.mem_cons,List.mem_nil_iff,or_false]at hc
   rcases hc with rfl | rfl | rfl | rfl
   · exact fp hz (hf _ (by simp))
   · exact fp hTO (hf _ (by simp))
   · exact fp e1 (hf _ (by simp))
   · exact fp e2 (hf _ (by simp)))
  refine⟨.ref s.heap.objs.size,_,I2,rfl,⟨_,x,y,I.hok.fresh (az _),rfl,rfl,fun zs hzs=>by rw[I.yG hzs hqa];exact hx,fun zs hzs=>by rw[I.yG hzs hqb];exact hy⟩,
   ⟨hz',sb.extBut _ _ D.TIz (hk _ _ D.TIz D.TITO D.TIi1 D.TIi2 hTI),⟨_,_,sb.extBut _ _ D.TOz a2⟩,a3.extBut sb.extBut D.i1z,a4.extBut sb.extBut D.i2z⟩,fun c hc=>?_⟩
  have g:∃ o,s.heap.get? c=some o:=by
   simp only[List.mem_cons,List.mem_nil_iff,or_false]at hc
   rcases hc with rfl | rfl | rfl | rfl | rfl
   · exact⟨_,hz⟩
   · exact⟨_,hTI⟩
   · exact⟨_,hTO⟩
   · exact⟨_,e1⟩
   · exact⟨_,e2⟩
  obtain⟨o,e⟩:=g;rw[aN (nTz e)];exact(hf c hc).1
 done:=by
  intro X hP hw hK hc i pins s σ H E I hf st hg;subst hP hw hK;obtain⟨xs,ys,hqa,hqb,hl⟩:=hg;obtain⟨ia,ra,pa,za⟩:=I.list hqa;obtain⟨ib,rb,pb,zb⟩:=I.list hqb;have la:=ra.length;have lb:=rb.length;have D:=J5 nT ni st pa.isList pb.isList;obtain⟨hz,hTI,⟨p,q,hTO⟩,h1,h2⟩:=st;refine wpAny_pyNext_zip_end (I.ok.hd hc) D hz hTI hTO h1 h2 pa.isList pb.isList (hl.imp (fun l=>by simp;omega) fun l=>by simp;omega) fun h' hk=>⟨rfl,I.Cu (t':=s.toks) (ch:=[z,TO,i1,i2]) (fun c o nc e=>?_) fun c hc=>?_⟩
  · simp only[List.mem_cons,List.mem_nil_iff,or_false,not_or]at nc;exact hk c o nc.1 nc.2.1 nc.2.2.1 nc.2.2.2 e
  · simp only[List.mem_cons,List.mem_nil_iff,or_false]at hc
    rcases hc with rfl | rfl | rfl | rfl <;> exact hf _ (by simp)
 self:=fun _ _ _ _ _ st h=>wpAny_pyIter_zip st.hz h
def acM(K:aq)(ta:TA):TI:=fun σ H R=>ta σ H fun vs H1=>∃ a b,vs= [.ref a,.ref b]/\(∃ xs,SqL K H1 a xs)/\(∃ ys,SqL K H1 b ys)/\R (Itz K a b) H1
section
variable{X:Cx}
theorem V3{elts:List Expr}{kt:Nat}{tp:Pos}{a b:Expr}{ta:TA}{p pos:Pos}(hg:Gl X "zip")(hm:X.mg "zip" =none)(ha:PA X [a,b] ta)(hs:starEach [a,b] X.env= [(false,eval a X.env),(false,eval b X.env)]:=by rfl)(hs2:starEach [b] X.env= [(false,eval b X.env)]:=by rfl):
 PI X (.Tuple elts kt tp) (.Call (.Name "zip" p) [a,b] [] pos) (acM X.K ta):=by
 intro pins s σ H R I h;refine Call_ (qP I hg hm boot_zip (PyProof.Rows.callWith_type1 (thn (ha pos pins s σ H _ I h) fun us s1 ⟨vs,H1,I1,r1,q1⟩=>?_) (by rw[hs,hs2]) (by rw[hs2];rfl)));obtain⟨l1,l2,e,⟨xs,hqa⟩,⟨ys,hqb⟩,q⟩:=q1;subst e
 cases r1 with
 | cons r rr=>
   cases rr with
   | cons r' rr=>
     cases rr;cases r;cases r';obtain⟨ia,ra,pa,za⟩:=I1.list hqa;obtain⟨ib,rb,pb,zb⟩:=I1.list hqb;refine call_zip_2 pa.isList pb.isList fun h' hz hTI hTO h1 h2 hsz hk=>?_;refine wpAny_pyIter_zip hz ?_;have I2:Inv X pins σ H1 { s1 with heap:=h',toks:=s1.toks }:=I1.kept (t':=s1.toks) hk;refine⟨s1.heap.objs.size+4,[s1.heap.objs.size+4,s1.heap.objs.size+2,s1.heap.objs.size+3,s1.heap.objs.size,s1.heap.objs.size+1],_,_,H1,rfl,I2,Yu l1 l2 (s1.heap.objs.size+4) (s1.heap.objs.size+2) (s1.heap.objs.size+3) s1.heap.objs.size (s1.heap.objs.size+1) (Nat.ne_of_lt (Nat.lt_succ_self (s1.heap.objs.size+2))) (Nat.ne_of_lt (Nat.lt_succ_self s1.heap.objs.size)),⟨hz,hTI,⟨_,_,hTO⟩,h1,h2⟩,fun c hc=>?_,q⟩
     have hle:s1.heap.objs.size<=c:=by
      simp only[List.mem_cons,List.mem_nil_iff,or_false]at hc
      rcases hc with rfl | rfl | rfl | rfl | rfl <;> omega
     exact I1.Ib hle (I1.hok.fresh hle)
def Itd(lo:Int)(n:Nat):It:=⟨fun i _=>i<n,fun i H x H'=>H'=H/\x= .int (lo - i),fun i _=>n<=i⟩
theorem V4{P:Program}{w:World}{K:aq}{tg:Expr}(it:Addr)(lo:Int)(n:Nat):Turn P w K tg (Itd lo n) [it] it (fun i h=>IsRangeIter h it (lo+(i:Nat)*(-1)) ((n:Int) - (i:Nat)) (-1)) where
 mem:=by simp
 obj:=fun i h st b hb=>by
  have e:b=it:=by simpa using hb
  subst e
  exact⟨_,st,fun v z=>by
   have z':Data.fields _=Data.cell v:=z
   cases z'⟩
 keep:=fun i h h' st k=>k it (by simp) _ st
 item:=by
  intro X hP hw hK hc i pins s σ H E I hf st hg;subst hP hw hK;obtain⟨f0,f1,f2,f3,f4,f5⟩:=hf it (by simp);have W:=Walks.range (prog:=X.prog) (w:=X.w) (I.ok.hd hc) it lo (-1) n;refine W.item i s _ _ hg st fun v h' tk hv st' kk=>?_;obtain⟨t,rfl⟩:=hv;have I1:Inv X pins σ H { s with heap:=h',toks:=tk }:=I.turned (fun b o hb e=>kk b o (by simpa using hb) e) f0 f1 f3 f4 f5;refine⟨_,rfl,Ln (s:={ s with heap:=h',toks:=tk }) (n:="range_iterator") st' rfl rfl (by decide) ⟨.int (lo - i),H,I1,⟨t,?_⟩,⟨rfl,rfl⟩,st',fun b hb=>(hf b hb).1⟩⟩;congr 1
  omega
 done:=by
  intro X hP hw hK hc i pins s σ H E I hf st hg;subst hP hw hK;obtain⟨f0,f1,f2,f3,f4,f5⟩:=hf it (by simp);exact wpAny_pyNext_range_end (I.ok.hd hc) st (by have:n<=i:=hg;omega) fun h' eb=>⟨rfl,I.turned (t':=s.toks) (fun b o hb e=>eb b o hb e) f0 f1 f3 f4 f5⟩
 self:=fun _ _ _ _ _ st h=>wpAny_pyIter_rangeiter st h
theorem J6{a b:Int}:Builtin.Range.rangeSize a b (-1)=if b<a then a - b else 0:=by
 unfold Builtin.Range.rangeSize;simp only[show ¬ ((-1:Int) > 0) by decide,if_false,Int.neg_neg,Int.ediv_one]
 split <;> omega
theorem small_down{a b:Int}(ha: -(2 ^ 30)<=a)(ha':a<2 ^ 30)(hb: -(2 ^ 30)<=b)(hb':b<2 ^ 30):Builtin.Range.small a b (-1)=true:=by
 unfold Builtin.Range.small;rw[J6];simp only[Builtin.Range.rangeFitsLong,Bool.and_eq_true,Bool.or_eq_true,decide_eq_true_eq,beq_iff_eq]
 have e:(if(-1:Int) > 0 then decide (-2 ^ 63<=b+(-1 - 1))&&decide (b+(-1 - 1)<2 ^ 63) else decide (-2 ^ 63<=b+(-1+1))&&decide (b+(-1+1)<2 ^ 63))=true:=by
  rw[if_neg (by decide),Bool.and_eq_true];exact⟨decide_eq_true (by omega),decide_eq_true (by omega)⟩
 refine⟨?_,.inr e⟩
 split <;> omega
def Z1(ta:TA):TI:=fun σ H R=>ta σ H fun vs H1=>∃ i j:Int,vs= [.int i,.int j,.int (-1)]/\(-(2 ^ 30)<=i/\i<2 ^ 30/\-(2 ^ 30)<=j/\j<2 ^ 30)/\R (Itd i (i - j).toNat) H1
theorem V5{tg a b c:Expr}{ta:TA}{p pos:Pos}(hg:Gl X "range")(hm:X.mg "range" =none)(ha:PA X [a,b,c] ta)(he:starEach [a,b,c] X.env=(false,eval a X.env)::starEach [b,c] X.env:=by rfl)(hpl:(backTo pos (starEach [b,c] X.env)).any (·.1)=false:=by rfl):
 PI X tg (.Call (.Name "range" p) [a,b,c] [] pos) (Z1 ta):=by
 intro pins s σ H R I h;refine Call_ (qP I hg hm boot_range (PyProof.Rows.callWith_type1 (thn (ha pos pins s σ H _ I h) fun us s1 ⟨vs,H1,I1,r1,q1⟩=>?_) he hpl));obtain⟨i,j,e,⟨q1,q2,q3,q4⟩,q⟩:=q1;subst e
 cases r1 with
 | cons r rr=>
   cases rr with
   | cons r' rr=>
     cases rr with
     | cons r2 rr=>
       cases rr;obtain⟨t,rfl⟩:=r;obtain⟨t',rfl⟩:=r';obtain⟨t2,rfl⟩:=r2;refine call_range_3 (by decide) ?_ (Or.inl (PyProof.noPylong_small (by decide)));refine wpAny_pyIter_range (IsRange.new ..) (small_down q1 q2 q3 q4) ?_;have I2:Inv X pins σ H1 { s1 with heap:=s1.heap.push { cls:=.type "range",data:=.fields #[.int i t,.int j t',.int (-1) t2] },toks:=s1.toks }:=I1.kept fun b o e=>Heap.get?_push_of_some _ e
       refine⟨(s1.heap.push { cls:=.type "range",data:=.fields #[.int i t,.int j t',.int (-1) t2] }).objs.size,[(s1.heap.push { cls:=.type "range",data:=.fields #[.int i t,.int j t',.int (-1) t2] }).objs.size],_,_,H1,rfl,
        I2.kept (t':=s1.toks) fun b o e=>Heap.get?_push_of_some _ e,V4 _ i (i - j).toNat,?_,fun b hb=>?_,q⟩
       · have e1:i+((0:Nat):Int)*(-1)=i:=by simp
         have e2:(((i - j).toNat:Nat):Int) - ((0:Nat):Int)=Builtin.Range.rangeSize i j (-1):=by rw[J6];split <;> omega
         show IsRangeIter _ _ (i+((0:Nat):Int)*(-1)) ((((i - j).toNat:Nat):Int) - ((0:Nat):Int)) (-1);rw[e1,e2];exact Heap.get?_push_size _ rfl
       · have e:b=(s1.heap.push { cls:=.type "range",data:=.fields #[.int i t,.int j t',.int (-1) t2] }).objs.size:=by simpa using hb
         subst e;exact I2.Ib (az _) (I2.hok.fresh (az _))
end
def Ite(K:aq)(a:Addr):It:=
 ⟨fun i H=>∃ xs x,SqL K H a xs/\xs[i]? =some x,
  fun i H v H'=>∃ T x,H T=none/\v= .ref T/\H'=upd H T (.tup [.int i,x])/\∀ xs,SqL K H a xs->xs[i]? =some x,
  fun i H=>∃ xs,SqL K H a xs/\xs.length<=i⟩
structure V6 (e i1 a:Addr)(i:Nat)(h:Heap):Prop where
 he:∃ old,IsEnum h e i1 i old
 h1:h.IsListIter i1 a i
theorem S9{e i1 a:Addr}{i:Nat}{h:Heap}(st:V6 e i1 a i h):e ≠ i1:=by
 obtain⟨⟨old,he⟩,⟨o1,e1,c1,d1⟩⟩:=st;exact V2 he e1 (by rw[c1];intro z;injection z with z;exact absurd z (by decide))
theorem V7{P:Program}{w:World}{K:aq}{elts:List Expr}{kt:Nat}{tp:Pos}(a e i1:Addr):Turn P w K (.Tuple elts kt tp) (Ite K a) [e,i1] e (fun i h=>V6 e i1 a i h) where
 mem:=by simp
 obj:=fun i h st c hc=>by
  obtain⟨⟨old,he⟩,⟨o1,e1,c1,d1⟩⟩:=st;simp only[List.mem_cons,List.mem_nil_iff,or_false]at hc
  rcases hc with rfl | rfl
  · exact⟨_,he,fun v z=>by cases z⟩
  · exact⟨_,e1,fun v z=>by rw[d1]at z;cases z⟩
 keep:=fun i h h' st k=>by
  obtain⟨⟨old,he⟩,h1⟩:=st;exact⟨⟨old,k e (by simp) _ he⟩,h1.at fun o e=>k i1 (by simp) o e⟩
 item:=by
  intro X hP hw hK hc i pins s σ H E I hf st hg;subst hP hw hK;obtain⟨xs,x,hqa,hx⟩:=hg;obtain⟨ia,ra,pa,za⟩:=I.list hqa;obtain⟨u,hu,ru⟩:=ra.get hx;have ne:=S9 st;obtain⟨⟨old,he⟩,h1⟩:=st;obtain⟨o1,e1,c1,d1⟩:=id h1;refine wpAny_pyNext_enum_item he h1 pa.isList (x:=u) (by simpa using hu) ne fun h' a1 a2 a3 a4 hk=>?_;refine⟨_,rfl,wpAny_letOwnedTupleGo_enum (s:={ s with heap:=h',toks:=s.toks+1 }) a1 fun h2' hz' sb=>?_⟩;have nTz:∀ {c:Addr} {o:Obj},s.heap.get? c=some o->c ≠ s.heap.objs.size:=fun e=>Nat.ne_of_lt (Heap.lt_size e);have hT2:h2'.get? s.heap.objs.size=some { cls:=.type "tuple",data:=.seq #[.int i s.toks,u] }:=sb.extBut _ _ (Ne.symm (nTz he)) a3
  have I1:Inv X pins σ (upd H s.heap.objs.size (.tup [.int i,x])) { s with heap:=s.heap.push { cls:=.type "tuple",data:=.seq #[.int i s.toks,u] },toks:=s.toks+1 }:=
   I.laid (t':=s.toks+1) (fun b u e=>Heap.get?_push_of_some _ e) (az _) ⟨by show 2<=sizeLine;decide,[.int i s.toks,u],.cons ⟨_,rfl⟩ (.cons ru .nil),⟨_,Heap.get?_push_size _ rfl,rfl,_,rfl⟩⟩
  have fp:∀ {c:Addr} {o:Obj},s.heap.get? c=some o->m8 X pins H c->m8 X pins (upd H s.heap.objs.size (.tup [.int i,x])) c:=fun e ⟨f0,f⟩=>⟨by rw[aN (nTz e)];exact f0,f⟩
  have I2:Inv X pins σ (upd H s.heap.objs.size (.tup [.int i,x])) { s with heap:=h2',toks:=s.toks+1 }:=Inv.Cu (s:={ s with heap:=s.heap.push { cls:=.type "tuple",data:=.seq #[.int i s.toks,u] },toks:=s.toks+1 }) (t':=s.toks+1) (ch:=[e,i1]) I1 (fun c o nc ec=>by
   simp only[List.mem_cons,List.mem_nil_iff,or_false,not_or]at nc
   by_cases hcT:c=s.heap.objs.size
   · subst hcT;have e':(s.heap.push { cls:=.type "tuple",data:=.seq #[.int i s.toks,u] }).get? s.heap.objs.size=some { cls:=.type "tuple",data:=.seq #[.int i s.toks,u] }:=Heap.get?_push_size _ rfl;rw[e']at ec;cases ec;exact hT2
   · have e':s.heap.get? c=some o:=by
      have e1:(s.heap.push { cls:=.type "tuple",data:=.seq #[.int i s.toks,u] }).get? c=some o:=ec;rw[Heap.get?_push_ne _ _ _ hcT]at e1;exact e1
     exact sb.extBut _ _ nc.1 (hk c o nc.1 nc.2 e')) (fun c hc=>by
   simp only[List.mem_cons,List.mem_nil_iff,or_false]at hc
   rcases hc with rfl | rfl
   · exact fp he (hf _ (by simp))
   · exact fp e1 (hf _ (by simp)))
  refine⟨.ref s.heap.objs.size,_,I2,rfl,⟨_,x,I.hok.fresh (az _),rfl,rfl,fun zs hzs=>by rw[I.yG hzs hqa];exact hx⟩,
   ⟨⟨u,by have:((i+1:Nat):Int)=(i:Int)+1:=by omega
          rw[this];exact hz'⟩,a2.extBut sb.extBut (Ne.symm ne)⟩,fun c hc=>?_⟩
  have g:∃ o,s.heap.get? c=some o:=by
   simp only[List.mem_cons,List.mem_nil_iff,or_false]at hc
   rcases hc with rfl | rfl
   · exact⟨_,he⟩
   · exact⟨_,e1⟩
  obtain⟨o,e⟩:=g;rw[aN (nTz e)];exact(hf c hc).1
 done:=by
  intro X hP hw hK hc i pins s σ H E I hf st hg;subst hP hw hK;obtain⟨xs,hqa,hl⟩:=hg;obtain⟨ia,ra,pa,za⟩:=I.list hqa;have la:=ra.length;obtain⟨⟨old,he⟩,h1⟩:=st;refine wpAny_pyNext_enum_end (I.ok.hd hc) he h1 pa.isList (by simp;omega) fun h' hk=>⟨rfl,I.Cu (t':=s.toks) (ch:=[i1]) (fun c o nc e=>?_) fun c hc=>?_⟩
  · simp only[List.mem_cons,List.mem_nil_iff,or_false]at nc;exact hk c o nc e
  · simp only[List.mem_cons,List.mem_nil_iff,or_false]at hc;subst hc;exact hf _ (by simp)
 self:=fun _ _ _ _ _ st h=>by obtain⟨old,he⟩:=st.he;exact wpAny_pyIter_enum he h
def Z2(K:aq)(ta:TA):TI:=fun σ H R=>ta σ H fun vs H1=>∃ a,vs= [.ref a]/\(∃ xs,SqL K H1 a xs)/\R (Ite K a) H1
section
variable{X:Cx}
theorem QX{elts:List Expr}{kt:Nat}{tp:Pos}{a:Expr}{ta:TA}{p pos:Pos}(hg:Gl X "enumerate")(hm:X.mg "enumerate" =none)(ha:PA X [a] ta)(hs:starEach [a] X.env=(false,eval a X.env)::starEach [] X.env:=by rfl)(hpl:(backTo pos (starEach [] X.env)).any (·.1)=false:=by rfl):
 PI X (.Tuple elts kt tp) (.Call (.Name "enumerate" p) [a] [] pos) (Z2 X.K ta):=by
 intro pins s σ H R I h;refine Call_ (qP I hg hm boot_enumerate (PyProof.Rows.callWith_type1 (thn (ha pos pins s σ H _ I h) fun us s1 ⟨vs,H1,I1,r1,q1⟩=>?_) hs hpl));obtain⟨l1,e,⟨xs,hqa⟩,q⟩:=q1;subst e
 cases r1 with
 | cons r rr=>
   cases rr;cases r;obtain⟨ia,ra,pa,za⟩:=I1.list hqa;refine call_enumerate_list pa.isList fun h' hz h1 hsz hk=>?_;refine wpAny_pyIter_enum hz ?_;have I2:Inv X pins σ H1 { s1 with heap:=h',toks:=s1.toks }:=I1.kept (t':=s1.toks) hk;refine⟨s1.heap.objs.size+1,[s1.heap.objs.size+1,s1.heap.objs.size],_,_,H1,rfl,I2,V7 l1 (s1.heap.objs.size+1) s1.heap.objs.size,⟨⟨_,hz⟩,h1⟩,fun c hc=>?_,q⟩
   have hle:s1.heap.objs.size<=c:=by
    simp only[List.mem_cons,List.mem_nil_iff,or_false]at hc
    rcases hc with rfl | rfl <;> omega
   exact I1.Ib hle (I1.hok.fresh hle)
end
end L2
namespace Ev
section
inductive W where | non | bl (b:Bool) | int (i:Int) | str (c:List Nat) | ref (n:Nat)
 deriving DecidableEq
abbrev Fs:=List (List Nat × W)
inductive O where
 | tup (xs:List W) | lst (xs:List W) | ins (C:Nat) (fs:Fs) | dk (kvs:List (W × W)) | dt (kvs:List (List W × W)) | scr (ns:List Int)
 deriving DecidableEq
inductive Tr where | lf | nd (o:Option O) (l r:Tr)
def Tr.get(t:Tr):Nat->Option O:=Tr.rec (fun _=>none) (fun o _ _ gl gr k=>Nat.rec o (fun k _=>Bool.rec (gr (Nat.div k 2)) (gl (Nat.div k 2)) (Nat.beq (Nat.mod k 2) 0)) k) t
def Tr.set(d:Nat):Tr->Nat->O->Tr:=Nat.rec (fun t _ _=>t) (fun _ ih t k o=>Tr.rec
    (Nat.rec (.nd (some o) .lf .lf) (fun k _=>Bool.rec (.nd none .lf (ih .lf (Nat.div k 2) o)) (.nd none (ih .lf (Nat.div k 2) o) .lf) (Nat.beq (Nat.mod k 2) 0)) k)
    (fun x l r _ _=>Nat.rec (.nd (some o) l r) (fun k _=>Bool.rec (.nd x l (ih r (Nat.div k 2) o)) (.nd x (ih l (Nat.div k 2) o) r) (Nat.beq (Nat.mod k 2) 0)) k) t) d
inductive Hs where | mk (n:Nat) (t:Tr)
def Hs.n(h:Hs):Nat:=Hs.rec (fun n _=>n) h
def Hs.get(h:Hs)(k:Nat):Option O:=Hs.rec (fun _ t=>t.get k) h
def Hs.set(h:Hs)(k:Nat)(o:O):Hs:=Hs.rec (fun n t=>.mk n (t.set (Nat.succ k) k o)) h
def Hs.push(h:Hs)(o:O):Hs:=Hs.rec (fun n t=>.mk (Nat.add n 1) (t.set (Nat.succ n) n o)) h
inductive R (α:Type) where | ok (a:α) (h:Hs) | ex (C:Nat) (fs:Fs) (h:Hs) | no
def R.bind{α β:Type}(r:R α)(f:α->Hs->R β):R β:=R.rec (fun a h=>f a h) (fun C fs h=>.ex C fs h) .no r
def R.nox{α:Type}(r:R α):R α:=R.rec (fun a h=>.ok a h) (fun _ _ _=>.no) .no r
def W.elim{β:Type}(w:W)(z:β)(b:Bool->β)(i:Int->β)(s:List Nat->β)(r:Nat->β):β:=W.rec z b i s r w
def W.onI{β:Type}(w:W)(f:Int->R β):R β:=W.rec .no (fun _=>.no) f (fun _=>.no) (fun _=>.no) w
def W.onR{β:Type}(w:W)(f:Nat->R β):R β:=W.rec .no (fun _=>.no) (fun _=>.no) (fun _=>.no) f w
def W.onB{β:Type}(w:W)(f t:R β):R β:=W.rec .no (fun b=>Bool.rec f t b) (fun _=>.no) (fun _=>.no) (fun _=>.no) w
def ifB{β:Type}(b:Bool)(t f:β):β:=Bool.rec f t b
def gO(ws:List W)(f:W->R W):R W:=List.rec .no (fun a r _=>List.rec (f a) (fun _ _ _=>.no) r) ws
def fZ(ws:List W)(f:W->W->R W):R W:=List.rec .no (fun a r _=>List.rec .no (fun b r _=>List.rec (f a b) (fun _ _ _=>.no) r) r) ws
def yO(ws:List W)(f:Int->Int->R W):R W:=fZ ws fun a b=>a.onI fun i=>b.onI fun j=>f i j
abbrev Sg:=List (Option W)
inductive Fl where | nx (τ:Sg) | rt (w:W) | bk (τ:Sg) | ct (τ:Sg)
def app{α:Type}(xs ys:List α):List α:=List.rec ys (fun x _ r=>x::r) xs
def len{α:Type}(xs:List α):Nat:=List.rec 0 (fun _ _ r=>Nat.add r 1) xs
def nth{α:Type}(xs:List α):Nat->Option α:=List.rec (fun _=>none) (fun x _ ih k=>Nat.rec (some x) (fun k _=>ih k) k) xs
def drp{α:Type}(xs:List α):Nat->List α:=List.rec (fun _=>[]) (fun x r ih k=>Nat.rec (x::r) (fun k _=>ih k) k) xs
def tak{α:Type}(xs:List α):Nat->List α:=List.rec (fun _=>[]) (fun x _ ih k=>Nat.rec [] (fun k _=>x::ih k) k) xs
def setAt{α:Type}(τ:List α)(w:α):Nat->List α:=List.rec (fun _=>[]) (fun x r ih k=>Nat.rec (w::r) (fun k _=>x::ih k) k) τ
def cD(τ:Sg):Nat->Option W:=List.rec (fun _=>none) (fun x _ ih k=>Nat.rec x (fun k _=>ih k) k) τ
def codes(x:List Nat):List Nat->Bool:=List.rec (fun y=>List.rec true (fun _ _ _=>false) y) (fun a _ ih y=>List.rec false (fun b r _=>ifB (Nat.beq a b) (ih r) false) y) x
def fget(fs:Fs)(f:List Nat):Option W:=List.rec none (fun p _ r=>ifB (codes p.1 f) (some p.2) r) fs
def S_(f:List Nat)(w:W)(fs:Fs):Fs:=List.rec [(f,w)] (fun p r ih=>ifB (codes p.1 f) ((f,w)::r) (p::ih)) fs
def ieq(i j:Int):Bool:=Int.rec (fun a=>Int.rec (fun b=>Nat.beq a b) (fun _=>false) j) (fun a=>Int.rec (fun _=>false) (fun b=>Nat.beq a b) j) i
def ilt(i j:Int):Bool:=Int.rec (fun a=>Int.rec (fun b=>Nat.ble (Nat.add a 1) b) (fun _=>false) j) (fun a=>Int.rec (fun _=>true) (fun b=>Nat.ble (Nat.add b 1) a) j) i
def Opt{α β:Type}(o:Option α)(f:α->R β):R β:=Option.rec .no f o
def O.items{β:Type}(o:O)(f:List W->R β):R β:=O.rec f f (fun _ _=>.no) (fun _=>.no) (fun _=>.no) (fun _=>.no) o
def O.onL{β:Type}(o:O)(f:List W->R β):R β:=O.rec (fun _=>.no) f (fun _ _=>.no) (fun _=>.no) (fun _=>.no) (fun _=>.no) o
def O.onT{β:Type}(o:O)(f:List W->R β):R β:=O.rec f (fun _=>.no) (fun _ _=>.no) (fun _=>.no) (fun _=>.no) (fun _=>.no) o
def O.onS{β:Type}(o:O)(f:List W->R β):R β:=O.rec (fun _=>.no) f (fun _ _=>.no) (fun _=>.no) (fun _=>.no) (fun _=>.no) o
def O.onI{β:Type}(o:O)(f:Nat->Fs->R β):R β:=O.rec (fun _=>.no) (fun _=>.no) f (fun _=>.no) (fun _=>.no) (fun _=>.no) o
def Hs.at{β:Type}(h:Hs)(w:W)(f:Nat->O->R β):R β:=w.onR fun n=>Opt (h.get n) (f n)
def R.alloc(h:Hs)(o:O):R W:=.ok (.ref h.n) (h.push o)
def R.yes(b:Bool)(h:Hs):R W:=.ok (.bl b) h
inductive D where | non | bl (b:Bool) | int (i:Int) | str (c:List Nat) | lst (xs:List D) | tup (xs:List D)
def okC(c:List Nat):Bool:=List.rec true (fun x _ r=>ifB (Nat.ble (x+1) 1114112) r false) c
def m_(f:W->Option D)(xs:List W):Option (List D):=List.rec (some []) (fun x _ r=>Option.rec none (fun d=>Option.rec none (fun ds=>some (d::ds)) r) (f x)) xs
def toD(h:Hs)(n:Nat):W->Option D:=Nat.rec (fun _=>none) (fun _ ih w=>W.elim w (some .non) (fun b=>some (.bl b)) (fun i=>some (.int i)) (fun c=>ifB (okC c) (some (.str c)) none) fun k=>
 Option.rec none (fun o=>O.rec (fun xs=>Option.rec none (fun ds=>some (.tup ds)) (m_ ih xs)) (fun xs=>Option.rec none (fun ds=>some (.lst ds)) (m_ ih xs)) (fun _ _=>none) (fun _=>none) (fun _=>none) (fun _=>none) o) (h.get k)) n
def D.bools(b:Bool)(d:D):Bool:=D.casesOn d false (fun c=>Bool.rec (!c) c b) (fun _=>false) (fun _=>false) (fun _=>false) (fun _=>false)
mutual
def eV:D->D->Bool
 | .non,.non=>true
 | .bl a,.bl b=>a==b
 | .int i,.int j=>ieq i j
 | .str x,.str y=>codes x y
 | .lst xs,.lst ys=>vB xs ys
 | .tup xs,.tup ys=>vB xs ys
 | .bl a,.int j=>ieq (if a then 1 else 0) j
 | .int i,.bl b=>ieq i (if b then 1 else 0)
 | _,_=>false
def vB:List D->List D->Bool
 | [],[]=>true
 | x::xs,y::ys=>eV x y&&vB xs ys
 | _,_=>false
end
mutual
def kh:D->D->Bool
 | .non,.non=>true
 | .bl a,.bl b=>a==b
 | .int i,.int j=>ieq i j
 | .str x,.str y=>codes x y
 | .lst xs,.lst ys=>pM xs ys
 | .tup xs,.tup ys=>pM xs ys
 | _,_=>false
def pM:List D->List D->Bool
 | [],[]=>true
 | x::xs,y::ys=>kh x y&&pM xs ys
 | _,_=>false
end
def rY(i j:Int):Int:=Int.rec (fun a=>Int.rec (fun b=>.ofNat (Nat.add a b)) (fun b=>Int.subNatNat a (Nat.add b 1)) j) (fun a=>Int.rec (fun b=>Int.subNatNat b (Nat.add a 1)) (fun b=>.negSucc (Nat.add (Nat.add a b) 1)) j) i
def Tc(i j:Int):Int:=Int.rec (fun a=>Int.rec (fun b=>Bool.rec (.negSucc (Nat.sub (Nat.sub b a) 1)) (.ofNat (Nat.sub a b)) (Nat.ble b a)) (fun b=>.ofNat (Nat.add (Nat.add a b) 1)) j) (fun a=>Int.rec (fun b=>.negSucc (Nat.add a b)) (fun b=>i - .negSucc b) j) i
def fmod(i j:Int):Int:=Int.rec (fun a=>Int.rec (fun b=>.ofNat (Nat.mod a b)) (fun b=>i % .negSucc b) j) (fun a=>Int.rec (fun b=>.negSucc a % .ofNat b) (fun b=>.negSucc a % .negSucc b) j) i
structure Pr where
 f:List W->Hs->R W
def Sml(i:Int):Bool:=Int.rec (fun a=>Nat.ble (a+1) (2 ^ 4000)) (fun a=>Nat.ble (a+2) (2 ^ 4000)) i
def size(xs:List W)(k:R W):R W:=ifB (Nat.ble (len xs) 16777215) k .no
def acN(h:Hs)(a b:W):R W:=h.at a fun _ x=>h.at b fun _ y=>O.casesOn x (fun _=>.no) (fun xs=>y.onL fun ys=>size (app xs ys) (.alloc h (.lst (app xs ys)))) (fun _ _=>.no) (fun _=>.no) (fun _=>.no) (fun _=>.no)
def acO(h:Hs)(a b:W):R W:=W.elim a .no (fun _=>.no) (fun i=>b.onI fun j=>.ok (.int (rY i j)) h) (fun _=>.no) (fun _=>acN h a b)
def acP(h:Hs)(i j:Int):R W:=.ok (.int (Tc i j)) h
def Yv(xs:List W)(k:Nat):List W:=Nat.rec [] (fun _ r=>app xs r) k
def acQ(h:Hs)(a:W)(k:Int):R W:=h.at a fun _ x=>x.onL fun xs=>ifB (ilt k 100000) (ifB (ilt (-100000) k) (ifB (Nat.ble (len xs) 100) (.alloc h (.lst (Yv xs k.toNat))) .no) .no) .no
def acR(h:Hs)(a b:W):R W:=b.onI fun j=>W.elim a .no (fun _=>.no) (fun i=>ifB (Sml i) (ifB (Sml j) (.ok (.int (i*j)) h) .no) .no) (fun _=>.no) (fun _=>acQ h a j)
def acS(h:Hs)(i j:Int):R W:=ifB (ilt 0 j) (.ok (.int (fmod i j)) h) .no
def Z3(h:Hs)(i j:Int):R W:=ifB (ilt 0 j) (ifB (Sml j) (.ok (.int (i.fdiv j)) h) .no) .no
def afW(h:Hs)(a:W):R W:=a.onI fun i=>.ok (.int (-i)) h
def afX(h:Hs)(a:W):R W:=a.onI fun i=>.ok (.int (Int.ofNat i.natAbs)) h
def Yw(h:Hs)(i j:Int):R W:=.ok (.int (ifB (ilt j i) j i)) h
def afY(h:Hs)(i j:Int):R W:=.ok (.int (ifB (ilt i j) j i)) h
def Yx(n:Nat)(i:Int):Nat:=Int.rec (fun k=>k) (fun k=>ifB (Nat.ble (k+1) n) (n - (k+1)) n) i
def pIx(h:Hs)(a b:W):R W:=h.at a fun _ o=>o.items fun xs=>b.onI fun i=>Opt (nth xs (Yx (len xs) i)) fun w=>.ok w h
def acT(h:Hs)(a:W):R W:=h.at a fun _ o=>o.items fun xs=>.ok (.int (.ofNat (len xs))) h
def wH(w:W):Bool:=W.elim w true (fun _=>false) (fun _=>false) (fun _=>false) (fun _=>false)
def wD(h:Hs)(w:W)(f:D->R W):R W:=Opt (toD h 12 w) f
def pEq(f:Bool->Bool)(h:Hs)(a b:W):R W:=wD h a fun x=>wD h b fun y=>.yes (f (eV x y)) h
def aeL(h:Hs)(a b:W):R W:=wD h a fun x=>wD h b fun y=>.yes (kh x y) h
def Yy(xs:List W):Bool:=List.rec false (fun _ _ _=>true) xs
def V8(h:Hs)(a:W):R W:=W.elim a (.yes false h) (fun b=>.yes b h) (fun i=>.yes (!ieq i 0) h) (fun _=>.no) (fun _=>h.at a fun _ o=>o.items fun xs=>.yes (Yy xs) h)
def ye(h:Hs)(a b:W):R W:=h.at a fun n o=>o.onL fun xs=>size xs (.ok .non (h.set n (.lst (app xs [b]))))
def init(xs:List W):List W:=List.rec [] (fun x r ih=>List.rec [] (fun _ _ _=>x::ih) r) xs
def last(xs:List W):Option W:=List.rec none (fun x _ ih=>some (Option.rec x (fun y=>y) ih)) xs
def acU(h:Hs)(a:W):R W:=h.at a fun n o=>o.onL fun xs=>Opt (last xs) fun w=>.ok w (h.set n (.lst (init xs)))
def acV(h:Hs)(a:W):R W:=h.at a fun n o=>o.onL fun _=>.ok .non (h.set n (.lst []))
def rev(xs:List W):List W->List W:=List.rec (fun acc=>acc) (fun x _ ih acc=>ih (x::acc)) xs
def Yz(h:Hs)(a:W):R W:=h.at a fun n o=>o.onL fun xs=>.ok .non (h.set n (.lst (rev xs [])))
def QZ(h:Hs)(a b:W):R W:=h.at a fun n o=>o.onL fun xs=>h.at b fun _ o=>o.onL fun ys=>size (app xs ys) (.ok .non (h.set n (.lst (app xs ys))))
def Z4(h:Hs)(a:W):R W:=h.at a fun _ o=>o.items fun xs=>.alloc h (.lst xs)
def eqF(a b:W):Option Bool:=W.elim a
 (W.elim b (some true) (fun _=>some false) (fun _=>some false) (fun _=>some false) (fun _=>none)) (fun _=>none)
 (fun i=>W.elim b (some false) (fun _=>none) (fun j=>some (ieq i j)) (fun _=>some false) (fun _=>none))
 (fun x=>W.elim b (some false) (fun _=>none) (fun _=>some false) (fun y=>some (codes x y)) (fun _=>none)) (fun _=>none)
def w5(a:W)(xs:List W):Option Bool:=List.rec (some false) (fun x _ ih=>Option.rec none (fun b=>Option.rec none (fun r=>some (ifB b true r)) ih) (eqF x a)) xs
def pIn(f:Bool->Bool)(h:Hs)(a b:W):R W:=h.at b fun _ o=>o.items fun xs=>Opt (eqF a a) fun _=>Opt (w5 a xs) fun c=>.yes (f c) h
def bools(xs:List W):Option (List Bool):=List.rec (some []) (fun x _ ih=>W.elim x none (fun b=>Option.rec none (fun r=>some (b::r)) ih) (fun _=>none) (fun _=>none) (fun _=>none)) xs
def allB(xs:List Bool):Bool:=List.rec true (fun b _ r=>ifB b r false) xs
def anyB(xs:List Bool):Bool:=List.rec false (fun b _ r=>ifB b true r) xs
def YB(f:List Bool->Bool)(h:Hs)(a:W):R W:=h.at a fun _ o=>o.onL fun xs=>Opt (bools xs) fun bs=>.yes (f bs) h
def Z5(o:O):Option Nat:=O.casesOn o (fun _=>some 3) (fun _=>some 4) (fun _ _=>none) (fun _=>none) (fun _=>none) (fun _=>none)
def acW(k:Nat)(h:Hs)(a:W):R W:=W.elim a (.yes false h) (fun _=>.yes (ifB (Nat.beq k 0) true (Nat.beq k 1)) h) (fun _=>.yes (Nat.beq k 0) h) (fun _=>.yes (Nat.beq k 2) h) (fun n=>Opt (h.get n) fun o=>Opt (Z5 o) fun c=>.yes (Nat.beq k c) h)
def Td(xs:List W):List W->Option Bool:=List.rec (fun ys=>some (List.rec false (fun _ _ _=>true) ys)) (fun x _ ih ys=>List.rec (some false) (fun y r _=>W.elim x none (fun _=>none) (fun i=>W.elim y none (fun _=>none) (fun j=>ifB (ieq i j) (ih r) (some (ilt i j))) (fun _=>none) (fun _=>none)) (fun _=>none) (fun _=>none)) ys) xs
def Cv(xs:List W):Bool:=List.rec true (fun x _ r=>W.elim x false (fun _=>false) (fun _=>r) (fun _=>false) (fun _=>false)) xs
def pLt(h:Hs)(a b:W):R W:=W.elim a .no (fun _=>.no) (fun i=>b.onI fun j=>.yes (ilt i j) h) (fun _=>.no) (fun _=>h.at a fun _ x=>h.at b fun _ y=>x.onT fun xs=>y.onT fun ys=>ifB (Cv xs) (ifB (Cv ys) (Opt (Td xs ys) fun c=>.yes c h) .no) .no)
def tabOf(tb:List (List Nat × List Int))(c:List Nat):List Int:=List.rec [] (fun p _ r=>ifB (codes p.1 c) p.2 r) tb
def um(i:Int)(xs:List Int):Bool:=List.rec false (fun x _ r=>ifB (ieq x i) true r) xs
def acX(tb:List (List Nat × List Int))(h:Hs)(a b:W):R W:=a.onI fun i=>W.elim b .no (fun _=>.no) (fun _=>.no) (fun c=>.yes (!um i (tabOf tb c)) h) (fun _=>.no)
def jd(xs:List W):Option (List Int):=List.rec (some []) (fun x _ ih=>W.elim x none (fun _=>none) (fun i=>Option.rec none (fun r=>some (i::r)) ih) (fun _=>none) (fun _=>none)) xs
def dd(l:List Int):List Int->List Int:=List.rec (fun acc=>acc) (fun x _ ih acc=>ih (ifB (um x acc) acc (app acc [x]))) l
def pLs(h:Hs)(a:W):R W:=h.at a fun _ o=>o.onL fun xs=>ifB (Nat.ble (len xs) 1000) (Opt (jd xs) fun ns=>.ok (.int (.ofNat (len (dd ns [])))) h) .no
def O.onD{β:Type}(o:O)(f:List (W × W)->R β):R β:=O.rec (fun _=>.no) (fun _=>.no) (fun _ _=>.no) f (fun _=>.no) (fun _=>.no) o
def iT(w:W):Bool:=W.elim w false (fun _=>false) (fun _=>true) (fun _=>true) (fun _=>false)
def keq(a b:W):Bool:=W.elim a false (fun _=>false) (fun i=>W.elim b false (fun _=>false) (fun j=>ieq i j) (fun _=>false) (fun _=>false)) (fun x=>W.elim b false (fun _=>false) (fun _=>false) (fun y=>codes x y) (fun _=>false)) (fun _=>false)
def bD(kvs:List (W × W))(k:W):Option W:=List.rec none (fun p _ r=>ifB (keq p.1 k) (some p.2) r) kvs
def LK(h:Hs)(a b:W):R W:=h.at a fun _ o=>o.onD fun kvs=>ifB (iT b) (Opt (bD kvs b) fun w=>.ok w h) .no
def isS(o:Option W):Bool:=Option.rec false (fun _=>true) o
def kj(kvs:List (W × W))(k v:W):List (W × W):=List.rec [] (fun p _ r=>ifB (keq p.1 k) (p.1,v) p::r) kvs
def dM(kvs:List (W × W))(k v:W):List (W × W):=ifB (isS (bD kvs k)) (kj kvs k v) (app kvs [(k,v)])
def YC(f:Bool->Bool)(h:Hs)(b a:W):R W:=h.at a fun _ o=>o.onD fun kvs=>ifB (iT b) (.yes (f (isS (bD kvs b))) h) .no
def aeM(h:Hs)(ws:List W):R W:=List.rec (.alloc h (.dk [])) (fun _ _ _=>.no) ws
def Pr.add:Pr:=⟨fun ws h=>fZ ws (acO h)⟩
def Pr.sub:Pr:=⟨fun ws h=>yO ws (acP h)⟩
def Pr.mul:Pr:=⟨fun ws h=>fZ ws (acR h)⟩
def Pr.fdiv:Pr:=⟨fun ws h=>yO ws (Z3 h)⟩
def Pr.mod:Pr:=⟨fun ws h=>yO ws (acS h)⟩
def Pr.neg:Pr:=⟨fun ws h=>gO ws (afW h)⟩
def Pr.abs:Pr:=⟨fun ws h=>gO ws (afX h)⟩
def Pr.min:Pr:=⟨fun ws h=>yO ws (Yw h)⟩
def Pr.max:Pr:=⟨fun ws h=>yO ws (afY h)⟩
def Pr.lt:Pr:=⟨fun ws h=>fZ ws (pLt h)⟩
def Pr.le:Pr:=⟨fun ws h=>yO ws fun i j=>.yes (!ilt j i) h⟩
def Pr.gt:Pr:=⟨fun ws h=>yO ws fun i j=>.yes (ilt j i) h⟩
def Pr.ge:Pr:=⟨fun ws h=>yO ws fun i j=>.yes (!ilt i j) h⟩
def Pr.eq:Pr:=⟨fun ws h=>fZ ws (pEq id h)⟩
def Pr.ne:Pr:=⟨fun ws h=>fZ ws (pEq not h)⟩
def Pr.ix:Pr:=⟨fun ws h=>fZ ws (pIx h)⟩
def Pr.len:Pr:=⟨fun ws h=>gO ws (acT h)⟩
def Pr.tup:Pr:=⟨fun ws h=>size ws (.alloc h (.tup ws))⟩
def Pr.lst:Pr:=⟨fun ws h=>size ws (.alloc h (.lst ws))⟩
def Pr.isN:Pr:=⟨fun ws h=>gO ws fun a=>.yes (wH a) h⟩
def Pr.Te:Pr:=⟨fun ws h=>gO ws fun a=>.yes (!wH a) h⟩
def Pr.yP:Pr:=⟨fun ws h=>gO ws fun a=>a.onB (.yes true h) (.yes false h)⟩
def Pr.truth:Pr:=⟨fun ws h=>gO ws (V8 h)⟩
def Pr.append:Pr:=⟨fun ws h=>fZ ws (ye h)⟩
def Pr.pop:Pr:=⟨fun ws h=>gO ws (acU h)⟩
def Pr.clear:Pr:=⟨fun ws h=>gO ws (acV h)⟩
def Pr.reverse:Pr:=⟨fun ws h=>gO ws (Yz h)⟩
def Pr.extend:Pr:=⟨fun ws h=>fZ ws (QZ h)⟩
def Pr.list:Pr:=⟨fun ws h=>gO ws (Z4 h)⟩
def Pr.in_:Pr:=⟨fun ws h=>fZ ws (pIn id h)⟩
def Pr.wJ:Pr:=⟨fun ws h=>fZ ws (pIn not h)⟩
def Pr.all:Pr:=⟨fun ws h=>gO ws (YB allB h)⟩
def Pr.any:Pr:=⟨fun ws h=>gO ws (YB anyB h)⟩
def Pr.isi(k:Nat):Pr:=⟨fun ws h=>gO ws (acW k h)⟩
def Pr.same:Pr:=⟨fun ws h=>fZ ws (aeL h)⟩
def Pr.tab(tb:List (List Nat × List Int)):Pr:=⟨fun ws h=>fZ ws (acX tb h)⟩
def Pr.yf:Pr:=⟨fun ws h=>gO ws (pLs h)⟩
def Pr.Tf:Pr:=⟨fun ws h=>aeM h ws⟩
def Pr.M5:Pr:=⟨fun ws h=>fZ ws (LK h)⟩
def Pr.din:Pr:=⟨fun ws h=>fZ ws (YC id h)⟩
def lX(p:Pr)(ws:List W)(h:Hs):R W:=p.f ws h
inductive Tg where | nm (i:Nat) | tup (ts:List Tg)
inductive Iv where | lst (n:Nat) | tup (n:Nat) | rng (lo:Int) (n:Nat) | zip (n m:Nat) | dwn (lo:Int) (n:Nat) | enu (n:Nat)
inductive A where | w (w:W) | ws (l:List W) | iv (v:Iv) | fl (f:Fl) | u
def A.toW{β:Type}(a:A)(f:W->R β):R β:=A.rec f (fun _=>.no) (fun _=>.no) (fun _=>.no) .no a
def A.toL{β:Type}(a:A)(f:List W->R β):R β:=A.rec (fun _=>.no) f (fun _=>.no) (fun _=>.no) .no a
def A.toV{β:Type}(a:A)(f:Iv->R β):R β:=A.rec (fun _=>.no) (fun _=>.no) f (fun _=>.no) .no a
def A.toF{β:Type}(a:A)(f:Fl->R β):R β:=A.rec (fun _=>.no) (fun _=>.no) (fun _=>.no) f .no a
abbrev Ks:=List (Nat->Nat->List W->Hs->R A)
abbrev Dn:=Ks->Nat->Sg->Hs->R A
structure X where
 f:Dn
structure I where
 f:Dn
structure S where
 f:Dn
inductive G where | mk (i:I) (t:Tg) (c:Option X)
inductive Fn where | mk (np n:Nat) (body:List S) | non
def ofW(r:R W):R A:=R.rec (fun w h=>.ok (.w w) h) (fun C f h=>.ex C f h) .no r
def goA(es:List X):Dn:=List.rec (fun _ _ _ h=>.ok (.ws []) h) (fun e _ ih K n τ h=>R.rec (motive:=fun _=>R A) (fun r h=>A.rec (motive:=fun _=>R A) (fun w=>R.rec (motive:=fun _=>R A) (fun r h=>A.rec (motive:=fun _=>R A) (fun _=>.no) (fun ws=>.ok (.ws (w::ws)) h) (fun _=>.no) (fun _=>.no) .no r) (fun C fs h=>.ex C fs h) .no (ih K n τ h)) (fun _=>.no) (fun _=>.no) (fun _=>.no) .no r) (fun C fs h=>.ex C fs h) .no (e.f K n τ h)) es
def jo(ss:List S):Dn:=List.rec (fun _ _ τ h=>.ok (.fl (.nx τ)) h) (fun s _ ih K n τ h=>R.rec (motive:=fun _=>R A) (fun r h=>A.rec (motive:=fun _=>R A) (fun _=>.no) (fun _=>.no) (fun _=>.no) (fun f=>Fl.rec (motive:=fun _=>R A) (fun τ=>ih K n τ h) (fun w=>.ok (.fl (.rt w)) h) (fun τ=>.ok (.fl (.bk τ)) h) (fun τ=>.ok (.fl (.ct τ)) h) f) .no r) (fun C fs h=>.ex C fs h) .no (s.f K n τ h)) ss
def bindL(f:Tg->W->Sg->Option Sg)(ts:List Tg):List W->Sg->Option Sg:=List.rec (fun ws τ=>List.rec (some τ) (fun _ _ _=>none) ws) (fun t _ ih ws τ=>List.rec none (fun w r _=>Option.rec none (fun τ=>ih r τ) (f t w τ)) ws) ts
def bf(h:Hs)(n:Nat):Tg->W->Sg->Option Sg:=Nat.rec (fun _ _ _=>none) (fun _ ih t w τ=>Tg.casesOn t (fun i=>some (setAt τ (some w) i)) fun ts=>
 W.elim w none (fun _=>none) (fun _=>none) (fun _=>none) fun k=>Option.rec none (fun o=>O.rec (fun xs=>bindL ih ts xs τ) (fun _=>none) (fun _ _=>none) (fun _=>none) (fun _=>none) (fun _=>none) o) (h.get k)) n
def Iv.next{β:Type}(v:Iv)(i:Nat)(h:Hs)(fin:R β)(go:W->Hs->R β):R β:=
 Iv.rec (fun n=>Opt (h.get n) fun o=>o.onS fun xs=>Option.rec fin (fun w=>go w h) (nth xs i)) (fun n=>Opt (h.get n) fun o=>o.onT fun xs=>Option.rec fin (fun w=>go w h) (nth xs i)) (fun lo n=>Bool.rec fin (go (.int (lo + .ofNat i)) h) (Nat.ble (Nat.add i 1) n))
  (fun n m=>Opt (h.get n) fun o=>o.onS fun xs=>Opt (h.get m) fun o=>o.onS fun ys=>Option.rec fin (fun x=>Option.rec fin (fun y=>go (.ref h.n) (h.push (.tup [x,y]))) (nth ys i)) (nth xs i))
  (fun lo n=>Bool.rec fin (go (.int (lo - .ofNat i)) h) (Nat.ble (Nat.add i 1) n))
  (fun n=>Opt (h.get n) fun o=>o.onS fun xs=>Option.rec fin (fun x=>go (.ref h.n) (h.push (.tup [.int (.ofNat i),x]))) (nth xs i)) v
def nA(nt:Nat)(idx:List Nat)(τ:Sg):Sg:=Nat.rec (List.rec [] (fun i _ r=>cD τ i::r) idx) (fun _ r=>none::r) nt
def afZ(n:Nat)(i:Int):Nat:=Int.rec (fun k=>ifB (Nat.ble k n) k n) (fun k=>n - (k+1)) i
def Eo(K:Ks)(n:Nat)(e:Option X)(τ:Sg)(h:Hs)(k:Option Int->Hs->R A):R A:=
 Option.rec (k none h) (fun e=>(e.f K n τ h).bind fun a h=>a.toW fun w=>w.onI fun i=>k (some i) h) e
def sIx(n d:Nat)(o:Option Int):Nat:=Option.rec d (afZ n) o
def frame(n:Nat)(ws:List W):Sg:=app (List.rec [] (fun w _ r=>some w::r) ws) (Nat.rec [] (fun _ r=>none::r) (n - len ws))
def Gr(h:Hs)(f:Fl):R A:=Fl.rec (fun _=>.ok (.w .non) h) (fun w=>.ok (.w w) h) (fun _=>.no) (fun _=>.no) f
def Z6(K:Ks)(n:Nat)(h:Hs)(ws:List W)(F:Fn):R A:=Fn.rec (fun np k b=>ifB (Nat.beq (len ws) np) ((jo b K n (frame k ws) h).bind fun r h=>r.toF fun f=>Gr h f) .no) .no F
def bz(Pg:List Fn)(d:Nat):Ks:=Nat.rec [] (fun _ K=>(fun n f ws h=>Opt (nth Pg f) (Z6 K n h ws))::K) d
def dR(f:Nat)(ws:List W)(K:Ks)(n:Nat)(h:Hs):R A:=Nat.rec .no (fun n _=>List.rec .no (fun c _ _=>c n f ws h) K) n
def pZ(h:Hs)(f:Fl)(go:Sg->R A):R A:=Fl.rec go (fun w=>.ok (.fl (.rt w)) h) (fun τ=>.ok (.fl (.nx τ)) h) go f
def nZ(v:Iv)(t:Tg)(b:List S)(K:Ks)(n:Nat):Nat->Sg->Hs->R A:=Nat.rec (fun _ _ _=>.no) (fun n ih i τ h=>v.next i h (.ok (.fl (.nx τ)) h) fun w h=>Opt (bf h 9 t w τ) fun τ=>(jo b K n τ h).bind fun r h=>r.toF fun f=>pZ h f fun τ=>ih (Nat.add i 1) τ h) n
def acY(c:X)(b:List S)(K:Ks)(n:Nat):Sg->Hs->R A:=Nat.rec (fun _ _=>.no) (fun n ih τ h=>(c.f K n τ h).bind fun r h=>r.toW fun w=>w.onB (.ok (.fl (.nx τ)) h) ((jo b K n τ h).bind fun r h=>r.toF fun f=>pZ h f fun τ=>ih τ h)) n
def test(K:Ks)(m:Nat)(τ:Sg)(h:Hs)(c:Option X)(n k:Hs->R A):R A:=Option.rec (k h) (fun c=>(c.f K m τ h).bind fun r h=>r.toW fun w=>w.onB (n h) (k h)) c
def emit(h:Hs)(D:Nat)(w:W)(k:Hs->R A):R A:=(ye h (.ref D) w).bind fun _ h=>k h
def af0(v:Iv)(t:Tg)(c:Option X)(e:X)(D:Nat)(K:Ks)(n:Nat):Nat->Sg->Hs->R A:=Nat.rec (fun _ _ _=>.no) (fun n ih i τ h=>v.next i h (.ok .u h) fun w h=>Opt (bf h 9 t w τ) fun τ1=>
 test K n τ1 h c (fun h=>ih (Nat.add i 1) τ h) (fun h=>(e.f K n τ1 h).bind fun r h=>r.toW fun w=>emit h D w fun h=>ih (Nat.add i 1) τ h)) n
def inner(K:Ks)(n:Nat)(τ:Sg)(h:Hs)(e:X)(D:Nat)(m:Option G)(k:Hs->R A):R A:=
 Option.rec ((e.f K n τ h).bind fun r h=>r.toW fun w=>emit h D w k) (fun g=>G.rec (fun i t c=>(i.f K n τ h).bind fun r h=>r.toV fun v=>(af0 v t c e D K n 0 τ h).bind fun _ h=>k h) g) m
def fC(v:Iv)(t:Tg)(c:Option X)(m:Option G)(e:X)(D:Nat)(K:Ks)(n:Nat):Nat->Sg->Hs->R A:=Nat.rec (fun _ _ _=>.no) (fun n ih i τ h=>v.next i h (.ok .u h) fun w h=>Opt (bf h 9 t w τ) fun τ1=>
 test K n τ1 h c (fun h=>ih (Nat.add i 1) τ h) (fun h=>inner K n τ1 h e D m fun h=>ih (Nat.add i 1) τ h)) n
def X.var(i:Nat):X:=⟨fun _ _ τ h=>Option.rec (motive:=fun _=>R A) .no (fun w=>.ok (.w w) h) (cD τ i)⟩
def X.cst(w:W):X:=⟨fun _ _ _ h=>.ok (.w w) h⟩
def X.pr(p:Pr)(as:List X):X:=⟨fun K n τ h=>R.rec (motive:=fun _=>R A) (fun r h=>A.rec (motive:=fun _=>R A) (fun _=>.no) (fun ws=>R.rec (motive:=fun _=>R A) (fun w h=>.ok (.w w) h) (fun C f h=>.ex C f h) .no (p.f ws h)) (fun _=>.no) (fun _=>.no) .no r) (fun C fs h=>.ex C fs h) .no (goA as K n τ h)⟩
def X.and(a b:X):X:=⟨fun K n τ h=>R.rec (motive:=fun _=>R A) (fun r h=>A.rec (motive:=fun _=>R A) (fun w=>W.rec (motive:=fun _=>R A) .no (fun bb=>Bool.rec (motive:=fun _=>R A) (.ok (.w (.bl false)) h) (b.f K n τ h) bb) (fun _=>.no) (fun _=>.no) (fun _=>.no) w) (fun _=>.no) (fun _=>.no) (fun _=>.no) .no r) (fun C fs h=>.ex C fs h) .no (a.f K n τ h)⟩
def X.or(a b:X):X:=⟨fun K n τ h=>R.rec (motive:=fun _=>R A) (fun r h=>A.rec (motive:=fun _=>R A) (fun w=>W.rec (motive:=fun _=>R A) .no (fun bb=>Bool.rec (motive:=fun _=>R A) (b.f K n τ h) (.ok (.w (.bl true)) h) bb) (fun _=>.no) (fun _=>.no) (fun _=>.no) w) (fun _=>.no) (fun _=>.no) (fun _=>.no) .no r) (fun C fs h=>.ex C fs h) .no (a.f K n τ h)⟩
def X.ite(c a b:X):X:=⟨fun K n τ h=>R.rec (motive:=fun _=>R A) (fun r h=>A.rec (motive:=fun _=>R A) (fun w=>W.rec (motive:=fun _=>R A) .no (fun bb=>Bool.rec (motive:=fun _=>R A) (b.f K n τ h) (a.f K n τ h) bb) (fun _=>.no) (fun _=>.no) (fun _=>.no) w) (fun _=>.no) (fun _=>.no) (fun _=>.no) .no r) (fun C fs h=>.ex C fs h) .no (c.f K n τ h)⟩
def X.slice(a:X)(lo hi:Option X):X:=⟨fun K n τ h=>(a.f K n τ h).bind fun r h=>r.toW fun w=>Eo K n lo τ h fun l h=>Eo K n hi τ h fun u h=>h.at w fun _ o=>
 O.rec (fun xs=>ifB (ifB (Nat.beq (sIx (len xs) 0 l) 0) (Nat.beq (sIx (len xs) (len xs) u) (len xs)) false) .no (ofW (.alloc h (.tup (tak (drp xs (sIx (len xs) 0 l)) (sIx (len xs) (len xs) u - sIx (len xs) 0 l)))))) (fun xs=>ofW (.alloc h (.lst (tak (drp xs (sIx (len xs) 0 l)) (sIx (len xs) (len xs) u - sIx (len xs) 0 l))))) (fun _ _=>.no) (fun _=>.no) (fun _=>.no) (fun _=>.no) o⟩
def X.call(f:Nat)(as:List X):X:=⟨fun K n τ h=>(goA as K n τ h).bind fun a h=>a.toL fun ws=>dR f ws K n h⟩
def X.comp(nt:Nat)(idx:List Nat)(it:I)(t:Tg)(c:Option X)(m:Option G)(e:X):X:=⟨fun K n τ h=>(it.f K n τ h).bind fun r h=>r.toV fun v=>
 (fC v t c m e h.n K n 0 (nA nt idx τ) (h.push (.lst []))).nox.bind fun _ h'=>.ok (.w (.ref h.n)) h'⟩
def X.fld(C:Nat)(o:X)(f:List Nat):X:=⟨fun K n τ h=>(o.f K n τ h).bind fun r h=>r.toW fun w=>h.at w fun _ o=>o.onI fun C' fs=>ifB (Nat.beq C C') (Opt (fget fs f) fun w=>.ok (.w w) h) .no⟩
def X.meth(C:Nat)(m:List Nat)(f:Nat)(o:X)(as:List X):X:=⟨fun K n τ h=>(o.f K n τ h).bind fun r h=>r.toW fun w=>h.at w fun _ o=>o.onI fun C' fs=>
 ifB (Nat.beq C C') (Option.rec ((goA as K n τ h).bind fun a h=>a.toL fun ws=>dR f (w::ws) K n h) (fun _=>.no) (fget fs m)) .no⟩
def X.make(C f:Nat)(as:List X):X:=⟨fun K n τ h=>(goA as K n τ h).bind fun a h=>a.toL fun ws=>(dR f (.ref h.n::ws) K n (h.push (.ins C []))).bind fun r h'=>r.toW fun w=>ifB (wH w) (.ok (.w (.ref h.n)) h') .no⟩
def Cw:List Nat:=[119,111,114,100]
def X.lm(p:Pr)(a:X)(as:List X):X:=⟨fun K n τ h=>(a.f K n τ h).bind fun r h=>r.toW fun w=>h.at w fun _ o=>o.onL fun _=>(goA as K n τ h).bind fun r h=>r.toL fun ws=>ofW (lX p (w::ws) h)⟩
def I.seq(e:X):I:=⟨fun K n τ h=>(e.f K n τ h).bind fun r h=>r.toW fun w=>h.at w fun n o=>O.casesOn o (fun _=>.ok (.iv (.tup n)) h) (fun _=>.ok (.iv (.lst n)) h) (fun _ _=>.no) (fun _=>.no) (fun _=>.no) (fun _=>.no)⟩
def within(i:Int)(k:R A):R A:=ifB (ilt i 1000000000) (ifB (ilt (-1000000000) i) k .no) .no
def Ep(ws:List W)(f:W->R A):R A:=List.rec .no (fun a r _=>List.rec (f a) (fun _ _ _=>.no) r) ws
def Io(ws:List W)(f:W->W->R A):R A:=List.rec .no (fun a r _=>List.rec .no (fun b r _=>List.rec (f a b) (fun _ _ _=>.no) r) r) ws
def I.fD(as:List X):I:=⟨fun K n τ h=>(goA as K n τ h).bind fun r h=>r.toL fun ws=>Ep ws fun w=>w.onI fun j=>within j (.ok (.iv (.rng 0 j.toNat)) h)⟩
def I.YD(as:List X):I:=⟨fun K n τ h=>(goA as K n τ h).bind fun r h=>r.toL fun ws=>Io ws fun v w=>v.onI fun i=>w.onI fun j=>within i (within j (.ok (.iv (.rng i (j - i).toNat)) h))⟩
def I.zip(as:List X):I:=⟨fun K n τ h=>(goA as K n τ h).bind fun r h=>r.toL fun ws=>Io ws fun v w=>h.at v fun n o=>o.onL fun _=>h.at w fun m o=>o.onL fun _=>.ok (.iv (.zip n m)) h⟩
def I.enu(as:List X):I:=⟨fun K n τ h=>(goA as K n τ h).bind fun r h=>r.toL fun ws=>Ep ws fun v=>h.at v fun n o=>o.onL fun _=>.ok (.iv (.enu n)) h⟩
def M6(ws:List W)(f:W->W->W->R A):R A:=List.rec .no (fun a r _=>List.rec .no (fun b r _=>List.rec .no (fun c r _=>List.rec (f a b c) (fun _ _ _=>.no) r) r) r) ws
def I.acZ(as:List X):I:=⟨fun K n τ h=>(goA as K n τ h).bind fun r h=>r.toL fun ws=>M6 ws fun u v w=>u.onI fun i=>v.onI fun j=>w.onI fun k=>ifB (ieq k (-1)) (within i (within j (.ok (.iv (.dwn i (i - j).toNat)) h))) .no⟩
def S.asg(t:Tg)(e:X):S:=⟨fun K n τ h=>(e.f K n τ h).bind fun r h=>r.toW fun w=>Opt (bf h 9 t w τ) fun τ=>.ok (.fl (.nx τ)) h⟩
def S.expr(e:X):S:=⟨fun K n τ h=>(e.f K n τ h).bind fun r h=>r.toW fun _=>.ok (.fl (.nx τ)) h⟩
def S.ret(e:X):S:=⟨fun K n τ h=>(e.f K n τ h).bind fun r h=>r.toW fun w=>.ok (.fl (.rt w)) h⟩
def S.ife(c:X)(a b:List S):S:=⟨fun K n τ h=>(c.f K n τ h).bind fun r h=>r.toW fun w=>w.onB (jo b K n τ h) (jo a K n τ h)⟩
def S.for_(i:I)(t:Tg)(b:List S):S:=⟨fun K n τ h=>(i.f K n τ h).bind fun r h=>r.toV fun v=>nZ v t b K n 0 τ h⟩
def S.M7(c:X)(b:List S):S:=⟨fun K n τ h=>acY c b K n τ h⟩
def S.bk:S:=⟨fun _ _ τ h=>.ok (.fl (.bk τ)) h⟩
def S.ct:S:=⟨fun _ _ τ h=>.ok (.fl (.ct τ)) h⟩
def S.raise(C:Nat)(c:List Nat):S:=⟨fun _ _ _ h=>.ex C [(Cw,.str c)] h⟩
def S.Th(C:Nat)(o:X)(f:List Nat)(e:X):S:=⟨fun K n τ h=>(e.f K n τ h).bind fun r h=>r.toW fun w=>(o.f K n τ h).bind fun r h=>r.toW fun o=>h.at o fun n o=>o.onI fun C' fs=>ifB (Nat.beq C C') (ifB (Nat.ble (len fs) 900) (.ok (.fl (.nx τ)) (h.set n (.ins C (S_ f w fs)))) .no) .no⟩
def S.par(i j:Nat)(a b:X):S:=⟨fun K n τ h=>(goA [a,b] K n τ h).bind fun r h=>r.toL fun ws=>Io ws fun u w=>.ok (.fl (.nx (setAt (setAt τ (some u) i) (some w) j))) h⟩
def S.dput(o k v:X):S:=⟨fun K n τ h=>(v.f K n τ h).bind fun r h=>r.toW fun w=>(o.f K n τ h).bind fun r h=>r.toW fun a=>(k.f K n τ h).bind fun r h=>r.toW fun b=>h.at a fun n o=>o.onD fun kvs=>ifB (iT b) (ifB (Nat.ble (len kvs) 1000000) (.ok (.fl (.nx τ)) (h.set n (.dk (dM kvs b w)))) .no) .no⟩
inductive Q where
 | x (e:X) | a (es:List X) | i (e:I) | s (s:S) | ss (l:List S)
 | lp (v:Iv) (i:Nat) (t:Tg) (b:List S) | wh (c:X) (b:List S)
 | cl (v:Iv) (i:Nat) (t:Tg) (c:Option X) (m:Option G) (e:X) (D:Nat)
 | call (f:Nat) (ws:List W)
abbrev E:=Nat->Q->Sg->Hs->R A
def evs(Pg:List Fn)(n:Nat):E:=fun d q τ h=>Q.rec (fun e=>e.f (bz Pg d) n τ h) (fun es=>goA es (bz Pg d) n τ h) (fun e=>e.f (bz Pg d) n τ h) (fun s=>s.f (bz Pg d) n τ h) (fun l=>jo l (bz Pg d) n τ h)
 (fun v i t b=>nZ v t b (bz Pg d) n i τ h) (fun c b=>acY c b (bz Pg d) n τ h) (fun v i t c m e D=>fC v t c m e D (bz Pg d) n i τ h) (fun f ws=>dR f ws (bz Pg d) n h) q
def body(V:E)(d:Nat)(h:Hs)(ws:List W)(F:Fn):R A:=Fn.rec (fun np n b=>ifB (Nat.beq (len ws) np) ((V d (.ss b) (frame n ws) h).bind fun r h=>r.toF fun f=>Gr h f) .no) .no F
end
theorem iW{α:Type}(xs ys:List α):app xs ys=xs++ys:=by
 induction xs with
 | nil=>rfl
 | cons x xs ih=>exact congrArg (x::·) ih
theorem len_eq{α:Type}(xs:List α):len xs=xs.length:=by
 induction xs with
 | nil=>rfl
 | cons x xs ih=>exact congrArg (· + 1) ih
theorem mF{α:Type}(xs:List α)(i:Nat):nth xs i=xs[i]?:=by
 induction xs generalizing i with
 | nil=>rfl
 | cons x xs ih=>cases i with
   | zero=>rfl
   | succ i=>exact ih i
theorem M8{α:Type}(xs:List α)(i:Nat):drp xs i=xs.drop i:=by
 induction xs generalizing i with
 | nil=>cases i <;> rfl
 | cons x xs ih=>cases i with
   | zero=>rfl
   | succ i=>exact ih i
theorem M9{α:Type}(xs:List α)(i:Nat):tak xs i=xs.take i:=by
 induction xs generalizing i with
 | nil=>cases i <;> rfl
 | cons x xs ih=>cases i with
   | zero=>rfl
   | succ i=>exact congrArg (x::·) (ih i)
theorem Er{α:Type}(xs:List α)(w:α)(i:Nat):setAt xs w i=xs.set i w:=by
 induction xs generalizing i with
 | nil=>cases i <;> rfl
 | cons x xs ih=>cases i with
   | zero=>rfl
   | succ i=>exact congrArg (x::·) (ih i)
theorem M_(xs:Sg)(i:Nat):cD xs i=(xs[i]?).getD none:=by
 induction xs generalizing i with
 | nil=>cases i <;> rfl
 | cons x xs ih=>cases i with
   | zero=>rfl
   | succ i=>exact ih i
theorem aaQ(xs:List W):init xs=xs.dropLast:=by
 induction xs with
 | nil=>rfl
 | cons x xs ih=>cases xs with
   | nil=>rfl
   | cons y ys=>exact congrArg (x::·) ih
theorem last_eq(xs:List W):last xs=xs.getLast?:=by
 induction xs with
 | nil=>rfl
 | cons x xs ih=>cases xs with
   | nil=>rfl
   | cons y ys=>
     rw[List.getLast?_cons_cons,<- ih];show some (Option.rec (motive:=fun _=>W) x (fun y=>y) (last (y::ys)))=_;rw[ih,List.getLast?_cons]
theorem jB{a b:Nat}:Nat.beq a b=true ↔ a=b:=⟨Nat.eq_of_beq_eq_true,fun h=>by subst h;exact Nat.beq_refl a⟩
theorem uI{a b:Nat}:Nat.beq a b=false ↔ a ≠ b:=by
 rw[<- Bool.not_eq_true,jB]
theorem ble_eq(a b:Nat):Nat.ble a b=decide (a<=b):=by
 cases h:Nat.ble a b with
 | true=>exact(decide_eq_true (Nat.le_of_ble_eq_true h)).symm
 | false=>exact(decide_eq_false fun z=>by rw[Nat.ble_eq_true_of_le z]at h;cases h).symm
theorem cT{x y:List Nat}:codes x y=true ↔ x=y:=by
 induction x generalizing y with
 | nil=>cases y with
   | nil=>exact⟨fun _=>rfl,fun _=>rfl⟩
   | cons b r=>exact⟨fun h=>Bool.noConfusion h,fun h=>nomatch h⟩
 | cons a x ih=>cases y with
   | nil=>exact⟨fun h=>Bool.noConfusion h,fun h=>nomatch h⟩
   | cons b r=>
     show ifB (Nat.beq a b) (codes x r) false=true ↔ _
     cases e:Nat.beq a b with
     | true=>rw[jB.mp e];exact ih.trans ⟨fun h=>by rw[h],fun h=>(List.cons.inj h).2⟩
     | false=>exact⟨fun h=>Bool.noConfusion h,fun h=>absurd (List.cons.inj h).1 (uI.mp e)⟩
theorem eX(i j:Int):ieq i j=decide (i=j):=by
 cases i with
 | ofNat a=>cases j with
   | ofNat b=>
     show Nat.beq a b=_
     cases e:Nat.beq a b with
     | true=>rw[jB.mp e];exact(decide_eq_true rfl).symm
     | false=>exact(decide_eq_false fun z=>uI.mp e (Int.ofNat.inj z)).symm
   | negSucc b=>exact(decide_eq_false fun z=>nomatch z).symm
 | negSucc a=>cases j with
   | ofNat b=>exact(decide_eq_false fun z=>nomatch z).symm
   | negSucc b=>
     show Nat.beq a b=_
     cases e:Nat.beq a b with
     | true=>rw[jB.mp e];exact(decide_eq_true rfl).symm
     | false=>exact(decide_eq_false fun z=>uI.mp e (Int.negSucc.inj z)).symm
theorem cN(i j:Int):ilt i j=decide (i<j):=by
 cases i with
 | ofNat a=>cases j with
   | ofNat b=>
     show Nat.ble (a+1) b=_;rw[ble_eq]
     exact decide_eq_decide.mpr ⟨fun h=>by have:(a:Int)<b:=by omega
                                           exact this,fun h=>by have:(a:Int)<b:=h
                                                                omega⟩
   | negSucc b=>exact(decide_eq_false (by intro h;have:(a:Int)<Int.negSucc b:=h;omega)).symm
 | negSucc a=>cases j with
   | ofNat b=>exact(decide_eq_true (by show Int.negSucc a<(b:Int);omega)).symm
   | negSucc b=>
     show Nat.ble (b+1) a=_;rw[ble_eq];exact decide_eq_decide.mpr ⟨fun h=>by omega,fun h=>by omega⟩
theorem get_set(d:Nat):∀(t:Tr) (k k':Nat) (o:O),k<d->(t.set d k o).get k'=if k'=k then some o else t.get k':=by
 induction d with
 | zero=>intro t k k' o h;exact absurd h (Nat.not_lt_zero _)
 | succ d ih=>
   intro t k k' o h;have half:∀ a b:Nat,a % 2=b % 2->(a / 2=b / 2 ↔ a+1=b+1):=fun a b e=>by omega
   cases t with
   | lf=>
     cases k with
     | zero=>cases k' with
       | zero=>rfl
       | succ k'=>
         show ifB (Nat.beq (k' % 2) 0) (Tr.get .lf (k' / 2)) (Tr.get .lf (k' / 2))=_;rw[if_neg (by omega)]
         cases Nat.beq (k' % 2) 0 <;> rfl
     | succ k=>
       have hk:k / 2<d:=by omega
       show(ifB (Nat.beq (k % 2) 0) (Tr.nd none (Tr.set d .lf (k / 2) o) .lf) (Tr.nd none .lf (Tr.set d .lf (k / 2) o)):Tr).get k'=_
       cases e:Nat.beq (k % 2) 0 with
       | true=>cases k' with
         | zero=>rfl
         | succ k'=>
           show ifB (Nat.beq (k' % 2) 0) (Tr.get (Tr.set d .lf (k / 2) o) (k' / 2)) (Tr.get .lf (k' / 2))=_;have e1:=jB.mp e
           cases e':Nat.beq (k' % 2) 0 with
           | true=>
             have e2:=jB.mp e';show Tr.get (Tr.set d .lf (k / 2) o) (k' / 2)=_;rw[ih .lf _ _ _ hk]
             by_cases z:k' / 2=k / 2
             · rw[if_pos z,if_pos (by omega)]
             · rw[if_neg z,if_neg (by omega)];rfl
           | false=>
             have e2:=uI.mp e';show none=_
             rw[if_neg (by intro z;apply e2;have:k'=k:=by omega
                           rw[this];exact e1)];rfl
       | false=>cases k' with
         | zero=>rfl
         | succ k'=>
           show ifB (Nat.beq (k' % 2) 0) (Tr.get .lf (k' / 2)) (Tr.get (Tr.set d .lf (k / 2) o) (k' / 2))=_;have e1:=uI.mp e
           cases e':Nat.beq (k' % 2) 0 with
           | false=>
             have e2:=uI.mp e';show Tr.get (Tr.set d .lf (k / 2) o) (k' / 2)=_;rw[ih .lf _ _ _ hk]
             by_cases z:k' / 2=k / 2
             · rw[if_pos z,if_pos (by omega)]
             · rw[if_neg z,if_neg (by omega)];rfl
           | true=>
             have e2:=jB.mp e';show none=_
             rw[if_neg (by intro z;apply e1;have:k'=k:=by omega
                           rw[<- this];exact e2)];rfl
   | nd x l r=>
     cases k with
     | zero=>cases k' with
       | zero=>rfl
       | succ k'=>rw[if_neg (by omega)];rfl
     | succ k=>
       have hk:k / 2<d:=by omega
       show(ifB (Nat.beq (k % 2) 0) (Tr.nd x (Tr.set d l (k / 2) o) r) (Tr.nd x l (Tr.set d r (k / 2) o)):Tr).get k'=_
       cases e:Nat.beq (k % 2) 0 with
       | true=>cases k' with
         | zero=>rfl
         | succ k'=>
           show ifB (Nat.beq (k' % 2) 0) (Tr.get (Tr.set d l (k / 2) o) (k' / 2)) (Tr.get r (k' / 2))=(if k'+1=k+1 then some o else ifB (Nat.beq (k' % 2) 0) (Tr.get l (k' / 2)) (Tr.get r (k' / 2)));have e1:=jB.mp e
           cases e':Nat.beq (k' % 2) 0 with
           | true=>
             have e2:=jB.mp e';show Tr.get (Tr.set d l (k / 2) o) (k' / 2)=(if k'+1=k+1 then some o else Tr.get l (k' / 2));rw[ih l _ _ _ hk]
             by_cases z:k' / 2=k / 2
             · rw[if_pos z,if_pos (by omega)]
             · rw[if_neg z,if_neg (by omega)]
           | false=>
             have e2:=uI.mp e';show Tr.get r (k' / 2)=(if k'+1=k+1 then some o else Tr.get r (k' / 2))
             rw[if_neg (by intro z;apply e2;have:k'=k:=by omega
                           rw[this];exact e1)]
       | false=>cases k' with
         | zero=>rfl
         | succ k'=>
           show ifB (Nat.beq (k' % 2) 0) (Tr.get l (k' / 2)) (Tr.get (Tr.set d r (k / 2) o) (k' / 2))=(if k'+1=k+1 then some o else ifB (Nat.beq (k' % 2) 0) (Tr.get l (k' / 2)) (Tr.get r (k' / 2)));have e1:=uI.mp e
           cases e':Nat.beq (k' % 2) 0 with
           | false=>
             have e2:=uI.mp e';show Tr.get (Tr.set d r (k / 2) o) (k' / 2)=(if k'+1=k+1 then some o else Tr.get r (k' / 2));rw[ih r _ _ _ hk]
             by_cases z:k' / 2=k / 2
             · rw[if_pos z,if_pos (by omega)]
             · rw[if_neg z,if_neg (by omega)]
           | true=>
             have e2:=jB.mp e';show Tr.get l (k' / 2)=(if k'+1=k+1 then some o else Tr.get l (k' / 2))
             rw[if_neg (by intro z;apply e1;have:k'=k:=by omega
                           rw[<- this];exact e2)]
theorem Hs.iw(h:Hs)(o:O):(h.push o).n=h.n+1:=by cases h;rfl
theorem Hs.dh(h:Hs)(k:Nat)(o:O):(h.set k o).n=h.n:=by cases h;rfl
theorem Hs.n6(h:Hs)(o:O)(k:Nat):(h.push o).get k=if k=h.n then some o else h.get k:=by
 cases h with | mk n t=>exact get_set (n+1) t n k o (Nat.lt_succ_self n)
theorem Hs.get_set(h:Hs)(o:O)(j k:Nat):(h.set j o).get k=if k=j then some o else h.get k:=by
 cases h with | mk n t=>exact Ev.get_set (j+1) t j k o (Nat.lt_succ_self j)
end Ev
namespace Ev
open PySem L2
inductive RW (ρ:List Addr):W->V->Prop
 | non:RW ρ .non .non
 | bl (b):RW ρ (.bl b) (.bl b)
 | int (i):RW ρ (.int i) (.int i)
 | str (c):RW ρ (.str c) (.str ⟨c.toArray⟩)
 | ref {n a}:ρ[n]? =some a->RW ρ (.ref n) (.ref a)
theorem iI{ρ ρ':List Addr}(e:ρ <+:ρ'){n:Nat}{a:Addr}(h:ρ[n]? =some a):ρ'[n]? =some a:=by
 obtain⟨t,rfl⟩:=e;have hn:n<ρ.length:=(a_ h).1;rw[List.getElem?_append_left hn];exact h
theorem RW.mono{ρ ρ':List Addr}(e:ρ <+:ρ'){w:W}{v:V}(h:RW ρ w v):RW ρ' w v:=by
 cases h with
 | non=>exact .non
 | bl b=>exact .bl b
 | int i=>exact .int i
 | str c=>exact .str c
 | ref h=>exact .ref (iI e h)
abbrev RWs(ρ:List Addr):List W->List V->Prop:=Paired (RW ρ)
theorem RWs.mono{ρ ρ':List Addr}(e:ρ <+:ρ'){ws:List W}{vs:List V}(h:RWs ρ ws vs):RWs ρ' ws vs:=Paired.pA h fun _ _ r=>r.mono e
theorem RWs.get{ρ:List Addr}:∀ {ws:List W} {vs:List V} {i:Nat} {w:W},RWs ρ ws vs->ws[i]? =some w->∃ v,vs[i]? =some v/\RW ρ w v
 | _,_,_,_,.nil,e=>by simp at e
 | _,_,0,_,.cons r _,e=>by simp at e;subst e;exact⟨_,rfl,r⟩
 | _,_,i+1,w,.cons _ t,e=>by
   obtain⟨u,h1,h2⟩:=RWs.get (i:=i) (w:=w) t (by simpa using e);exact⟨u,by simpa using h1,h2⟩
theorem RWs.append{ρ:List Addr}:∀ {xs ys:List W} {us ws:List V},RWs ρ xs us->RWs ρ ys ws->RWs ρ (xs++ys) (us++ws)
 | _,_,_,_,.nil,s=>s
 | _,_,_,_,.cons r t,s=>.cons r (RWs.append t s)
theorem RWs.take{ρ:List Addr}:∀ {xs:List W} {us:List V} (n:Nat),RWs ρ xs us->RWs ρ (xs.take n) (us.take n)
 | _,_,0,_=>.nil
 | _,_,_+1,.nil=>.nil
 | _,_,n+1,.cons r t=>.cons r (RWs.take n t)
theorem RWs.drop{ρ:List Addr}:∀ {xs:List W} {us:List V} (n:Nat),RWs ρ xs us->RWs ρ (xs.drop n) (us.drop n)
 | _,_,0,r=>r
 | _,_,_+1,.nil=>.nil
 | _,_,n+1,.cons _ t=>RWs.drop n t
theorem RWs.init{ρ:List Addr}:∀ {xs:List W} {us:List V},RWs ρ xs us->RWs ρ xs.dropLast us.dropLast
 | _,_,.nil=>.nil
 | _,_,.cons r .nil=>.nil
 | _,_,.cons r (.cons r' t)=>.cons r (RWs.init (.cons r' t))
theorem RWs.length{ρ:List Addr}{ws:List W}{vs:List V}(h:RWs ρ ws vs):ws.length=vs.length:=Paired.length h
def RO(ρ:List Addr):Option W->Option V->Prop
 | none,_=>True
 | some w,some v=>RW ρ w v
 | some _,none=>False
theorem RO.mono{ρ ρ':List Addr}(e:ρ <+:ρ'):∀ {w:Option W} {v:Option V},RO ρ w v->RO ρ' w v
 | none,_,_=>trivial
 | some _,some _,h=>RW.mono e h
abbrev RS(ρ:List Addr):Sg->St->Prop:=Paired (RO ρ)
theorem RS.mono{ρ ρ':List Addr}(e:ρ <+:ρ'){τ:Sg}{σ:St}(h:RS ρ τ σ):RS ρ' τ σ:=Paired.pA h fun _ _ r=>r.mono e
theorem RS.get{ρ:List Addr}:∀ {τ:Sg} {σ:St} {i:Nat} {w:W},RS ρ τ σ->cD τ i=some w->∃ v,σ[i]? =some (some v)/\RW ρ w v
 | _,_,_,_,.nil,e=>nomatch e
 | some _::_,some v::_,0,_,.cons r _,e=>by cases e;exact⟨v,rfl,r⟩
 | some _::_,none::_,0,_,.cons r _,e=>r.elim
 | none::_,_,0,_,_,e=>nomatch e
 | _::_,_::_,i+1,w,.cons _ t,e=>by
   obtain⟨u,h1,h2⟩:=RS.get (i:=i) (w:=w) t e;exact⟨u,by simpa using h1,h2⟩
theorem RS.set{ρ:List Addr}{w:W}{v:V}(r:RW ρ w v):∀ {τ:Sg} {σ:St} (i:Nat),RS ρ τ σ->RS ρ (setAt τ (some w) i) (σ.set i (some v))
 | _,_,_,.nil=>by rw[Er];exact .nil
 | _::_,_::_,0,.cons _ t=>.cons (show RO ρ (some w) (some v) from r) t
 | _::_,_::_,i+1,.cons q t=>.cons q (RS.set r i t)
def nm(c:List Nat):Str:=⟨c.toArray⟩
theorem vC{a b:List Nat}(h:nm a=nm b):a=b:=by
 have:=congrArg (fun s:Str=>s.cps.toList) h;simpa [nm] using this
def FR(ρ:List Addr):Fs->List (Str × V)->Prop:=Paired fun p q=>q.1=nm p.1/\RW ρ p.2 q.2
theorem FR.mono{ρ ρ':List Addr}(e:ρ <+:ρ'){fs:Fs}{gs:List (Str × V)}(h:FR ρ fs gs):FR ρ' fs gs:=Paired.pA h fun _ _ r=>⟨r.1,r.2.mono e⟩
theorem FR.get{ρ:List Addr}{f:List Nat}:∀ {fs:Fs} {gs:List (Str × V)} {w:W},FR ρ fs gs->fget fs f=some w->∃ v,gs.lookup (nm f)=some v/\RW ρ w v
 | _,_,_,.nil,e=>nomatch e
 | p::fs,(x,v)::gs,w,.cons r t,e=>by
   obtain⟨e1,r1⟩:=r;have e1:x=nm p.1:=e1;have e':ifB (codes p.1 f) (some p.2) (fget fs f)=some w:=e;rw[List.lookup_cons]
   cases c:codes p.1 f with
   | true=>
     rw[c]at e';cases e';rw[e1,cT.mp c]
     exact⟨v,by simp,r1⟩
   | false=>
     rw[c]at e'
     have:(nm f==x)=false:=by
      rw[e1];refine beq_eq_false_iff_ne.mpr fun z=>?_;rw[cT.mpr (vC z).symm]at c;cases c
     rw[this];exact FR.get t e'
theorem FR.ac0{ρ:List Addr}{f:List Nat}:∀ {fs:Fs} {gs:List (Str × V)},FR ρ fs gs->fget fs f=none->gs.lookup (nm f)=none
 | _,_,.nil,e=>rfl
 | p::fs,(x,v)::gs,.cons r t,e=>by
   obtain⟨e1,r1⟩:=r;have e1:x=nm p.1:=e1;have e':ifB (codes p.1 f) (some p.2) (fget fs f)=none:=e;rw[List.lookup_cons]
   cases c:codes p.1 f with
   | true=>rw[c]at e';cases e'
   | false=>
     rw[c]at e'
     have:(nm f==x)=false:=by
      rw[e1];refine beq_eq_false_iff_ne.mpr fun z=>?_;rw[cT.mpr (vC z).symm]at c;cases c
     rw[this];exact FR.ac0 t e'
inductive KW:W->Key->Prop
 | int (i):KW (.int i) (.inl i)
 | str (c):KW (.str c) (.inr ⟨c.toArray⟩)
structure Cn where
 c:Nat->Addr
 P:Addr
 q:Str
 on:Bool
instance:CoeFun Cn (fun _=>Nat->Addr):=⟨Cn.c⟩
section
variable(cl:Cn)
def Tb(H:Hp):Prop:=cl.on=true->∃ ps,H cl.P=some (.tbl ps)/\TriplesOk ps.toList/\∀ pos cv,codeAmong pos ps.toList=some cv->∃ c',cv= .ref c'/\H c'=some (.ext fun h=>h.CodeRec (.ref c') cl.q)
def OA(ρ:List Addr)(H:Hp)(a:Addr):O->Prop
 | .tup xs=>∃ vs,RWs ρ xs vs/\H a=some (.tup vs)
 | .lst xs=>∃ vs,RWs ρ xs vs/\H a=some (.lst vs)
 | .ins C fs=>∃ dx gs,FR ρ fs gs/\H a=some (.ins (cl C) dx gs)
 | .dk kvs=>∃ gs,Paired (fun p q=>KW p.1 q.1/\RW ρ p.2 q.2) kvs gs/\H a=some (.dK gs)
 | .dt kvs=>∃ gs,Paired (fun p q=>Paired KW p.1 q.1/\RW ρ p.2 q.2) kvs gs/\H a=some (.dT gs)
 | .scr ns=>∃ o,H a=some (.frz o (.lst (ns.map V.int)))
structure Sim (ρ:List Addr)(h:Hs)(H:Hp):Prop where
 len:ρ.length=h.n
 nd:ρ.Nodup
 obj:∀ n a,ρ[n]? =some a->∃ o,h.get n=some o/\OA cl ρ H a o
 tb:Tb cl H
end
section
variable{cl:Cn}{ρ ρ':List Addr}{h:Hs}{H H':Hp}
theorem OA.som{a:Addr}{o:O}(x:OA cl ρ H a o):∃ u,H a=some u:=by
 cases o with
 | tup xs=>exact⟨_,x.choose_spec.2⟩
 | lst xs=>exact⟨_,x.choose_spec.2⟩
 | ins C fs=>obtain⟨_,_,_,e⟩:=x;exact⟨_,e⟩
 | dk kvs=>exact⟨_,x.choose_spec.2⟩
 | dt kvs=>exact⟨_,x.choose_spec.2⟩
 | scr ns=>exact⟨_,x.choose_spec⟩
theorem OA.keep{a:Addr}{o:O}(x:OA cl ρ H a o)(e:ρ <+:ρ')(k:H' a=H a):OA cl ρ' H' a o:=by
 cases o with
 | tup xs=>obtain⟨vs,r,q⟩:=x;exact⟨vs,r.mono e,k.trans q⟩
 | lst xs=>obtain⟨vs,r,q⟩:=x;exact⟨vs,r.mono e,k.trans q⟩
 | ins C fs=>obtain⟨dx,gs,r,q⟩:=x;exact⟨dx,gs,r.mono e,k.trans q⟩
 | dk kvs=>obtain⟨gs,r,q⟩:=x;exact⟨gs,Paired.pA r fun _ _ z=>⟨z.1,z.2.mono e⟩,k.trans q⟩
 | dt kvs=>obtain⟨gs,r,q⟩:=x;exact⟨gs,Paired.pA r fun _ _ z=>⟨z.1,z.2.mono e⟩,k.trans q⟩
 | scr ns=>obtain⟨o,q⟩:=x;exact⟨o,k.trans q⟩
def Pl:Option HO->Prop
 | some (.tbl _)=>False
 | some (.ext _)=>False
 | _=>True
theorem Tb.upd{p:Addr}{u:HO}(t:Tb cl H)(n:Pl (H p)):Tb cl (upd H p u):=fun on=>by
 obtain⟨ps,h1,h2,h3⟩:=t on;have ne:∀ {b:Addr} {w:HO},H b=some w->¬ Pl (some w)->b ≠ p:=fun {b w} e z q=>by rw[q]at e;rw[e]at n;exact z n
 refine⟨ps,by rw[aN (ne h1 (fun z=>z))];exact h1,h2,fun pos cv e=>?_⟩;obtain⟨c',e1,e2⟩:=h3 pos cv e;exact⟨c',e1,by rw[aN (ne e2 (fun z=>z))];exact e2⟩
theorem OA.pl{a:Addr}{o:O}(x:OA cl ρ H a o):Pl (H a):=by
 cases o with
 | tup xs=>rw[x.choose_spec.2];trivial
 | lst xs=>rw[x.choose_spec.2];trivial
 | ins C fs=>obtain⟨_,_,_,e⟩:=x;rw[e];trivial
 | dk kvs=>rw[x.choose_spec.2];trivial
 | dt kvs=>rw[x.choose_spec.2];trivial
 | scr ns=>rw[x.choose_spec];trivial
theorem Sim.som(s:Sim cl ρ h H){a:Addr}(e:a ∈ ρ):∃ u,H a=some u:=by
 obtain⟨n,hn⟩:=List.getElem?_of_mem e;obtain⟨o,_,x⟩:=s.obj n a hn;exact x.som
theorem Sim.new(s:Sim cl ρ h H){p:Addr}(e:H p=none):p ∉ ρ:=fun z=>by
 obtain⟨u,q⟩:=s.som z;rw[e]at q;cases q
theorem Sim.at(s:Sim cl ρ h H){n:Nat}{a:Addr}{o:O}(e:ρ[n]? =some a)(q:h.get n=some o):OA cl ρ H a o:=by
 obtain⟨o',q',x⟩:=s.obj n a e;rw[q]at q';cases q';exact x
theorem Sim.push(s:Sim cl ρ h H){p:Addr}{u:HO}{o:O}(e:H p=none)(x:OA cl (ρ ++ [p]) (upd H p u) p o):Sim cl (ρ ++ [p]) (h.push o) (upd H p u) where
 len:=by rw[List.length_append,Hs.iw,s.len];rfl
 nd:=List.nodup_append.mpr ⟨s.nd,by simp,fun a ha b hb z=>by
  simp only[List.mem_singleton]at hb
  exact s.new e (by rw[<- hb,<- z];exact ha)⟩
 obj:=fun n a hn=>by
  rw[Hs.n6]
  by_cases hlt:n<ρ.length
  · rw[List.getElem?_append_left hlt]at hn;obtain⟨o',q,y⟩:=s.obj n a hn;refine⟨o',by rw[if_neg (by rw[<- s.len];omega)];exact q,y.keep (List.prefix_append _ _) ?_⟩;obtain⟨w,hw⟩:=y.som;exact aN (cg hw e)
  · have hn':n=ρ.length:=by
     have:=(a_ hn).1;rw[List.length_append]at this;simp at this;omega
    subst hn';rw[List.getElem?_append_right (az _),Nat.sub_self]at hn;simp at hn;subst hn;exact⟨o,by rw[if_pos s.len],x⟩
 tb:=s.tb.upd (by rw[e];trivial)
theorem Sim.put(s:Sim cl ρ h H){n:Nat}{a:Addr}{u:HO}{o:O}(e:ρ[n]? =some a)(x:OA cl ρ (upd H a u) a o):Sim cl ρ (h.set n o) (upd H a u) where
 len:=by rw[Hs.dh,s.len]
 nd:=s.nd
 obj:=fun m b hm=>by
  rw[Hs.get_set]
  by_cases z:m=n
  · subst z;rw[e]at hm;cases hm;exact⟨o,if_pos rfl,x⟩
  · obtain⟨o',q,y⟩:=s.obj m b hm;refine⟨o',by rw[if_neg z];exact q,y.keep (List.prefix_refl _) (aN fun zz=>z ?_)⟩;subst zz;exact(List.getElem?_inj (a_ hm).1 s.nd).mp (hm.trans e.symm)
 tb:=by
  obtain⟨o',_,y⟩:=s.obj n a e;exact s.tb.upd y.pl
def Bt(cl:Cn)(ρ:List Addr)(H:Hp)(ρ':List Addr)(H':Hp):Prop:=ρ <+:ρ'/\∀ b u,H b=some u->b ∉ ρ->b ∉ ρ'/\((cl.on=true->b ≠ cl.P)->H' b=some u)/\∃ u',H' b=some u'
theorem Bt.refl:Bt cl ρ H ρ H:=⟨List.prefix_refl _,fun _ u q n=>⟨n,fun _=>q,u,q⟩⟩
theorem Bt.trans{ac1:List Addr}{H'':Hp}(x:Bt cl ρ H ρ' H')(y:Bt cl ρ' H' ac1 H''):Bt cl ρ H ac1 H'':=⟨x.1.trans y.1,fun b u q n=>by
 obtain⟨n1,q1,u1,q2⟩:=x.2 b u q n;obtain⟨n2,q3,u2,q4⟩:=y.2 b u1 q2 n1;refine⟨n2,fun c=>?_,u2,q4⟩;have e:=q1 c;rw[q2]at e;cases e
 exact q3 c⟩
theorem Bt.new{p:Addr}{u:HO}(e:H p=none):Bt cl ρ H (ρ ++ [p]) (upd H p u):=⟨List.prefix_append _ _,fun b v q n=>by
 have ne:b ≠ p:=cg q e;have q':upd H p u b=some v:=by rw[aN ne];exact q
 refine⟨fun z=>?_,fun _=>q',v,q'⟩
 rcases List.mem_append.mp z with z | z
 · exact n z
 · simp at z;exact ne z⟩
theorem Bt.put{a:Addr}{u:HO}{n:Nat}(e:ρ[n]? =some a):Bt cl ρ H ρ (upd H a u):=⟨List.prefix_refl _,fun b v q nb=>by
 have q':upd H a u b=some v:=by rw[aN fun z=>nb (by rw[z];exact List.mem_of_getElem? e)];exact q
 exact⟨nb,fun _=>q',v,q'⟩⟩
end
section
variable(cl:Cn)
def Post(ρ:List Addr)(H:Hp)(E:XK){α:Type}(r:R α)(P:α->Hs->List Addr->Hp->Prop):Prop:=match r with
 | .ok a h=>∀ ρ' H',Bt cl ρ H ρ' H'->Sim cl ρ' h H'->P a h ρ' H'
 | .ex C fs h=>∀ ρ' H' dx gs,Bt cl ρ H ρ' H'->Sim cl ρ' h H'->FR ρ' fs gs->dx ∉ ρ'->H' dx=some (.xd gs)->E (.ref (cl C)) (some dx) H'
 | .no=>False
end
section
variable{cl:Cn}{ρ ρ':List Addr}{h:Hs}{H H':Hp}{E:XK}{α β:Type}
theorem Post.mono{r:R α}{P P':α->Hs->List Addr->Hp->Prop}(x:Post cl ρ H E r P)(f:∀ a h ρ' H',Bt cl ρ H ρ' H'->Sim cl ρ' h H'->P a h ρ' H'->P' a h ρ' H'):Post cl ρ H E r P':=by
 cases r with
 | ok a h=>exact fun ρ' H' b s=>f a h ρ' H' b s (x ρ' H' b s)
 | ex C fs h=>exact x
 | no=>exact x
theorem Post.later{r:R α}{P:α->Hs->List Addr->Hp->Prop}(x:Post cl ρ H E r P)(b:Bt cl ρ H ρ' H'):Post cl ρ' H' E r P:=by
 cases r with
 | ok a h=>exact fun ρ2 H2 b2 s=>x ρ2 H2 (b.trans b2) s
 | ex C fs h=>exact fun ρ2 H2 dx gs b2 s f n q=>x ρ2 H2 dx gs (b.trans b2) s f n q
 | no=>exact x
theorem Post.bind{r:R α}{f:α->Hs->R β}{P:β->Hs->List Addr->Hp->Prop}(x:Post cl ρ H E (r.bind f) P):Post cl ρ H E r fun a h1 ρ1 H1=>Post cl ρ1 H1 E (f a h1) P:=by
 cases r with
 | ok a h1=>exact fun ρ1 H1 b s1=>Post.later (ρ:=ρ) (H:=H) x b
 | ex C fs h1=>exact x
 | no=>exact x
end
section
variable(Pg:List Fn)(cl:Cn)(E:XK)(d:Nat)
def VP(Q:VK):A->Hs->List Addr->Hp->Prop:=fun r _ ρ H=>∃ w,r= .w w/\∀ v,RW ρ w v->Q v H
def LP(Q:List V->Hp->Prop):A->Hs->List Addr->Hp->Prop:=fun r _ ρ H=>∃ ws,r= .ws ws/\∀ vs,RWs ρ ws vs->Q vs H
def Ag(σ0:St)(τ:Sg)(σ:St):Prop:=∀ i,cD τ i=none->σ[i]? =σ0[i]?
def FP(σ0:St)(D:Ends)(ρ:List Addr)(H:Hp):Fl->Prop
 | .nx τ=>∀ σ,RS ρ τ σ->Ag σ0 τ σ->D.nx σ H
 | .bk τ=>∀ σ,RS ρ τ σ->Ag σ0 τ σ->D.bk σ H
 | .ct τ=>∀ σ,RS ρ τ σ->Ag σ0 τ σ->D.ct σ H
 | .rt w=>∀ v,RW ρ w v->D.rt v H
def SPo(σ0:St)(D:Ends):A->Hs->List Addr->Hp->Prop:=fun r _ ρ H=>∃ f,r= .fl f/\FP σ0 D ρ H f
def ev(q:Q)(σ:St)(H:Hp)(P:A->Hs->List Addr->Hp->Prop):Prop:=∃ ρ τ h n,Sim cl ρ h H/\RS ρ τ σ/\Post cl ρ H E (evs Pg n d q τ h) P
def tE(a:X):TE:=fun σ H Q=>ev Pg cl E d (.x a) σ H (VP Q)
def tT(a:X):TT:=fun σ H Q=>ev Pg cl E d (.x a) σ H (VP fun v H'=>∃ b,v= .bl b/\Q b H')
def tA(as:List X):TA:=fun σ H Q=>ev Pg cl E d (.a as) σ H (LP Q)
def evS(σ0:St)(q:Q)(σ:St)(H:Hp)(P:A->Hs->List Addr->Hp->Prop):Prop:=∃ ρ τ h n,Sim cl ρ h H/\RS ρ τ σ/\Ag σ0 τ σ/\Post cl ρ H E (evs Pg n d q τ h) P
def tS(σ0:St)(s:S):TS:=fun D σ H=>evS Pg cl E d σ0 (.s s) σ H (SPo σ0 D)
def tSs(σ0:St)(s:List S):TS:=fun D σ H=>evS Pg cl E d σ0 (.ss s) σ H (SPo σ0 D)
end
section
variable{Pg:List Fn}{cl:Cn}{E:XK}{d:Nat}{X:Cx}{σ:St}{H:Hp}{P:A->Hs->List Addr->Hp->Prop}
theorem PE.of{e:Expr}{t t':TE}(h:PE X e t)(f:∀ σ H Q,t' σ H Q->t σ H Q):PE X e t':=fun pins s σ H Q I q=>h pins s σ H Q I (f σ H Q q)
theorem PT.of{e:Expr}{t t':TT}(h:PT X e t)(f:∀ σ H Q,t' σ H Q->t σ H Q):PT X e t':=fun pins s σ H Q I q=>h pins s σ H Q I (f σ H Q q)
theorem PW.of{e:Expr}{t t':TT}(h:PW X e t)(f:∀ σ H Q,t' σ H Q->t σ H Q):PW X e t':=fun wh pins s σ H Q I q=>h wh pins s σ H Q I (f σ H Q q)
theorem PA.of{es:List Expr}{t t':TA}(h:PA X es t)(f:∀ σ H Q,t' σ H Q->t σ H Q):PA X es t':=fun pos pins s σ H Q I q=>h pos pins s σ H Q I (f σ H Q q)
theorem PS.of{e:Stmt}{t t':TS}(h:PS X e t)(f:∀ D σ H,t' D σ H->t D σ H):PS X e t':=fun pins s σ H D I q=>h pins s σ H D I (f D σ H q)
theorem PSs.of{e:List Stmt}{t t':TS}(h:PSs X e t)(f:∀ D σ H,t' D σ H->t D σ H):PSs X e t':=fun pins s σ H D I q=>h pins s σ H D I (f D σ H q)
theorem ev.step{q:Q}(x:ev Pg cl E d q σ H P):∃ ρ τ h n,Sim cl ρ h H/\RS ρ τ σ/\Post cl ρ H E (evs Pg n d q τ h) P:=x
theorem evS.step{q:Q}{σ0:St}(x:evS Pg cl E d σ0 q σ H P):∃ ρ τ h n,Sim cl ρ h H/\RS ρ τ σ/\Ag σ0 τ σ/\Post cl ρ H E (evs Pg n d q τ h) P:=x
theorem ev.then{q:Q}{ρ:List Addr}{τ:Sg}{h:Hs}{n:Nat}{f:A->Hs->R A}{P P':A->Hs->List Addr->Hp->Prop}(s:Sim cl ρ h H)(r:RS ρ τ σ)(p:Post cl ρ H E ((evs Pg n d q τ h).bind f) P)
 (g:∀ a h1 ρ1 H1,Bt cl ρ H ρ1 H1->Sim cl ρ1 h1 H1->Post cl ρ1 H1 E (f a h1) P->P' a h1 ρ1 H1):ev Pg cl E d q σ H P':=⟨ρ,τ,h,n,s,r,p.bind.mono g⟩
theorem evS.then{q:Q}{σ0:St}{ρ:List Addr}{τ:Sg}{h:Hs}{n:Nat}{f:A->Hs->R A}{P P':A->Hs->List Addr->Hp->Prop}(s:Sim cl ρ h H)(r:RS ρ τ σ)(ag:Ag σ0 τ σ)(p:Post cl ρ H E ((evs Pg n d q τ h).bind f) P)
 (g:∀ a h1 ρ1 H1,Bt cl ρ H ρ1 H1->Sim cl ρ1 h1 H1->Post cl ρ1 H1 E (f a h1) P->P' a h1 ρ1 H1):evS Pg cl E d σ0 q σ H P':=⟨ρ,τ,h,n,s,r,ag,p.bind.mono g⟩
theorem bK{ρ:List Addr}{H:Hp}{a:A}{f:W->R A}(p:Post cl ρ H E (a.toW f) P):∃ w,a= .w w/\Post cl ρ H E (f w) P:=by
 cases a with
 | w w=>exact⟨w,rfl,p⟩
 | _=>exact p.elim
theorem mG{ρ:List Addr}{H:Hp}{a:A}{f:List W->R A}(p:Post cl ρ H E (a.toL f) P):∃ w,a= .ws w/\Post cl ρ H E (f w) P:=by
 cases a with
 | ws w=>exact⟨w,rfl,p⟩
 | _=>exact p.elim
theorem Nb{ρ:List Addr}{H:Hp}{a:A}{f:Iv->R A}(p:Post cl ρ H E (a.toV f) P):∃ w,a= .iv w/\Post cl ρ H E (f w) P:=by
 cases a with
 | iv w=>exact⟨w,rfl,p⟩
 | _=>exact p.elim
theorem Gs{ρ:List Addr}{H:Hp}{a:A}{f:Fl->R A}(p:Post cl ρ H E (a.toF f) P):∃ w,a= .fl w/\Post cl ρ H E (f w) P:=by
 cases a with
 | fl w=>exact⟨w,rfl,p⟩
 | _=>exact p.elim
theorem jU{ρ:List Addr}{H:Hp}{α β:Type}{o:Option α}{f:α->R β}{P:β->Hs->List Addr->Hp->Prop}(p:Post cl ρ H E (Opt o f) P):∃ w,o=some w/\Post cl ρ H E (f w) P:=by
 cases o with
 | some w=>exact⟨w,rfl,p⟩
 | none=>exact p.elim
theorem qU{ρ:List Addr}{H:Hp}{β:Type}{w:W}{f:Int->R β}{P:β->Hs->List Addr->Hp->Prop}(p:Post cl ρ H E (w.onI f) P):∃ i,w= .int i/\Post cl ρ H E (f i) P:=by
 cases w with
 | int w=>exact⟨w,rfl,p⟩
 | _=>exact p.elim
theorem V9{ρ:List Addr}{H:Hp}{β:Type}{w:W}{f:Nat->R β}{P:β->Hs->List Addr->Hp->Prop}(p:Post cl ρ H E (w.onR f) P):∃ i,w= .ref i/\Post cl ρ H E (f i) P:=by
 cases w with
 | ref w=>exact⟨w,rfl,p⟩
 | _=>exact p.elim
theorem yg{ρ:List Addr}{H:Hp}{β:Type}{w:W}{f t:R β}{P:β->Hs->List Addr->Hp->Prop}(p:Post cl ρ H E (w.onB f t) P):(w= .bl true/\Post cl ρ H E t P)\/(w= .bl false/\Post cl ρ H E f P):=by
 cases w with
 | bl b=>cases b with
   | true=>exact .inl ⟨rfl,p⟩
   | false=>exact .inr ⟨rfl,p⟩
 | _=>exact p.elim
theorem gK{ρ:List Addr}{H:Hp}{β:Type}{b:Bool}{t:R β}{P:β->Hs->List Addr->Hp->Prop}(p:Post cl ρ H E (ifB b t .no) P):b=true/\Post cl ρ H E t P:=by
 cases b with
 | true=>exact⟨rfl,p⟩
 | false=>exact p.elim
theorem at_of{ρ:List Addr}{H:Hp}{h:Hs}{β:Type}{w:W}{f:Nat->O->R β}{P:β->Hs->List Addr->Hp->Prop}(s:Sim cl ρ h H){v:V}(r:RW ρ w v)(p:Post cl ρ H E (h.at w f) P):
 ∃ n o a,w= .ref n/\v= .ref a/\ρ[n]? =some a/\h.get n=some o/\OA cl ρ H a o/\Post cl ρ H E (f n o) P:=by
 obtain⟨n,rfl,p⟩:=V9 p;obtain⟨o,e,p⟩:=jU p
 cases r with
 | ref q=>exact⟨n,o,_,rfl,rfl,q,e,s.at q e,p⟩
theorem Gu{ρ:List Addr}{H:Hp}{β:Type}{o:O}{f:List W->R β}{P:β->Hs->List Addr->Hp->Prop}(p:Post cl ρ H E (o.onL f) P):∃ xs,o= .lst xs/\Post cl ρ H E (f xs) P:=by
 cases o with
 | lst xs=>exact⟨xs,rfl,p⟩
 | _=>exact p.elim
theorem ac2{ρ:List Addr}{H:Hp}{β:Type}{o:O}{f:List W->R β}{P:β->Hs->List Addr->Hp->Prop}(p:Post cl ρ H E (o.onT f) P):∃ xs,o= .tup xs/\Post cl ρ H E (f xs) P:=by
 cases o with
 | tup xs=>exact⟨xs,rfl,p⟩
 | _=>exact p.elim
theorem Ip{ρ:List Addr}{H:Hp}{β:Type}{o:O}{f:Nat->Fs->R β}{P:β->Hs->List Addr->Hp->Prop}(p:Post cl ρ H E (o.onI f) P):∃ C fs,o= .ins C fs/\Post cl ρ H E (f C fs) P:=by
 cases o with
 | ins C fs=>exact⟨C,fs,rfl,p⟩
 | _=>exact p.elim
theorem Post.now{ρ:List Addr}{H:Hp}{h:Hs}{α:Type}{a:α}{P:α->Hs->List Addr->Hp->Prop}(s:Sim cl ρ h H)(p:Post cl ρ H E (.ok a h) P):P a h ρ H:=p ρ H Bt.refl s
theorem Post.gF{ρ:List Addr}{H:Hp}{h:Hs}{w:W}{v:V}{Q:VK}(s:Sim cl ρ h H)(p:Post cl ρ H E (.ok (.w w) h) (VP Q))(r:RW ρ w v):Q v H:=by
 obtain⟨w',e,q⟩:=p.now s;cases e;exact q v r
theorem Post.new{ρ:List Addr}{H:Hp}{h:Hs}{o:O}{u:HO}{p:Addr}{Q:VK}(s:Sim cl ρ h H)(x:Post cl ρ H E (ofW (.alloc h o)) (VP Q))(e:H p=none)(z:OA cl (ρ ++ [p]) (upd H p u) p o):Q (.ref p) (upd H p u):=by
 obtain⟨w',e',q⟩:=x (ρ ++ [p]) (upd H p u) (Bt.new e) (s.push e z);cases e';exact q _ (.ref (by rw[<- s.len,List.getElem?_append_right (az _),Nat.sub_self];rfl))
theorem Post.newL{ρ:List Addr}{H:Hp}{h:Hs}{xs:List W}{vs:List V}{p:Addr}{Q:VK}(s:Sim cl ρ h H)(x:Post cl ρ H E (ofW (.alloc h (.lst xs))) (VP Q))(e:H p=none)(r:RWs ρ xs vs):Q (.ref p) (upd H p (.lst vs)):=
 x.new s e ⟨vs,r.mono (List.prefix_append _ _),aG⟩
theorem Post.ac3{ρ:List Addr}{H:Hp}{h:Hs}{xs:List W}{vs:List V}{p:Addr}{Q:VK}(s:Sim cl ρ h H)(x:Post cl ρ H E (ofW (.alloc h (.tup xs))) (VP Q))(e:H p=none)(r:RWs ρ xs vs):Q (.ref p) (upd H p (.tup vs)):=
 x.new s e ⟨vs,r.mono (List.prefix_append _ _),aG⟩
theorem Post.putL{ρ:List Addr}{H:Hp}{h:Hs}{xs:List W}{vs:List V}{n:Nat}{a:Addr}{w:W}{v:V}{Q:VK}(s:Sim cl ρ h H)(x:Post cl ρ H E (ofW (.ok w (h.set n (.lst xs)))) (VP Q))(e:ρ[n]? =some a)(r:RWs ρ xs vs)(rw:RW ρ w v):Q v (upd H a (.lst vs)):=by
 obtain⟨w',e',q⟩:=x ρ (upd H a (.lst vs)) (Bt.put e) (s.put e ⟨vs,r,aG⟩);cases e';exact q _ rw
theorem ac4{i:Nat}{x:Str}{pos:Pos}(hN:X.N[i]? =some x:=by rfl)(hv:Vis X.env.scope x:=by first | exact Or.inl rfl | exact Or.inr (Or.inl rfl) | exact Or.inr (Or.inr rfl))(hd:(x==("__debug__":Str))=false:=by decide)
 (hcd:(x==("__classdict__":Str))=false:=by decide):PE X (.Name x pos) (tE Pg cl E d (.var i)):=PE.of (Ve hN hv hd hcd) fun σ H Q x=>by
 obtain⟨ρ,τ,h,n,s,r,p⟩:=x.step;obtain⟨w,e,p⟩:=jU (show Post cl ρ H E (Opt (cD τ i) fun w=>.ok (.w w) h) (VP Q) from p);obtain⟨v,ev,rv⟩:=r.get e;exact⟨v,ev,p.gF s rv⟩
theorem yh{e:Expr}{w:W}{v:V}(h:PE X e (tC v))(r:RW [] w v):PE X e (tE Pg cl E d (.cst w)):=PE.of h fun σ H Q x=>by
 obtain⟨ρ,τ,h,n,s,_,p⟩:=x.step;exact Post.gF s (show Post cl ρ H E (.ok (.w w) h) (VP Q) from p) (r.mono (List.nil_prefix))
theorem aK{i:Int}{j pos}:PE X (.Constant (.int i) j pos) (tE Pg cl E d (.cst (.int i))):=yh dz (.int i)
theorem Gv{b j pos}:PE X (.Constant (.bool b) j pos) (tE Pg cl E d (.cst (.bl b))):=yh aev (.bl b)
theorem Nf{j pos}:PE X (.Constant .none j pos) (tE Pg cl E d (.cst .non)):=yh abS .non
theorem jV(c:List Nat){x:Str}{j pos}(e:x= ⟨c.toArray⟩:=by decide +kernel):PE X (.Constant (.str x) j pos) (tE Pg cl E d (.cst (.str c))):=by
 subst e;exact yh vm (.str c)
theorem ak:PA X [] (tA Pg cl E d []):=PA.of bG fun σ H Q x=>by
 obtain⟨ρ,τ,h,n,s,_,p⟩:=x.step;obtain⟨ws,e,q⟩:=Post.now s (show Post cl ρ H E (.ok (.ws []) h) (LP Q) from p);cases e;exact q [] .nil
theorem gP{e:Expr}{es:List Expr}{a:Ev.X}{as:List Ev.X}(ha:PE X e (tE Pg cl E d a))(hr:PA X es (tA Pg cl E d as))(hs:starEach (e::es) X.env=(false,eval e X.env)::starEach es X.env:=by rfl):PA X (e::es) (tA Pg cl E d (a::as)):=
 PA.of (aU ha hr hs) fun σ H Q x=>by
 obtain⟨ρ,τ,h,n,s,r,p⟩:=x.step;refine ev.then s r (show Post cl ρ H E ((evs Pg n d (.x a) τ h).bind fun r h=>r.toW fun w=>(evs Pg n d (.a as) τ h).bind fun r h=>r.toL fun ws=>.ok (.ws (w::ws)) h) (LP Q) from p) fun a1 h1 ρ1 H1 b1 s1 p1=>?_;obtain⟨w,rfl,p1⟩:=bK p1;refine⟨w,rfl,fun v rv=>?_⟩;refine ev.then s1 (r.mono b1.1) p1 fun a2 h2 ρ2 H2 b2 s2 p2=>?_;obtain⟨ws,rfl,p2⟩:=mG p2;refine⟨ws,rfl,fun vs rs=>?_⟩;obtain⟨ws',e,q⟩:=p2.now s2;cases e;exact q _ (.cons (rv.mono b2.1) rs)
def Op2(cl:Cn)(p:Pr)(r:R2):Prop:=∀(E:XK) (ρ:List Addr) (h:Hs) (H:Hp) (w1 w2:W) (v1 v2:V) (Q:VK),Sim cl ρ h H->RW ρ w1 v1->RW ρ w2 v2->Post cl ρ H E (ofW (lX p [w1,w2] h)) (VP Q)->r v1 v2 H Q
def Op1(cl:Cn)(p:Pr)(r:V->Hp->VK->Prop):Prop:=∀(E:XK) (ρ:List Addr) (h:Hs) (H:Hp) (w1:W) (v1:V) (Q:VK),Sim cl ρ h H->RW ρ w1 v1->Post cl ρ H E (ofW (lX p [w1] h)) (VP Q)->r v1 H Q
theorem t6{p:Pr}{r:R2}(o:Op2 cl p r){a b:Ev.X}{Q:VK}(x:tE Pg cl E d (.pr p [a,b]) σ H Q):tOp r (tE Pg cl E d a) (tE Pg cl E d b) σ H Q:=by
 obtain⟨ρ,τ,h,n,s,rs,q⟩:=x.step;have q:Post cl ρ H E ((evs Pg n d (.a [a,b]) τ h).bind fun a h=>a.toL fun ws=>ofW (lX p ws h)) (VP Q):=q;have q1:=q.bind;refine ev.then s rs (show Post cl ρ H E ((evs Pg n d (.x a) τ h).bind fun r h=>r.toW fun w=>(evs Pg n d (.a [b]) τ h).bind fun r h=>r.toL fun ws=>.ok (.ws (w::ws)) h) _ from q1) fun a1 h1 ρ1 H1 b1 s1 p1=>?_;obtain⟨w1,rfl,pz⟩:=bK p1;clear p1;refine⟨w1,rfl,fun v1 rv1=>?_⟩;have p1':=pz.bind;refine ev.then s1 (rs.mono b1.1) (show Post cl ρ1 H1 E ((evs Pg n d (.x b) τ h1).bind fun r h=>r.toW fun w=>(evs Pg n d (.a []) τ h).bind fun r h=>r.toL fun ws=>.ok (.ws (w::ws)) h) _ from p1') fun a2 h2 ρ2 H2 b2 s2 p2=>?_;obtain⟨w2,rfl,pz⟩:=bK p2;clear p2;refine⟨w2,rfl,fun v2 rv2=>?_⟩;have p3:=Post.now s2 (show Post cl ρ2 H2 E (.ok (A.ws [w2]) h2) _ from pz);have p4:=Post.now s2 (show Post cl ρ2 H2 E (.ok (A.ws [w1,w2]) h2) _ from p3);exact o E ρ2 h2 H2 w1 w2 v1 v2 Q s2 (rv1.mono b2.1) rv2 p4
theorem pN{p:Pr}{r:V->Hp->VK->Prop}(o:Op1 cl p r){a:Ev.X}{Q:VK}(x:tE Pg cl E d (.pr p [a]) σ H Q):tUn r (tE Pg cl E d a) σ H Q:=by
 obtain⟨ρ,τ,h,n,s,rs,q⟩:=x.step;have q:Post cl ρ H E ((evs Pg n d (.a [a]) τ h).bind fun a h=>a.toL fun ws=>ofW (lX p ws h)) (VP Q):=q;have q1:=q.bind;refine ev.then s rs (show Post cl ρ H E ((evs Pg n d (.x a) τ h).bind fun r h=>r.toW fun w=>(evs Pg n d (.a []) τ h).bind fun r h=>r.toL fun ws=>.ok (.ws (w::ws)) h) _ from q1) fun a1 h1 ρ1 H1 b1 s1 p1=>?_;obtain⟨w1,rfl,pz⟩:=bK p1;clear p1;refine⟨w1,rfl,fun v1 rv1=>?_⟩;have p3:=Post.now s1 (show Post cl ρ1 H1 E (.ok (A.ws [w1]) h1) _ from pz);exact o E ρ1 h1 H1 w1 v1 Q s1 rv1 p3
def OpN(cl:Cn)(p:Pr)(r:List V->Hp->VK->Prop):Prop:=∀(E:XK) (ρ:List Addr) (h:Hs) (H:Hp) (ws:List W) (vs:List V) (Q:VK),Sim cl ρ h H->RWs ρ ws vs->Post cl ρ H E (ofW (lX p ws h)) (VP Q)->r vs H Q
theorem Ir{p:Pr}{r:List V->Hp->VK->Prop}(o:OpN cl p r){as:List Ev.X}{Q:VK}(x:tE Pg cl E d (.pr p as) σ H Q):tCB r (tA Pg cl E d as) σ H Q:=by
 obtain⟨ρ,τ,h,n,s,rs,q⟩:=x.step;refine ev.then s rs (show Post cl ρ H E ((evs Pg n d (.a as) τ h).bind fun a h=>a.toL fun ws=>ofW (lX p ws h)) (VP Q) from q) fun a1 h1 ρ1 H1 b1 s1 p1=>?_;obtain⟨ws,rfl,p1⟩:=mG p1;exact⟨ws,rfl,fun vs rv=>o E ρ1 h1 H1 ws vs Q s1 rv p1⟩
end
section
variable{cl:Cn}{E:XK}{ρ:List Addr}{H:Hp}{h:Hs}{P:A->Hs->List Addr->Hp->Prop}
theorem oI{w:W}{f:Int->R W}(p:Post cl ρ H E (ofW (w.onI f)) P):∃ i,w= .int i/\Post cl ρ H E (ofW (f i)) P:=by
 cases w with
 | int w=>exact⟨w,rfl,p⟩
 | _=>exact p.elim
theorem oB{w:W}{f t:R W}(p:Post cl ρ H E (ofW (w.onB f t)) P):∃ b,w= .bl b/\Post cl ρ H E (ofW (ifB b t f)) P:=by
 cases w with
 | bl b=>exact⟨b,rfl,p⟩
 | _=>exact p.elim
theorem oIf{b:Bool}{t:R W}(p:Post cl ρ H E (ofW (ifB b t .no)) P):b=true/\Post cl ρ H E (ofW t) P:=by
 cases b with
 | true=>exact⟨rfl,p⟩
 | false=>exact p.elim
theorem pD{α:Type}{o:Option α}{f:α->R W}(p:Post cl ρ H E (ofW (Opt o f)) P):∃ w,o=some w/\Post cl ρ H E (ofW (f w)) P:=by
 cases o with
 | some w=>exact⟨w,rfl,p⟩
 | none=>exact p.elim
theorem oAt{w:W}{f:Nat->O->R W}(s:Sim cl ρ h H){v:V}(r:RW ρ w v)(p:Post cl ρ H E (ofW (h.at w f)) P):
 ∃ n o a,w= .ref n/\v= .ref a/\ρ[n]? =some a/\h.get n=some o/\OA cl ρ H a o/\Post cl ρ H E (ofW (f n o)) P:=by
 cases w with
 | ref n=>
   obtain⟨o,e,p⟩:=pD (show Post cl ρ H E (ofW (Opt (h.get n) (f n))) P from p)
   cases r with
   | ref q=>exact⟨n,o,_,rfl,rfl,q,e,s.at q e,p⟩
 | _=>exact p.elim
theorem oL{o:O}{f:List W->R W}(p:Post cl ρ H E (ofW (o.onL f)) P):∃ xs,o= .lst xs/\Post cl ρ H E (ofW (f xs)) P:=by
 cases o with
 | lst xs=>exact⟨xs,rfl,p⟩
 | _=>exact p.elim
theorem oIt{o:O}{f:List W->R W}(p:Post cl ρ H E (ofW (o.items f)) P):∃ xs,(o= .lst xs\/o= .tup xs)/\Post cl ρ H E (ofW (f xs)) P:=by
 cases o with
 | lst xs=>exact⟨xs,.inl rfl,p⟩
 | tup xs=>exact⟨xs,.inr rfl,p⟩
 | _=>exact p.elim
theorem Gw{xs:List W}{k:R W}(p:Post cl ρ H E (ofW (size xs k)) P):xs.length<=16777215/\Post cl ρ H E (ofW k) P:=by
 obtain⟨e,p⟩:=oIf p;rw[ble_eq,len_eq]at e;exact⟨of_decide_eq_true e,p⟩
theorem oO:sizeLine=16777216:=sizeLine_eq
theorem OA.sq{K:aq}{a:Addr}{o:O}{xs:List W}(e:o= .lst xs\/o= .tup xs)(x:OA cl ρ H a o):∃ vs,RWs ρ xs vs/\(SqL K H a vs\/SqT K H a vs):=by
 rcases e with rfl | rfl
 · obtain⟨vs,r,q⟩:=x;exact⟨vs,r,.inl (SqL.of q)⟩
 · obtain⟨vs,r,q⟩:=x;exact⟨vs,r,.inr (SqT.of q)⟩
theorem Post.yes{b c:Bool}{Q:VK}(s:Sim cl ρ h H)(p:Post cl ρ H E (ofW (.yes b h)) (VP Q))(e:b=c):Q (.bl c) H:=by subst e;exact Post.gF s p (.bl b)
end
section
variable{cl:Cn}
theorem yj(i j:Int):rY i j=i+j:=by cases i <;> cases j <;> rfl
theorem Q0(i j:Int):Tc i j=i - j:=by
 cases i with
 | ofNat a=>
   cases j with
   | ofNat b=>
     show(Bool.rec (Int.negSucc (b - a - 1)) (Int.ofNat (a - b)) (Nat.ble b a):Int)=(a:Int) - (b:Int)
     cases z:Nat.ble b a with
     | true=>
       have:=Nat.le_of_ble_eq_true z;show((a - b:Nat):Int)=_
       omega
     | false=>
       have:¬ b<=a:=fun q=>by rw[Nat.ble_eq_true_of_le q]at z;cases z
       show Int.negSucc (b - a - 1)=_;rw[Int.negSucc_eq]
       omega
   | negSucc b=>rfl
 | negSucc a=>
   cases j with
   | ofNat b=>
     show Int.negSucc (a+b)=Int.negSucc a - (b:Int)
     rw[Int.negSucc_eq,Int.negSucc_eq];omega
   | negSucc b=>rfl
theorem fmod_eq(i j:Int):fmod i j=i % j:=by cases i <;> cases j <;> rfl
theorem je:Op2 cl .sub (rI0 fun i j=>.int (i - j)):=fun E ρ h H w1 w2 v1 v2 Q s r1 r2 p=>by
 obtain⟨i,rfl,p⟩:=oI (show Post cl ρ H E (ofW (w1.onI fun i=>w2.onI fun j=>acP h i j)) (VP Q) from p);obtain⟨j,rfl,p⟩:=oI p;have p:Post cl ρ H E (ofW (.ok (.int (Tc i j)) h)) (VP Q):=p;rw[Q0]at p;cases r1;cases r2;exact⟨i,j,rfl,rfl,Post.gF s p (.int _)⟩
theorem Ng{i:Int}(h:Sml i=true):L2.Sml i:=by
 unfold L2.Sml
 cases i with
 | ofNat a=>
   have:Nat.ble (a+1) (2 ^ 4000)=true:=h;rw[ble_eq]at this;have:=of_decide_eq_true this;show a<2 ^ 4000
   omega
 | negSucc a=>
   have:Nat.ble (a+2) (2 ^ 4000)=true:=h;rw[ble_eq]at this;have:=of_decide_eq_true this;show a+1<2 ^ 4000;omega
theorem iJ:Op2 cl .mod (rI (fun _ j=>0<j) fun i j=>.int (i % j)):=fun E ρ h H w1 w2 v1 v2 Q s r1 r2 p=>by
 obtain⟨i,rfl,p⟩:=oI (show Post cl ρ H E (ofW (w1.onI fun i=>w2.onI fun j=>acS h i j)) (VP Q) from p);obtain⟨j,rfl,p⟩:=oI p;obtain⟨c,p⟩:=oIf p;rw[cN]at c;rw[fmod_eq]at p;cases r1;cases r2;exact⟨i,j,rfl,rfl,of_decide_eq_true c,Post.gF s p (.int _)⟩
theorem Nh:Op2 cl .fdiv (rI (fun _ j=>ZV j) fun i j=>.int (i.fdiv j)):=fun E ρ h H w1 w2 v1 v2 Q s r1 r2 p=>by
 obtain⟨i,rfl,p⟩:=oI (show Post cl ρ H E (ofW (w1.onI fun i=>w2.onI fun j=>Z3 h i j)) (VP Q) from p);obtain⟨j,rfl,p⟩:=oI p;obtain⟨c,p⟩:=oIf p;obtain⟨c2,p⟩:=oIf p;rw[cN]at c;have c:=of_decide_eq_true c;cases r1;cases r2;exact⟨i,j,rfl,rfl,⟨by omega,Ng c2⟩,Post.gF s p (.int _)⟩
theorem Ti:Op1 cl .neg (rU fun i=>.int (-i)):=fun E ρ h H w1 v1 Q s r1 p=>by
 obtain⟨i,rfl,p⟩:=oI (show Post cl ρ H E (ofW (w1.onI fun i=>.ok (.int (-i)) h)) (VP Q) from p);cases r1;exact⟨i,rfl,Post.gF s p (.int _)⟩
theorem Z7{p:Pr}{f g:Int->Int->Bool}(hp:∀ h w1 w2,lX p [w1,w2] h=w1.onI fun i=>w2.onI fun j=>.yes (f i j) h)(e:∀ i j,f i j=g i j):Op2 cl p (rI0 fun i j=>.bl (g i j)):=fun E ρ h H w1 w2 v1 v2 Q s r1 r2 p=>by
 rw[hp]at p;obtain⟨i,rfl,p1⟩:=oI p;obtain⟨j,rfl,p2⟩:=oI p1;cases r1;cases r2;exact⟨i,j,rfl,rfl,Post.yes s p2 (e i j)⟩
theorem oT{E:XK}{ρ:List Addr}{H:Hp}{P:A->Hs->List Addr->Hp->Prop}{o:O}{f:List W->R W}(p:Post cl ρ H E (ofW (o.onT f)) P):∃ xs,o= .tup xs/\Post cl ρ H E (ofW (f xs)) P:=by
 cases o with
 | tup xs=>exact⟨xs,rfl,p⟩
 | _=>exact p.elim
theorem ints_of{ρ:List Addr}:∀ {xs:List W} {vs:List V},RWs ρ xs vs->Cv xs=true->∃ ns:List Int,xs=ns.map W.int/\vs=ns.map V.int
 | _,_,.nil,_=>⟨[],rfl,rfl⟩
 | x::xs,v::vs,.cons r t,e=>by
   cases r with
   | int i=>
     obtain⟨ns,e1,e2⟩:=ints_of t (show Cv xs=true from e)
     exact⟨i::ns,by rw[e1];rfl,by rw[e2];rfl⟩
   | _=>cases e
theorem Q3:∀(ns ms:List Int),Td (ns.map W.int) (ms.map W.int)=some (HT.lexLt ns ms)
 | [],[]=>rfl
 | [],_::_=>rfl
 | _::_,[]=>rfl
 | i::ns,j::ms=>by
   show ifB (ieq i j) (Td (ns.map W.int) (ms.map W.int)) (some (ilt i j))=_;rw[eX,Q3 ns ms,cN]
   by_cases z:i=j
   · rw[decide_eq_true z];simp[ifB,HT.lexLt,z]
   · rw[decide_eq_false z];simp[ifB,HT.lexLt,z]
def ac5(K:aq):R2:=fun x y H Q=>rI0 (fun i j=>.bl (decide (i<j))) x y H Q\/ach K x y H Q
theorem Tj{K:aq}:Op2 cl .lt (ac5 K):=fun E ρ h H w1 w2 v1 v2 Q s r1 r2 p=>by
 have p:Post cl ρ H E (ofW (pLt h w1 w2)) (VP Q):=p
 cases w1 with
 | int i=>
   obtain⟨j,rfl,p1⟩:=oI (show Post cl ρ H E (ofW (w2.onI fun j=>.yes (ilt i j) h)) (VP Q) from p);cases r1;cases r2
   exact .inl ⟨i,j,rfl,rfl,Post.yes s p1 (cN i j)⟩
 | ref n=>
   obtain⟨n,o,a,_,rfl,e1,g1,x1,p1⟩:=oAt s r1 (show Post cl ρ H E (ofW (h.at (.ref n) fun _ x=>h.at w2 fun _ y=>x.onT fun xs=>y.onT fun ys=>ifB (Cv xs) (ifB (Cv ys) (Opt (Td xs ys) fun c=>.yes c h) .no) .no)) (VP Q) from p);obtain⟨m,o2,b,_,rfl,e2,g2,x2,p2⟩:=oAt s r2 p1;obtain⟨xs,rfl,p3⟩:=oT p2;obtain⟨ys,rfl,p4⟩:=oT p3;obtain⟨c1,p5⟩:=oIf p4;obtain⟨c2,p6⟩:=oIf p5;obtain⟨c,ec,p7⟩:=pD p6;obtain⟨vs,rv,q1⟩:=x1;obtain⟨us,ru,q2⟩:=x2;obtain⟨ns,rfl,rfl⟩:=ints_of rv c1;obtain⟨ms,rfl,rfl⟩:=ints_of ru c2;rw[Q3]at ec
   exact .inr ⟨a,b,ns,ms,rfl,rfl,SqT.of q1,SqT.of q2,Post.yes s p7 (Option.some.inj ec).symm⟩
 | _=>exact p.elim
theorem ac6:Op2 cl .gt (rI0 fun i j=>.bl (decide (j<i))):=Z7 (f:=fun i j=>ilt j i) (fun _ _ _=>rfl) fun i j=>cN j i
theorem not_lt(i j:Int):(!ilt j i)=decide (i<=j):=by
 rw[cN,<- decide_not];exact decide_eq_decide.mpr (by omega)
theorem Es:Op2 cl .ge (rI0 fun i j=>.bl (decide (j<=i))):=Z7 (f:=fun i j=> !ilt i j) (fun _ _ _=>rfl) fun i j=>not_lt j i
theorem Et{ρ:List Addr}{w:W}{v:V}(r:RW ρ w v):wH w=decide (v= .non):=by
 cases r <;> first | rfl | exact(decide_eq_false (by intro z;cases z)).symm
theorem Z8:Op1 cl .isN (fun x H Q=>Q (.bl (decide (x= .non))) H):=fun E ρ h H w1 v1 Q s r1 p=>Post.yes s (show Post cl ρ H E (ofW (.yes (wH w1) h)) (VP Q) from p) (Et r1)
theorem ac7:Op1 cl .Te (fun x H Q=>Q (.bl (!decide (x= .non))) H):=fun E ρ h H w1 v1 Q s r1 p=>Post.yes s (show Post cl ρ H E (ofW (.yes (!wH w1) h)) (VP Q) from p) (by rw[Et r1])
theorem V_:Op1 cl .yP (fun x H Q=>∃ c,x= .bl c/\Q (.bl (!c)) H):=fun E ρ h H w1 v1 Q s r1 p=>by
 obtain⟨b,rfl,p⟩:=oB (show Post cl ρ H E (ofW (w1.onB (.yes true h) (.yes false h))) (VP Q) from p);cases r1;refine⟨b,rfl,?_⟩
 cases b with
 | true=>exact Post.yes s p rfl
 | false=>exact Post.yes s p rfl
def aaR:R2:=fun x y H Q=>rI0 (fun i j=>.int (i+j)) x y H Q\/acw x y H Q
theorem gG:Op2 cl .add aaR:=fun E ρ h H w1 w2 v1 v2 Q s r1 r2 p=>by
 have p:Post cl ρ H E (ofW (acO h w1 w2)) (VP Q):=p
 cases w1 with
 | int i=>
   obtain⟨j,rfl,p⟩:=oI (show Post cl ρ H E (ofW (w2.onI fun j=>.ok (.int (rY i j)) h)) (VP Q) from p);have p:Post cl ρ H E (ofW (.ok (.int (rY i j)) h)) (VP Q):=p;rw[yj]at p;cases r1;cases r2
   exact .inl ⟨i,j,rfl,rfl,Post.gF s p (.int _)⟩
 | ref n=>
   obtain⟨n,o,a,_,rfl,e1,g1,x1,p⟩:=oAt s r1 (show Post cl ρ H E (ofW (acN h (.ref n) w2)) (VP Q) from p);obtain⟨m,o2,b,_,rfl,e2,g2,x2,p⟩:=oAt s r2 p
   cases o with
   | lst xs=>
     obtain⟨ys,rfl,p⟩:=oL p;obtain⟨z,p⟩:=Gw p;obtain⟨vs,rv,q1⟩:=x1;obtain⟨us,ru,q2⟩:=x2;rw[iW]at z p;have l1:=rv.length;have l2:=ru.length;rw[List.length_append]at z
     exact .inr ⟨a,b,vs,us,rfl,rfl,q1,q2,by rw[oO];omega,fun p' hp=>Post.newL s p hp (rv.append ru)⟩
   | _=>exact p.elim
 | _=>exact p.elim
def aaS:R2:=fun x y H Q=>rI Ly (fun i j=>.int (i*j)) x y H Q\/acy x y H Q
theorem aaT(xs:List W)(k:Nat):Yv xs k=(List.replicate k xs).flatten:=by
 induction k with
 | zero=>rfl
 | succ k ih=>
   show app xs (Yv xs k)=_;rw[iW,ih,List.replicate_succ,List.flatten_cons]
theorem RWs.rep{ρ:List Addr}{xs:List W}{vs:List V}(r:RWs ρ xs vs):∀ k:Nat,RWs ρ (List.replicate k xs).flatten (List.replicate k vs).flatten
 | 0=>.nil
 | k+1=>by rw[List.replicate_succ,List.replicate_succ,List.flatten_cons,List.flatten_cons];exact r.append (RWs.rep r k)
theorem qW:Op2 cl .mul aaS:=fun E ρ h H w1 w2 v1 v2 Q s r1 r2 p=>by
 obtain⟨j,rfl,p⟩:=oI (show Post cl ρ H E (ofW (acR h w1 w2)) (VP Q) from p);cases r2
 cases w1 with
 | int i=>
   obtain⟨c,p⟩:=oIf (show Post cl ρ H E (ofW (ifB (Sml i) (ifB (Sml j) (.ok (.int (i*j)) h) .no) .no)) (VP Q) from p);obtain⟨c2,p⟩:=oIf p;cases r1
   exact .inl ⟨i,j,rfl,rfl,.inr ⟨Ng c,Ng c2⟩,Post.gF s p (.int _)⟩
 | ref n=>
   obtain⟨n,o,a,_,rfl,e1,g1,x1,p⟩:=oAt s r1 (show Post cl ρ H E (ofW (acQ h (.ref n) j)) (VP Q) from p);obtain⟨xs,rfl,p⟩:=oL p;obtain⟨c,p⟩:=oIf p;obtain⟨c2,p⟩:=oIf p;obtain⟨c3,p⟩:=oIf p;rw[cN]at c c2;rw[ble_eq,len_eq]at c3;have c:=of_decide_eq_true c;have c2:=of_decide_eq_true c2;have c3:=of_decide_eq_true c3;obtain⟨vs,rv,q1⟩:=x1;have l:=rv.length;rw[aaT]at p;refine .inr ⟨a,j,vs,rfl,rfl,q1,by omega,by omega,?_,fun p' hp=>Post.newL s p hp (rv.rep _)⟩;have:vs.length*j.toNat<=100*100000:=Nat.mul_le_mul (by omega) (by omega)
   rw[oO];omega
 | _=>exact p.elim
theorem ac8{n:Nat}{i:Int}{j:Nat}(h:Yx n i=j)(hj:j<n):ixN n i=some j:=by
 unfold ixN
 cases i with
 | ofNat k=>
   have h:k=j:=h;rw[if_pos (by show(0:Int)<=(k:Int);omega),if_pos (by show(k:Int)<n;omega)]
   exact congrArg some h
 | negSucc k=>
   have h:ifB (Nat.ble (k+1) n) (n - (k+1)) n=j:=h;rw[ble_eq]at h
   by_cases c:k+1<=n
   · rw[decide_eq_true c]at h;have h:n - (k+1)=j:=h;rw[if_neg (by omega),if_pos (by omega)];exact congrArg some (by omega)
   · rw[decide_eq_false c]at h;have h:n=j:=h;omega
theorem Wa{vs:List V}{xs:List W}{ρ:List Addr}{i:Int}{w:W}(r:RWs ρ xs vs)(e:nth xs (Yx (len xs) i)=some w):∃ v,atI vs i=some v/\RW ρ w v:=by
 rw[mF,len_eq]at e;obtain⟨v,ev,rv⟩:=r.get e;refine⟨v,?_,rv⟩;unfold atI;have hl:=r.length;have hlt:=(a_ ev).1;rw[hl]at ev hlt;rw[ac8 rfl hlt];exact ev
theorem ac9{K:aq}:Op2 cl .ix (rIx K):=fun E ρ h H w1 w2 v1 v2 Q s r1 r2 p=>by
 obtain⟨n,o,a,rfl,rfl,e1,g1,x1,p⟩:=oAt s r1 (show Post cl ρ H E (ofW (pIx h w1 w2)) (VP Q) from p);obtain⟨xs,e,p1⟩:=oIt p;obtain⟨i,rfl,p2⟩:=oI p1;obtain⟨w,ew,p3⟩:=pD p2;cases r2
 rcases e with rfl | rfl
 · obtain⟨vs,rv,q⟩:=x1;obtain⟨v,ev,rw⟩:=Wa rv ew;exact .inl ⟨a,vs,i,v,rfl,rfl,SqL.of q,ev,Post.gF s p3 rw⟩
 · obtain⟨vs,rv,q⟩:=x1;obtain⟨v,ev,rw⟩:=Wa rv ew;exact .inr (.inl ⟨a,vs,i,v,rfl,rfl,SqT.of q,ev,Post.gF s p3 rw⟩)
theorem Gx{ρ:List Addr}{ws:List W}{vs:List V}{f:W->R W}{P:A->Hs->List Addr->Hp->Prop}{H:Hp}{E:XK}(r:RWs ρ ws vs)(p:Post cl ρ H E (ofW (gO ws f)) P):∃ w v,ws= [w]/\vs= [v]/\RW ρ w v/\Post cl ρ H E (ofW (f w)) P:=by
 cases r with
 | nil=>exact p.elim
 | cons r1 t=>cases t with
   | nil=>exact⟨_,_,rfl,rfl,r1,p⟩
   | cons _ _=>exact p.elim
theorem Gy{ρ:List Addr}{ws:List W}{vs:List V}{f:W->W->R W}{P:A->Hs->List Addr->Hp->Prop}{H:Hp}{E:XK}(r:RWs ρ ws vs)(p:Post cl ρ H E (ofW (fZ ws f)) P):∃ w v w' v',ws= [w,w']/\vs= [v,v']/\RW ρ w v/\RW ρ w' v'/\Post cl ρ H E (ofW (f w w')) P:=by
 cases r with
 | nil=>exact p.elim
 | cons r1 t=>cases t with
   | nil=>exact p.elim
   | cons r2 t=>cases t with
     | nil=>exact⟨_,_,_,_,rfl,rfl,r1,r2,p⟩
     | cons _ _=>exact p.elim
theorem jf{K:aq}:OpN cl .len (afR K):=fun E ρ h H ws vs Q s r p=>by
 obtain⟨w,v,rfl,rfl,r1,p⟩:=Gx r (show Post cl ρ H E (ofW (gO ws (acT h))) (VP Q) from p);obtain⟨n,o,a,rfl,rfl,e1,g1,x1,p⟩:=oAt s r1 p;obtain⟨xs,e,p⟩:=oIt p;obtain⟨us,ru,q⟩:=x1.sq (K:=K) e;refine⟨a,us,rfl,q,?_⟩;rw[len_eq,ru.length]at p;exact Post.gF s p (.int _)
theorem aeN:OpN cl .tup (fun xs H Q=>xs.length<=sizeLine/\∀ p,H p=none->Q (.ref p) (upd H p (.tup xs))):=fun E ρ h H ws vs Q s r p=>by
 obtain⟨z,p⟩:=Gw (show Post cl ρ H E (ofW (size ws (.alloc h (.tup ws)))) (VP Q) from p);have:=r.length;exact⟨by rw[oO];omega,fun p' hp=>Post.ac3 s p hp r⟩
theorem aeO:OpN cl .lst (fun xs H Q=>xs.length<=sizeLine/\∀ p,H p=none->Q (.ref p) (upd H p (.lst xs))):=fun E ρ h H ws vs Q s r p=>by
 obtain⟨z,p⟩:=Gw (show Post cl ρ H E (ofW (size ws (.alloc h (.lst ws)))) (VP Q) from p);have:=r.length;exact⟨by rw[oO];omega,fun p' hp=>Post.newL s p hp r⟩
theorem ac_{K:aq}:OpN cl .list (fun xs H Q=>∃ p ys,xs= [.ref p]/\(SqL K H p ys\/SqT K H p ys)/\∀ l,H l=none->Q (.ref l) (upd H l (.lst ys))):=fun E ρ h H ws vs Q s r p=>by
 obtain⟨w,v,rfl,rfl,r1,p⟩:=Gx r (show Post cl ρ H E (ofW (gO ws (Z4 h))) (VP Q) from p);obtain⟨n,o,a,rfl,rfl,e1,g1,x1,p⟩:=oAt s r1 p;obtain⟨xs,e,p⟩:=oIt p;obtain⟨us,ru,q⟩:=x1.sq (K:=K) e;exact⟨a,us,rfl,q,fun l hl=>Post.newL s p hl ru⟩
theorem Wb{ρ:List Addr}{a b:W}{u v:V}{c:Bool}(ra:RW ρ a u)(rb:RW ρ b v)(e:eqF a b=some c):pY u=true/\pY v=true/\eqV u v=c:=by
 cases ra with
 | non=>cases rb <;> first | (cases e;exact⟨rfl,rfl,rfl⟩) | cases e
 | bl x=>cases e
 | int i=>cases rb with
   | non=>cases e;exact⟨rfl,rfl,rfl⟩
   | int j=>
     have e:some (ieq i j)=some c:=e;cases e;refine⟨rfl,rfl,?_⟩;rw[eX];show(i==j)=_
     by_cases z:i=j
     · subst z;simp
     · rw[decide_eq_false z];exact beq_eq_false_iff_ne.mpr z
   | str x=>cases e;exact⟨rfl,rfl,rfl⟩
   | _=>cases e
 | str x=>cases rb with
   | non=>cases e;exact⟨rfl,rfl,rfl⟩
   | int j=>cases e;exact⟨rfl,rfl,rfl⟩
   | str y=>
     have e:some (codes x y)=some c:=e;cases e;refine⟨rfl,rfl,?_⟩;show(({ cps:=x.toArray }:Str) == { cps:=y.toArray })=_
     cases z:codes x y with
     | true=>rw[cT.mp z];exact beq_self_eq_true _
     | false=>exact beq_eq_false_iff_ne.mpr fun q=>by rw[cT.mpr (vC q)]at z;cases z
   | _=>cases e
 | ref _=>cases e
end
end Ev
namespace Ev
open PySem PySem.Spec PySem.SeqAt PyProof.Rows L2
section
variable{cl:Cn}
theorem Q4{ρ:List Addr}{a:W}{v:V}(ra:RW ρ a v):∀ {xs:List W} {vs:List V} {c:Bool},RWs ρ xs vs->w5 a xs=some c->vs.all pY=true/\inV v vs=c
 | _,_,c,.nil,e=>by cases e;exact⟨rfl,rfl⟩
 | x::xs,u::us,c,.cons r t,e=>by
   have e:Option.rec none (fun b=>Option.rec none (fun r=>some (ifB b true r)) (w5 a xs)) (eqF x a)=some c:=e
   cases h1:eqF x a with
   | none=>rw[h1]at e;cases e
   | some b=>
     rw[h1]at e
     cases h2:w5 a xs with
     | none=>rw[h2]at e;cases e
     | some r'=>
       rw[h2]at e;have e:some (ifB b true r')=some c:=e;cases e;obtain⟨f1,f2,f3⟩:=Wb r ra h1;obtain⟨g1,g2⟩:=Q4 ra t h2;refine⟨by rw[List.all_cons,f1,g1];rfl,?_⟩;show(eqV u v||inV v us)=_;rw[f3,g2];cases b <;> rfl
theorem Z9{K:aq}(neg:Bool){p:Pr}{f:Bool->Bool}(hp:∀ h w1 w2,lX p [w1,w2] h=pIn f h w1 w2)(hf:∀ c:Bool,f c=if neg then !c else c):Op2 cl p (rIn K neg):=fun E ρ h H w1 w2 v1 v2 Q s r1 r2 p=>by
 rw[hp]at p;obtain⟨n,o,a,rfl,rfl,e1,g1,x1,p1⟩:=oAt s r2 p;obtain⟨xs,e,p2⟩:=oIt p1;obtain⟨c0,h0,p3⟩:=pD p2;obtain⟨c,hc,p4⟩:=pD p3;obtain⟨us,ru,q⟩:=x1.sq (K:=K) e;obtain⟨f1,_,_⟩:=Wb r1 r1 h0;obtain⟨g1,g2⟩:=Q4 r1 ru hc;exact⟨a,us,rfl,q,f1,g1,Post.yes s p4 (by rw[hf,g2])⟩
theorem Ni{K:aq}:Op2 cl .in_ (rIn K false):=Z9 false (f:=id) (fun _ _ _=>rfl) fun _=>rfl
theorem ym{K:aq}:Op2 cl .wJ (rIn K true):=Z9 true (f:=not) (fun _ _ _=>rfl) fun _=>rfl
theorem Nj{ρ:List Addr}:∀ {xs:List W} {vs:List V} {bs:List Bool},RWs ρ xs vs->bools xs=some bs->vs=bs.map V.bl
 | _,_,bs,.nil,e=>by cases e;rfl
 | x::xs,u::us,bs,.cons r t,e=>by
   cases r with
   | bl b=>
     have e:Option.rec none (fun r=>some (b::r)) (bools xs)=some bs:=e
     cases h:bools xs with
     | none=>rw[h]at e;cases e
     | some bs'=>
       rw[h]at e;have e:some (b::bs')=some bs:=e;cases e
       rw[List.map_cons,Nj t h]
   | _=>cases e
theorem aaU(bs:List Bool):allB bs=bs.all id:=by
 induction bs with
 | nil=>rfl
 | cons b bs ih=>
   show ifB b (allB bs) false=_;rw[ih,List.all_cons];cases b <;> rfl
theorem ada{p:Pr}{f g:List Bool->Bool}(hp:∀ h ws,lX p ws h=gO ws (YB f h))(e:∀ bs,f bs=g bs):OpN cl p (Ym g):=fun E ρ h H ws vs Q s r p=>by
 rw[hp]at p;obtain⟨w,v,rfl,rfl,r1,p1⟩:=Gx r p;obtain⟨n,o,a,rfl,rfl,e1,g1,x1,p2⟩:=oAt s r1 p1;obtain⟨xs,rfl,p3⟩:=oL p2;obtain⟨bs,hb,p4⟩:=pD p3;obtain⟨us,ru,q⟩:=x1;rw[Nj ru hb]at q;exact⟨a,bs,rfl,q,Post.yes s p4 (e bs)⟩
theorem aeP:OpN cl .all (Ym fun bs=>bs.all id):=ada (fun _ _=>rfl) aaU
def YF:Nat->String
 | 0=>"int" | 1=>"bool" | 2=>"str" | 3=>"tuple" | _=>"list"
theorem aeQ{K:aq}{k:Nat}(hk:k<5):Op1 cl (.isi k) (fun x H Q=>∃ t b,qR K H x t/\PySem.W.kitOne K t (.type (YF k))=some b/\Q (.bl b) H):=fun E ρ h H w1 v1 Q s r1 p=>by
 have p:Post cl ρ H E (ofW (acW k h w1)) (VP Q):=p;have five:k=0\/k=1\/k=2\/k=3\/k=4:=by omega
 cases r1 with
 | non=>exact⟨_,false,.non,by rcases five with rfl | rfl | rfl | rfl | rfl <;> rfl,Post.yes s p rfl⟩
 | bl b=>exact⟨_,ifB (Nat.beq k 0) true (Nat.beq k 1),.bl b,by rcases five with rfl | rfl | rfl | rfl | rfl <;> rfl,Post.yes s p rfl⟩
 | int i=>exact⟨_,Nat.beq k 0,.int i,by rcases five with rfl | rfl | rfl | rfl | rfl <;> rfl,Post.yes s p rfl⟩
 | str c=>exact⟨_,Nat.beq k 2,.str _,by rcases five with rfl | rfl | rfl | rfl | rfl <;> rfl,Post.yes s p rfl⟩
 | @ref n a q=>
   obtain⟨o,e,p1⟩:=pD (show Post cl ρ H E (ofW (Opt (h.get n) fun o=>Opt (Z5 o) fun c=>.yes (Nat.beq k c) h)) (VP Q) from p);obtain⟨c,ec,p2⟩:=pD p1;have x:=s.at q e
   cases o with
   | tup xs=>
     cases ec
     exact⟨_,Nat.beq k 3,.tup x.choose_spec.2,by rcases five with rfl | rfl | rfl | rfl | rfl <;> rfl,Post.yes s p2 rfl⟩
   | lst xs=>
     cases ec
     exact⟨_,Nat.beq k 4,.lst x.choose_spec.2,by rcases five with rfl | rfl | rfl | rfl | rfl <;> rfl,Post.yes s p2 rfl⟩
   | _=>cases ec
def OpM(cl:Cn)(p:Pr)(r:V->List V->Hp->VK->Prop):Prop:=∀(E:XK) (ρ:List Addr) (h:Hs) (H:Hp) (w:W) (v:V) (ws:List W) (vs:List V) (Q:VK),Sim cl ρ h H->RW ρ w v->RWs ρ ws vs->Post cl ρ H E (ofW (lX p (w::ws) h)) (VP Q)->r v vs H Q
theorem lY:OpM cl .append QG:=fun E ρ h H w v ws vs Q s r rs p=>by
 obtain⟨w1,v1,w2,v2,e,e',r1,r2,p1⟩:=Gy (.cons r rs) (show Post cl ρ H E (ofW (fZ (w::ws) (ye h))) (VP Q) from p);cases e;cases e';obtain⟨n,o,a,rfl,rfl,e1,g1,x1,p2⟩:=oAt s r1 p1;obtain⟨xs,rfl,p3⟩:=oL p2;obtain⟨z,p4⟩:=Gw p3;obtain⟨us,ru,q⟩:=x1;have hl:=ru.length;rw[iW]at p4;exact⟨a,us,v2,rfl,rfl,q,by rw[oO];omega,Post.putL s p4 e1 (ru.append (.cons r2 .nil)) .non⟩
theorem YG:OpM cl .extend QH:=fun E ρ h H w v ws vs Q s r rs p=>by
 obtain⟨w1,v1,w2,v2,e,e',r1,r2,p1⟩:=Gy (.cons r rs) (show Post cl ρ H E (ofW (fZ (w::ws) (QZ h))) (VP Q) from p);cases e;cases e';obtain⟨n,o,a,rfl,rfl,e1,g1,x1,p2⟩:=oAt s r1 p1;obtain⟨xs,rfl,p3⟩:=oL p2;obtain⟨m,o2,b,rfl,rfl,e2,g2,x2,p4⟩:=oAt s r2 p3;obtain⟨ys,rfl,p5⟩:=oL p4;obtain⟨z,p6⟩:=Gw p5;obtain⟨us,ru,q⟩:=x1;obtain⟨us2,ru2,q2⟩:=x2;have hl:=ru.length;have hl2:=ru2.length;rw[iW]at p6 z;rw[List.length_append]at z;exact⟨a,b,us,us2,rfl,rfl,q,q2,by rw[oO];omega,Post.putL s p6 e1 (ru.append ru2) .non⟩
theorem aeR{ρ:List Addr}{w:W}{ws:List W}{vs:List V}{f:W->R W}{P:A->Hs->List Addr->Hp->Prop}{H:Hp}{E:XK}(rs:RWs ρ ws vs)(p:Post cl ρ H E (ofW (gO (w::ws) f)) P):vs= []/\Post cl ρ H E (ofW (f w)) P:=by
 cases rs with
 | nil=>exact⟨rfl,p⟩
 | cons _ _=>exact p.elim
theorem aeS:OpM cl .pop acu:=fun E ρ h H w v ws vs Q s r rs p=>by
 obtain⟨rfl,p1⟩:=aeR rs (show Post cl ρ H E (ofW (gO (w::ws) (acU h))) (VP Q) from p);obtain⟨n,o,a,rfl,rfl,e1,g1,x1,p2⟩:=oAt s r p1;obtain⟨xs,rfl,p3⟩:=oL p2;obtain⟨y,ey,p4⟩:=pD p3;obtain⟨us,ru,q⟩:=x1;rw[last_eq,List.getLast?_eq_getElem?]at ey;obtain⟨u,eu,rw⟩:=ru.get ey;rw[aaQ]at p4;exact⟨a,us,u,rfl,rfl,q,by rw[<- ru.length];exact eu,Post.putL s p4 e1 ru.init rw⟩
theorem rev_eq(xs:List W):∀ acc,rev xs acc=xs.reverse++acc:=by
 induction xs with
 | nil=>intro acc;rfl
 | cons x xs ih=>
   intro acc;show rev xs (x::acc)=_;rw[ih,List.reverse_cons,List.append_assoc];rfl
theorem RWs.reverse{ρ:List Addr}:∀ {xs:List W} {us:List V},RWs ρ xs us->RWs ρ xs.reverse us.reverse
 | _,_,.nil=>.nil
 | _,_,.cons r t=>by rw[List.reverse_cons,List.reverse_cons];exact(RWs.reverse t).append (.cons r .nil)
theorem aeT:OpN cl .min (fun xs H Q=>∃ i j,xs= [.int i,.int j]/\Q (.int (if j<i then j else i)) H):=fun E ρ h H ws vs Q s r p=>by
 obtain⟨w1,v1,w2,v2,rfl,rfl,r1,r2,p1⟩:=Gy r (show Post cl ρ H E (ofW (fZ ws fun a b=>a.onI fun i=>b.onI fun j=>Yw h i j)) (VP Q) from p);obtain⟨i,rfl,p2⟩:=oI p1;obtain⟨j,rfl,p3⟩:=oI p2;cases r1;cases r2;refine⟨i,j,rfl,?_⟩
 have e:ifB (ilt j i) j i=if j<i then j else i:=by
  rw[cN]
  by_cases z:j<i
  · rw[decide_eq_true z,if_pos z];rfl
  · rw[decide_eq_false z,if_neg z];rfl
 unfold Yw at p3;rw[e]at p3;exact Post.gF s p3 (.int _)
theorem aaV{K:aq}{E:XK}{ρ:List Addr}{h:Hs}{H:Hp}{w:W}{v:V}{Q:VK}(s:Sim cl ρ h H)(r:RW ρ w v)(p:Post cl ρ H E (ofW (lX .truth [w] h)) (VP Q)):∃ k,R7 K v H k/\Q (.bl k) H:=by
 have p:Post cl ρ H E (ofW (V8 h w)) (VP Q):=p
 cases r with
 | non=>exact⟨false,rfl,Post.yes s p rfl⟩
 | bl b=>exact⟨b,rfl,Post.yes s p rfl⟩
 | int i=>
   refine⟨i != 0,rfl,Post.yes s p ?_⟩;rw[eX]
   by_cases z:i=0
   · subst z;rfl
   · rw[decide_eq_false z];exact(bne_iff_ne.mpr z).symm
 | str c=>exact p.elim
 | @ref n a q=>
   obtain⟨n,o,a',e0,e0',e1,g1,x1,p1⟩:=oAt s (.ref q) (show Post cl ρ H E (ofW (h.at (.ref n) fun _ o=>o.items fun xs=>.yes (Yy xs) h)) (VP Q) from p);cases e0;cases e0';obtain⟨xs,e,p2⟩:=oIt p1;have ne:∀ {vs:List V},RWs ρ xs vs->Yy xs= !vs.isEmpty:=fun r=>by cases r <;> rfl
   rcases e with rfl | rfl
   · obtain⟨us,ru,q2⟩:=x1;exact⟨_,.inl ⟨us,SqL.of q2,rfl⟩,Post.yes s p2 (ne ru)⟩
   · obtain⟨us,ru,q2⟩:=x1;exact⟨_,.inr (.inl ⟨us,SqT.of q2,rfl⟩),Post.yes s p2 (ne ru)⟩
mutual
def pd:D->PyData
 | .non=>.none | .bl b=>.bool b | .int i=>.int i | .str c=>.str ⟨c.toArray⟩ | .lst xs=>.list (pds xs) | .tup xs=>.tuple (pds xs)
def pds:List D->List PyData
 | []=>[]
 | x::xs=>pd x::pds xs
end
theorem LQ(i j:Int):(i==j)=ieq i j:=by
 rw[eX]
 by_cases z:i=j
 · subst z;simp
 · rw[decide_eq_false z];exact beq_eq_false_iff_ne.mpr z
theorem Z_(x y:List Nat):(({ cps:=x.toArray }:Str) == { cps:=y.toArray })=codes x y:=by
 cases z:codes x y with
 | true=>rw[cT.mp z];exact beq_self_eq_true _
 | false=>exact beq_eq_false_iff_ne.mpr fun q=>by rw[cT.mpr (vC q)]at z;cases z
mutual
theorem Wc:∀ a b:D,PyData.eqv (pd a) (pd b)=eV a b
 | .non,b=>by cases b <;> simp only[pd,PyData.eqv,eV]
 | .bl x,b=>by cases b <;> simp only[pd,PyData.eqv,eV,LQ]
 | .int x,b=>by cases b <;> simp only[pd,PyData.eqv,eV,LQ]
 | .str x,b=>by cases b <;> simp only[pd,PyData.eqv,eV,Z_]
 | .lst xs,b=>by
   cases b <;> simp only[pd,PyData.eqv,eV]
   exact Iu xs _
 | .tup xs,b=>by
   cases b <;> simp only[pd,PyData.eqv,eV];exact Iu xs _
theorem Iu:∀ a b:List D,PyData.eqvAll (pds a) (pds b)=vB a b
 | [],b=>by cases b <;> simp only[pds,PyData.eqvAll,vB]
 | x::xs,b=>by
   cases b with
   | nil=>simp only[pds,PyData.eqvAll,vB]
   | cons y ys=>simp only[pds,PyData.eqvAll,vB,Wc x y,Iu xs ys]
end
theorem adb:∀ c:List Nat,okC c=true->PySem.PyData.canLay0 (.str ⟨c.toArray⟩)=true:=fun c h=>by
 have:∀ x ∈ c,x<1114112:=by
  induction c with
  | nil=>intro x hx;cases hx
  | cons y c ih=>
    have h:ifB (Nat.ble (y+1) 1114112) (okC c) false=true:=h;rw[ble_eq]at h
    by_cases z:y+1<=1114112
    · rw[decide_eq_true z]at h;intro x hx
      rcases List.mem_cons.mp hx with rfl | hx
      · omega
      · exact ih h x hx
    · rw[decide_eq_false z]at h;cases h
 simp only[PyData.canLay0]
 first | (unfold PyData.strOk;simpa using this) | simpa [PySem.strOk] using this
theorem Iw{ρ:List Addr}{h:Hs}{H:Hp}(s:Sim cl ρ h H):∀(n:Nat) {w:W} {v:V} {dd:D},RW ρ w v->toD h n w=some dd->Rep H v (pd dd)/\(pd dd).canLay0=true/\(pd dd).depth<=n
 | 0,_,_,_,_,e=>nomatch e
 | n+1,w,v,dd,r,e=>by
   have all:∀ {xs:List W} {vs:List V} {ds:List D},RWs ρ xs vs->m_ (toD h n) xs=some ds->iu H vs (pds ds)/\PyData.canLayAll0 (pds ds)=true/\PyData.depthAll (pds ds)<=n:=by
    intro xs
    induction xs with
    | nil=>
      intro vs ds r e;cases r;cases e
      exact⟨.nil,by simp only[pds,PyData.canLayAll0],by simp only[pds,PyData.depthAll];omega⟩
    | cons x xs ih=>
      intro vs ds r e
      cases r with
      | cons r1 t=>
        have e:Option.rec none (fun d=>Option.rec none (fun ds=>some (d::ds)) (m_ (toD h n) xs)) (toD h n x)=some ds:=e
        cases h1:toD h n x with
        | none=>rw[h1]at e;cases e
        | some d1=>
          rw[h1]at e
          cases h2:m_ (toD h n) xs with
          | none=>rw[h2]at e;cases e
          | some ds2=>
            rw[h2]at e;have e:some (d1::ds2)=some ds:=e;cases e;obtain⟨a1,a2,a3⟩:=Iw s n r1 h1;obtain⟨b1,b2,b3⟩:=ih t h2;refine⟨.cons a1 b1,?_,?_⟩
            · simp only[pds,PyData.canLayAll0,a2,b2];rfl
            · simp only[pds,PyData.depthAll];omega
   cases r with
   | non=>cases e;exact⟨.non,by simp only[pd,PyData.canLay0],by simp only[pd,PyData.depth];omega⟩
   | bl b=>cases e;exact⟨.bl b,by simp only[pd,PyData.canLay0],by simp only[pd,PyData.depth];omega⟩
   | int i=>cases e;exact⟨.int i,by simp only[pd,PyData.canLay0],by simp only[pd,PyData.depth];omega⟩
   | str c=>
     have e:ifB (okC c) (some (D.str c)) none=some dd:=e
     cases z:okC c with
     | false=>rw[z]at e;cases e
     | true=>
       rw[z]at e;cases e
       exact⟨.str _,adb c z,by simp only[pd,PyData.depth];omega⟩
   | @ref k a q=>
     cases hg:h.get k with
     | none=>
       have:toD h (n+1) (.ref k)=none:=by
        show Option.rec (motive:=fun _=>Option D) none _ (h.get k)=none;rw[hg]
       rw[this]at e;cases e
     | some o=>
       have x:=s.at q hg
       cases o with
       | tup xs=>
         have:toD h (n+1) (.ref k)=Option.rec none (fun ds=>some (D.tup ds)) (m_ (toD h n) xs):=by
          show Option.rec (motive:=fun _=>Option D) none _ (h.get k)=_;rw[hg];rfl
         rw[this]at e
         cases h2:m_ (toD h n) xs with
         | none=>rw[h2]at e;cases e
         | some ds=>
           rw[h2]at e;have e:some (D.tup ds)=some dd:=e;cases e;obtain⟨vs,rv,qq⟩:=x;obtain⟨b1,b2,b3⟩:=all rv h2
           exact⟨.tup qq b1,by simp only[pd,PyData.canLay0];exact b2,by simp only[pd,PyData.depth];omega⟩
       | lst xs=>
         have:toD h (n+1) (.ref k)=Option.rec none (fun ds=>some (D.lst ds)) (m_ (toD h n) xs):=by
          show Option.rec (motive:=fun _=>Option D) none _ (h.get k)=_;rw[hg];rfl
         rw[this]at e
         cases h2:m_ (toD h n) xs with
         | none=>rw[h2]at e;cases e
         | some ds=>
           rw[h2]at e;have e:some (D.lst ds)=some dd:=e;cases e;obtain⟨vs,rv,qq⟩:=x;obtain⟨b1,b2,b3⟩:=all rv h2
           exact⟨.lst qq b1,by simp only[pd,PyData.canLay0];exact b2,by simp only[pd,PyData.depth];omega⟩
       | _=>
         have:toD h (n+1) (.ref k)=none:=by
          show Option.rec (motive:=fun _=>Option D) none _ (h.get k)=none;rw[hg]
         rw[this]at e;cases e
theorem J7{d:PyData}(h1:d.canLay0=true)(h2:d.depth<=12):shaped d=true:=by
 unfold shaped;rw[h1,decide_eq_true (by omega)];rfl
theorem aaa{p:Pr}{f:Bool->Bool}(hp:∀ h w1 w2,lX p [w1,w2] h=pEq f h w1 w2):Op2 cl p (fun x y H Q=>∃ dx dy,Rep H x dx/\Rep H y dy/\shaped dx=true/\shaped dy=true/\Q (.bl (f (PyData.eqv dx dy))) H):=fun E ρ h H w1 w2 v1 v2 Q s r1 r2 p=>by
 rw[hp]at p;obtain⟨x,ex,p1⟩:=pD p;obtain⟨y,ey,p2⟩:=pD p1;obtain⟨a1,a2,a3⟩:=Iw s 12 r1 ex;obtain⟨b1,b2,b3⟩:=Iw s 12 r2 ey;exact⟨_,_,a1,b1,J7 a2 a3,J7 b2 b3,Post.yes s p2 (by rw[Wc])⟩
theorem jg:Op2 cl .eq acC:=aaa (f:=id) fun _ _ _=>rfl
theorem Ar:Op2 cl .ne acD:=aaa (f:=not) fun _ _ _=>rfl
mutual
theorem aaW:∀ a b:D,PySem.Spec.same (pd a) (pd b)=kh a b
 | .non,b=>by cases b <;> simp only[pd,PySem.Spec.same,kh]
 | .bl x,b=>by cases b <;> simp only[pd,PySem.Spec.same,kh]
 | .int x,b=>by cases b <;> simp only[pd,PySem.Spec.same,kh,LQ]
 | .str x,b=>by cases b <;> simp only[pd,PySem.Spec.same,kh,Z_]
 | .lst xs,b=>by
   cases b <;> simp only[pd,PySem.Spec.same,kh]
   exact Eu xs _
 | .tup xs,b=>by
   cases b <;> simp only[pd,PySem.Spec.same,kh];exact Eu xs _
theorem Eu:∀ a b:List D,PySem.Spec.sameAll (pds a) (pds b)=pM a b
 | [],b=>by cases b <;> simp only[pds,PySem.Spec.sameAll,pM]
 | x::xs,b=>by
   cases b with
   | nil=>simp only[pds,PySem.Spec.sameAll,pM]
   | cons y ys=>simp only[pds,PySem.Spec.sameAll,pM,aaW x y,Eu xs ys]
end
end
section
variable{Pg:List Fn}{cl:Cn}{E:XK}{d:Nat}{X:Cx}{σ:L2.St}{H:Hp}
theorem aM{op:Operator}{p:Pr}{r:R2}{a b:Expr}{x y:Ev.X}{pos:Pos}(z:Op2 cl p r)(o:OpR X (binaryOp op) r)(ha:PE X a (tE Pg cl E d x))(hb:PE X b (tE Pg cl E d y)):PE X (.BinOp a op b pos) (tE Pg cl E d (.pr p [x,y])):=
 PE.of (fW o ha hb) fun _ _ _ q=>t6 z q
theorem Tn{op:UnaryOp}{p:Pr}{r:V->Hp->VK->Prop}{a:Expr}{x:Ev.X}{pos:Pos}(z:Op1 cl p r)(o:UnR X (unaryOp op) r)(ha:PE X a (tE Pg cl E d x)):PE X (.UnaryOp op a pos) (tE Pg cl E d (.pr p [x])):=
 PE.of (ZP o ha) fun _ _ _ q=>pN z q
theorem mH{op:CmpOp}{p:Pr}{r:R2}{a b:Expr}{x y:Ev.X}{pos:Pos}(z:Op2 cl p r)(o:OpR X (compareOp op) r)(ha:PE X a (tE Pg cl E d x))(hb:PE X b (tE Pg cl E d y))(hm:behindInMarks op b=false):PE X (.Compare a [op] [b] pos) (tE Pg cl E d (.pr p [x,y])):=
 PE.of (aaB o ha hb hm) fun _ _ _ q=>t6 z q
theorem bx{op:CmpOp}{p:Pr}{r:R2}{a b:Expr}{x y:Ev.X}{pos:Pos}(z:Op2 cl p r)(o:OpR X (compareOp op) r)(ha:PE X a (tE Pg cl E d x))(hb:PE X b (tE Pg cl E d y))(hm:behindInMarks op b=false):PT X (.Compare a [op] [b] pos) (tT Pg cl E d (.pr p [x,y])):=
 PT.of (rR o ha hb hm) fun _ _ _ q=>t6 z q
theorem ade{a:Expr}{x:Ev.X}{pos pos' j}(ha:PE X a (tE Pg cl E d x)):PE X (.Compare a [.Is] [.Constant .none j pos'] pos) (tE Pg cl E d (.pr .isN [x])):=PE.of (abT (Vf ha)) fun _ _ _ q=>pN Z8 q
theorem adf{a:Expr}{x:Ev.X}{pos pos' j}(ha:PE X a (tE Pg cl E d x)):PT X (.Compare a [.Is] [.Constant .none j pos'] pos) (tT Pg cl E d (.pr .isN [x])):=PT.of (Mu (Vf ha)) fun _ _ _ q=>pN Z8 q
theorem Q5{a:Expr}{x:Ev.X}{pos pos' j}(ha:PE X a (tE Pg cl E d x)):PT X (.Compare a [.IsNot] [.Constant .none j pos'] pos) (tT Pg cl E d (.pr .Te [x])):=PT.of (Mu (Qx ha)) fun _ _ _ q=>pN ac7 q
theorem Gz{a:Expr}{x:Ev.X}{pos}(ha:PT X a (tT Pg cl E d x)):PT X (.UnaryOp .Not a pos) (tT Pg cl E d (.pr .yP [x])):=PT.of (Vg ha) fun σ H Q q=>by
 obtain⟨ρ,τ,h,n,s,r,p⟩:=(show tE Pg cl E d x σ H (fun v H1=>∃ c,v= .bl c/\∃ b,V.bl (!c)= .bl b/\Q b H1) from pN V_ q);refine⟨ρ,τ,h,n,s,r,p.mono fun a h ρ H _ _ ⟨w,e,g⟩=>⟨w,e,fun v rv=>?_⟩⟩;obtain⟨c,ec,b,eb,qb⟩:=g v rv;cases eb;exact⟨c,ec,qb⟩
theorem j0{a:Expr}{x:Ev.X}(ha:PE X a (tE Pg cl E d x))(he:∀ whole,isTrue a X.env whole=(do let v <- whole;standAt a.pos;holding [v] (truthy v))):PT X a (tT Pg cl E d (.pr .truth [x])):=PT.of (Mx ha he) fun σ H Q q=>
 pN (r:=fun v H1 Q'=>∃ k,R7 X.K v H1 k/\Q' (.bl k) H1) (fun E ρ h H w v Q s r p=>aaV s r p) q |> fun z=>by
 obtain⟨ρ,τ,h,n,s,r,p⟩:=z;refine⟨ρ,τ,h,n,s,r,p.mono fun a h ρ H _ _ ⟨w,e,g⟩=>⟨w,e,fun v rv=>?_⟩⟩;obtain⟨k,t,b,eb,qb⟩:=g v rv;cases eb;exact⟨k,t,qb⟩
theorem Wd{a b:Ev.X}{Q:VK}(x:tE Pg cl E d (.and a b) σ H Q):ZK (tE Pg cl E d a) (tE Pg cl E d b) σ H Q:=by
 obtain⟨ρ,τ,h,n,s,rs,q⟩:=x.step;refine ev.then s rs (show Post cl ρ H E ((evs Pg n d (.x a) τ h).bind fun r h=>r.toW fun w=>w.onB (.ok (.w (.bl false)) h) (evs Pg n d (.x b) τ h)) (VP Q) from q) fun a1 h1 ρ1 H1 b1 s1 p1=>?_;obtain⟨w,rfl,p2⟩:=bK p1;refine⟨w,rfl,fun v rv=>?_⟩
 rcases yg p2 with ⟨rfl,p3⟩ | ⟨rfl,p3⟩
 · cases rv;exact⟨true,rfl,yK ⟨ρ1,τ,h1,n,s1,rs.mono b1.1,p3⟩⟩
 · cases rv;exact⟨false,rfl,yJ (Post.gF s1 p3 (.bl false))⟩
theorem aeU{a b:Ev.X}{Q:VK}(x:tE Pg cl E d (.or a b) σ H Q):afA (tE Pg cl E d a) (tE Pg cl E d b) σ H Q:=by
 obtain⟨ρ,τ,h,n,s,rs,q⟩:=x.step;refine ev.then s rs (show Post cl ρ H E ((evs Pg n d (.x a) τ h).bind fun r h=>r.toW fun w=>w.onB (evs Pg n d (.x b) τ h) (.ok (.w (.bl true)) h)) (VP Q) from q) fun a1 h1 ρ1 H1 b1 s1 p1=>?_;obtain⟨w,rfl,p2⟩:=bK p1;refine⟨w,rfl,fun v rv=>?_⟩
 rcases yg p2 with ⟨rfl,p3⟩ | ⟨rfl,p3⟩
 · cases rv;exact⟨true,rfl,yK (Post.gF s1 p3 (.bl true))⟩
 · cases rv;exact⟨false,rfl,yJ ⟨ρ1,τ,h1,n,s1,rs.mono b1.1,p3⟩⟩
theorem vD{a b:Expr}{rest:List Expr}{x y:Ev.X}{pos:Pos}(ha:PE X a (tE Pg cl E d x))(hb:PE X (.BoolOp .And (b::rest) pos) (tE Pg cl E d y)):PE X (.BoolOp .And (a::b::rest) pos) (tE Pg cl E d (.and x y)):=PE.of (abW ha hb) fun _ _ _ q=>Wd q
theorem aaX{a b:Ev.X}{Q:Bool->Hp->Prop}(x:tT Pg cl E d (.and a b) σ H Q):abV (tT Pg cl E d a) (tT Pg cl E d b) σ H Q:=by
 obtain⟨ρ,τ,h,n,s,r,p⟩:=(show tE Pg cl E d a σ H (fun v H1=>∃ c,v= .bl c/\if c=true then tT Pg cl E d b σ H1 Q else ∃ b,V.bl false= .bl b/\Q b H1) from Wd x);refine⟨ρ,τ,h,n,s,r,p.mono fun a h ρ H _ _ ⟨w,e,g⟩=>⟨w,e,fun v rv=>?_⟩⟩;obtain⟨c,ec,q⟩:=g v rv;refine⟨c,ec,?_⟩
 cases c with
 | true=>exact q
 | false=>
   obtain⟨b,eb,q⟩:=(show ∃ b,V.bl false= .bl b/\Q b H from q);cases eb;exact q
theorem adg{a b:Ev.X}{Q:Bool->Hp->Prop}(x:tT Pg cl E d (.or a b) σ H Q):tOr (tT Pg cl E d a) (tT Pg cl E d b) σ H Q:=by
 obtain⟨ρ,τ,h,n,s,r,p⟩:=(show tE Pg cl E d a σ H (fun v H1=>∃ c,v= .bl c/\if c=true then ∃ b,V.bl true= .bl b/\Q b H1 else tT Pg cl E d b σ H1 Q) from aeU x);refine⟨ρ,τ,h,n,s,r,p.mono fun a h ρ H _ _ ⟨w,e,g⟩=>⟨w,e,fun v rv=>?_⟩⟩;obtain⟨c,ec,q⟩:=g v rv;refine⟨c,ec,?_⟩
 cases c with
 | false=>exact q
 | true=>
   obtain⟨b,eb,q⟩:=(show ∃ b,V.bl true= .bl b/\Q b H from q);cases eb;exact q
theorem qX{a b:Expr}{rest:List Expr}{x y:Ev.X}{pos:Pos}(ha:PT X a (tT Pg cl E d x))(hb:PW X (.BoolOp .And (b::rest) pos) (tT Pg cl E d y)):PW X (.BoolOp .And (a::b::rest) pos) (tT Pg cl E d (.and x y)):=PW.of (pw_and ha hb) fun _ _ _ q=>aaX q
theorem uJ{a b:Expr}{rest:List Expr}{x y:Ev.X}{pos:Pos}(ha:PT X a (tT Pg cl E d x))(hb:PW X (.BoolOp .Or (b::rest) pos) (tT Pg cl E d y)):PW X (.BoolOp .Or (a::b::rest) pos) (tT Pg cl E d (.or x y)):=PW.of (pw_or ha hb) fun _ _ _ q=>adg q
theorem adh{c a b:Ev.X}{Q:VK}(x:tE Pg cl E d (.ite c a b) σ H Q):tIf (tT Pg cl E d c) (tE Pg cl E d a) (tE Pg cl E d b) σ H Q:=by
 obtain⟨ρ,τ,h,n,s,rs,q⟩:=x.step;refine ev.then s rs (show Post cl ρ H E ((evs Pg n d (.x c) τ h).bind fun r h=>r.toW fun w=>w.onB (evs Pg n d (.x b) τ h) (evs Pg n d (.x a) τ h)) (VP Q) from q) fun a1 h1 ρ1 H1 b1 s1 p1=>?_;obtain⟨w,rfl,p2⟩:=bK p1;refine⟨w,rfl,fun v rv=>?_⟩
 rcases yg p2 with ⟨rfl,p3⟩ | ⟨rfl,p3⟩
 · cases rv;exact⟨true,rfl,yK ⟨ρ1,τ,h1,n,s1,rs.mono b1.1,p3⟩⟩
 · cases rv;exact⟨false,rfl,yJ ⟨ρ1,τ,h1,n,s1,rs.mono b1.1,p3⟩⟩
theorem GC(n d:Nat)(o:Option Int):sIx n d o=HT.sIx n d o:=by
 cases o with
 | none=>rfl
 | some i=>cases i with
   | ofNat k=>
     show ifB (Nat.ble k n) k n=if(Int.ofNat k)<0 then((Int.ofNat k)+(n:Int)).toNat else min (Int.ofNat k).toNat n;rw[if_neg (by show ¬ (k:Int)<0;omega),ble_eq];show _=min k n
     by_cases c:k<=n
     · rw[decide_eq_true c,Nat.min_eq_left c];rfl
     · rw[decide_eq_false c,Nat.min_eq_right (by omega)];rfl
   | negSucc k=>
     show n - (k+1)=if(Int.negSucc k)<0 then((Int.negSucc k)+(n:Int)).toNat else min (Int.negSucc k).toNat n;rw[if_pos (by omega)];omega
def tO(o:Option Ev.X)(Pg:List Fn)(cl:Cn)(E:XK)(d:Nat):TO:=match o with
 | none=>QD
 | some e=>Sy (tE Pg cl E d e)
theorem Cy:PO X none (tO none Pg cl E d):=Ih
theorem Cz{e:Expr}{x:Ev.X}(h:PE X e (tE Pg cl E d x)):PO X (some e) (tO (some x) Pg cl E d):=Cm h
theorem Q6{e:Option Ev.X}{ρ:List Addr}{τ:Sg}{h:Hs}{n:Nat}{k:Option Int->Hs->R A}{P:A->Hs->List Addr->Hp->Prop}{Q:Option Int->Hp->Prop}(s:Sim cl ρ h H)(rs:RS ρ τ σ)(p:Post cl ρ H E (Eo (bz Pg d) n e τ h k) P)
 (g:∀ i h1 ρ1 H1,Bt cl ρ H ρ1 H1->Sim cl ρ1 h1 H1->Post cl ρ1 H1 E (k i h1) P->Q i H1):tO e Pg cl E d σ H Q:=by
 cases e with
 | none=>exact g none h ρ H Bt.refl s p
 | some e=>
   refine ev.then s rs (show Post cl ρ H E ((evs Pg n d (.x e) τ h).bind fun a h=>a.toW fun w=>w.onI fun i=>k (some i) h) P from p) fun a1 h1 ρ1 H1 b1 s1 p1=>?_;obtain⟨w,rfl,p2⟩:=bK p1;obtain⟨i,rfl,p3⟩:=qU p2;refine⟨_,rfl,fun v rv=>?_⟩;cases rv;exact⟨i,rfl,g (some i) h1 ρ1 H1 b1 s1 p3⟩
def adi(K:aq):V->Option Int->Option Int->Hp->VK->Prop:=fun x lo hi H Q=>acp K x lo hi H Q\/acf K x lo hi H Q
theorem YH{K:aq}{a:Ev.X}{lo hi:Option Ev.X}{Q:VK}(x:tE Pg cl E d (.slice a lo hi) σ H Q):tSl (adi K) (tE Pg cl E d a) (tO lo Pg cl E d) (tO hi Pg cl E d) σ H Q:=by
 obtain⟨ρ,τ,h,n,s,rs,z⟩:=x.step
 refine ev.then s rs (show Post cl ρ H E ((evs Pg n d (.x a) τ h).bind fun r h=>r.toW fun w=>Eo (bz Pg d) n lo τ h fun l h=>Eo (bz Pg d) n hi τ h fun u h=>h.at w fun _ o=>
  O.rec (fun xs=>ifB (ifB (Nat.beq (sIx (len xs) 0 l) 0) (Nat.beq (sIx (len xs) (len xs) u) (len xs)) false) .no (ofW (.alloc h (.tup (tak (drp xs (sIx (len xs) 0 l)) (sIx (len xs) (len xs) u - sIx (len xs) 0 l)))))) (fun xs=>ofW (.alloc h (.lst (tak (drp xs (sIx (len xs) 0 l)) (sIx (len xs) (len xs) u - sIx (len xs) 0 l))))) (fun _ _=>.no) (fun _=>.no) (fun _=>.no) (fun _=>.no) o) (VP Q) from z) fun a1 h1 ρ1 H1 b1 s1 p1=>?_
 obtain⟨w,rfl,p2⟩:=bK p1;refine⟨w,rfl,fun v rv=>?_⟩;refine Q6 s1 (rs.mono b1.1) p2 fun l h2 ρ2 H2 b2 s2 p3=>?_;refine Q6 s2 ((rs.mono b1.1).mono b2.1) p3 fun u h3 ρ3 H3 b3 s3 p4=>?_;obtain⟨k,o,ad,_,rfl,e1,g1,x1,p5⟩:=at_of s3 (rv.mono (b2.1.trans b3.1)) p4
 cases o with
 | lst xs=>
   obtain⟨vs,ru,q⟩:=x1;have p6:Post cl ρ3 H3 E (ofW (.alloc h3 (.lst (tak (drp xs (sIx (len xs) 0 l)) (sIx (len xs) (len xs) u - sIx (len xs) 0 l))))) (VP Q):=p5;rw[M9,M8,len_eq,GC,GC,ru.length]at p6
   exact .inl ⟨ad,vs,rfl,SqL.of q,fun p hp=>Post.newL s3 p6 hp ((ru.drop _).take _)⟩
 | tup xs=>
   obtain⟨vs,ru,q⟩:=x1;have p6:Post cl ρ3 H3 E (ifB (ifB (Nat.beq (sIx (len xs) 0 l) 0) (Nat.beq (sIx (len xs) (len xs) u) (len xs)) false) .no (ofW (.alloc h3 (.tup (tak (drp xs (sIx (len xs) 0 l)) (sIx (len xs) (len xs) u - sIx (len xs) 0 l)))))) (VP Q):=p5;rw[M9,M8,len_eq,GC,GC,ru.length]at p6;refine .inr ⟨ad,vs,rfl,SqT.of q,?_,fun p hp=>?_⟩
   · rintro⟨c1,c2⟩;rw[jB.mpr c1,jB.mpr c2]at p6;exact p6.elim
   · cases c:ifB (Nat.beq (HT.sIx vs.length 0 l) 0) (Nat.beq (HT.sIx vs.length vs.length u) vs.length) false with
     | true=>rw[c]at p6;exact p6.elim
     | false=>rw[c]at p6;exact Post.ac3 s3 p6 hp ((ru.drop _).take _)
 | _=>exact p5.elim
theorem yQ{e:Expr}{lo hi:Option Expr}{x:Ev.X}{xl xh:Option Ev.X}{pos p2:Pos}(he:PE X e (tE Pg cl E d x))(hl:PO X lo (tO xl Pg cl E d))(hh:PO X hi (tO xh Pg cl E d)):PE X (.Subscript e (.Slice lo hi none p2) pos) (tE Pg cl E d (.slice x xl xh)):=
 PE.of (Ej (Ij.or acg) he hl hh) fun _ _ _ q=>YH q
theorem dY{a b:Expr}{x y:Ev.X}{pos:Pos}(ha:PE X a (tE Pg cl E d x))(hb:PE X b (tE Pg cl E d y))(hs:xZ b:=by exact fun _ _=>rfl):PE X (.Subscript a b pos) (tE Pg cl E d (.pr .ix [x,y])):=
 PE.of (yI Vs ha hb hs) fun _ _ _ q=>t6 ac9 q
theorem cL{es:List Expr}{xs:List Ev.X}{x1 pos}(h:PA X es (tA Pg cl E d xs)):PE X (.Tuple es x1 pos) (tE Pg cl E d (.pr .tup xs)):=PE.of (Gb h) fun _ _ _ q=>Ir aeN q
theorem cZ{es:List Expr}{xs:List Ev.X}{pos}(h:PA X es (tA Pg cl E d xs)):PE X (.List es pos) (tE Pg cl E d (.pr .lst xs)):=PE.of (xX h) fun _ _ _ q=>Ir aeO q
theorem Q7{K:aq}{p:Pr}{r:V->List V->Hp->VK->Prop}(o:OpM cl p r){a:Ev.X}{as:List Ev.X}{Q:VK}(x:tE Pg cl E d (.lm p a as) σ H Q):tBM K "list" r (tE Pg cl E d a) (tA Pg cl E d as) σ H Q:=by
 obtain⟨ρ,τ,h,n,s,rs,q⟩:=x.step;refine ev.then s rs (show Post cl ρ H E ((evs Pg n d (.x a) τ h).bind fun r h=>r.toW fun w=>h.at w fun _ o=>o.onL fun _=>(evs Pg n d (.a as) τ h).bind fun r h=>r.toL fun ws=>ofW (lX p (w::ws) h)) (VP Q) from q) fun a1 h1 ρ1 H1 b1 s1 p1=>?_;obtain⟨w1,rfl,p2⟩:=bK p1;refine⟨w1,rfl,fun v1 rv1=>?_⟩;obtain⟨k,ob,ad,rfl,rfl,e1,g1,x1,p3⟩:=at_of s1 rv1 p2;obtain⟨xs,rfl,p4⟩:=Gu p3;obtain⟨vs,ru,qh⟩:=x1;refine⟨.inl ⟨rfl,_,SqL.of qh⟩,?_⟩;refine ev.then s1 (rs.mono b1.1) p4 fun a2 h2 ρ2 H2 b2 s2 p5=>?_;obtain⟨ws,rfl,p6⟩:=mG p5;exact⟨ws,rfl,fun us ru'=>o E ρ2 h2 H2 _ _ ws us Q s2 (rv1.mono b2.1) ru' p6⟩
theorem YJ{K:aq}{p:Pr}{r:V->List V->Hp->VK->Prop}(o:OpM cl p r){a:Ev.X}{Q:VK}(x:tE Pg cl E d (.lm p a []) σ H Q):acr K "list" r (tE Pg cl E d a) σ H Q:=by
 obtain⟨ρ,τ,h,n,s,rs,q⟩:=Q7 (K:=K) o x;refine⟨ρ,τ,h,n,s,rs,q.mono fun a h ρ H _ _ ⟨w,e,g⟩=>⟨w,e,fun v rv=>?_⟩⟩;obtain⟨ty,z⟩:=g v rv;refine⟨ty,?_⟩;obtain⟨ρ1,τ1,h1,n1,s1,_,p1⟩:=z.step;obtain⟨ws,e,q⟩:=Post.now s1 (show Post cl ρ1 H E (.ok (.ws []) h1) (LP _) from p1);cases e;exact q [] .nil
theorem sX{p:Pr}{r:V->List V->Hp->VK->Prop}{o e:Expr}{es:List Expr}{x y:Ev.X}{ys:List Ev.X}{name:Str}{id:String}{apos cpos:Pos}(z:OpM cl p r)(slot:Slot "list" name id)(hty:typeOf (.builtin id)=pure (.type "method_descriptor"))(hm:MtM X id r)
 (ho:PE X o (tE Pg cl E d x)) (ha:PA X (e::es) (tA Pg cl E d (y::ys))) (hbase:attributeBase o name X.env (eval o X.env)=eval o X.env:=by rfl)
 (hfew:((backTo cpos (starEach (e::es) X.env)).all (fun x=> !x.1)&&(backToKw cpos (keywordEach [] X.env)).all (fun x=>x.1.isSome)
   && decide ((e::es).length+([]:List Keyword).length+(if([]:List Keyword).isEmpty then 0 else 1)<30))=true:=by rfl)
 (hline:(apos.endLine==cpos.line)=true:=by rfl) (hs:starEach (e::es) X.env=(false,eval e X.env)::starEach es X.env:=by rfl) (hplain:(backTo cpos (starEach es X.env)).any (·.1)=false:=by rfl):
 PE X (.Call (.Attribute o name apos) (e::es) [] cpos) (tE Pg cl E d (.lm p x (y::ys))):=PE.of (Lr PySem.F.plainAttrs_list slot hty hm ho ha hbase hfew hline hs hplain) fun _ _ _ q=>Q7 z q
theorem adk{p:Pr}{r:V->List V->Hp->VK->Prop}{o:Expr}{x:Ev.X}{name:Str}{id:String}{apos cpos:Pos}(z:OpM cl p r)(slot:Slot "list" name id)(hty:typeOf (.builtin id)=pure (.type "method_descriptor"))(hm:MtM X id r)
 (ho:PE X o (tE Pg cl E d x)) (hbase:attributeBase o name X.env (eval o X.env)=eval o X.env:=by rfl) (hline:(apos.endLine==cpos.line)=true:=by rfl):
 PE X (.Call (.Attribute o name apos) [] [] cpos) (tE Pg cl E d (.lm p x [])):=PE.of (acs PySem.F.plainAttrs_list slot hty hm ho hbase hline) fun _ _ _ q=>YJ z q
theorem b_{p:Pr}{r:List V->Hp->VK->Prop}{x:Str}{e:Expr}{es:List Expr}{y:Ev.X}{ys:List Ev.X}{id:String}{pos q:Pos}(z:OpN cl p r)(hc:lV X (.builtin id) r)(hg:Gl X x)(hm:X.mg x=none)(hv:bootBuiltins x=some (.builtin id))(ha:PA X (e::es) (tA Pg cl E d (y::ys)))(hn:x ≠ "__name__":=by decide)(hdb:(x==("__debug__":Str))=false:=by decide)
 (he:starEach (e::es) X.env=(false,eval e X.env)::starEach es X.env:=by rfl) (hpl:(backTo pos (starEach es X.env)).any (·.1)=false:=by rfl):PE X (.Call (.Name x q) (e::es) [] pos) (tE Pg cl E d (.pr p (y::ys))):=
 PE.of (nU hc hg hm hv ha hn hdb he hpl) fun _ _ _ q=>Ir z q
theorem We{p:Pr}{r:List V->Hp->VK->Prop}{x:Str}{e:Expr}{es:List Expr}{y:Ev.X}{ys:List Ev.X}{T:String}{pos q:Pos}(z:OpN cl p r)(hc:lV X (.type T) r)(hg:Gl X x)(hm:X.mg x=none)(hv:bootBuiltins x=some (.type T))(ha:PA X (e::es) (tA Pg cl E d (y::ys)))(hn:x ≠ "__name__":=by decide)(hdb:(x==("__debug__":Str))=false:=by decide)
 (he:starEach (e::es) X.env=(false,eval e X.env)::starEach es X.env:=by rfl) (hpl:(backTo pos (starEach es X.env)).any (·.1)=false:=by rfl):PE X (.Call (.Name x q) (e::es) [] pos) (tE Pg cl E d (.pr p (y::ys))):=
 PE.of (wG hc hg hm hv ha hn hdb he hpl) fun _ _ _ q=>Ir z q
end
section
mutual
def vars:Tg->List Nat
 | .nm i=>[i]
 | .tup ts=>yR ts
def yR:List Tg->List Nat
 | []=>[]
 | t::ts=>vars t++yR ts
end
def Off(vs:List Nat)(σ σ':L2.St):Prop:=σ'.length=σ.length/\∀ i,i ∉ vs->σ'[i]? =σ[i]?
theorem Off.refl{vs:List Nat}{σ:L2.St}:Off vs σ σ:=⟨rfl,fun _ _=>rfl⟩
theorem Off.trans{vs us:List Nat}{σ σ' adl:L2.St}(a:Off vs σ σ')(b:Off us σ' adl):Off (vs++us) σ adl:=⟨b.1.trans a.1,fun i hi=>by
 rw[List.mem_append]at hi
 exact(b.2 i fun z=>hi (.inr z)).trans (a.2 i fun z=>hi (.inl z))⟩
def tG(cl:Cn)(t:Tg):TG:=fun v σ H Q=>∃ ρ h w τ n τ',Sim cl ρ h H/\RW ρ w v/\RS ρ τ σ/\bf h n t w τ=some τ'/\∀ σ',RS ρ τ' σ'->Off (vars t) σ σ'->Q σ' H
def tGs(cl:Cn)(ts:List Tg):TGs:=fun vs σ H Q=>∃ ρ h ws τ n τ',Sim cl ρ h H/\RWs ρ ws vs/\RS ρ τ σ/\bindL (bf h n) ts ws τ=some τ'/\∀ σ',RS ρ τ' σ'->Off (yR ts) σ σ'->Q σ' H
variable{Pg:List Fn}{cl:Cn}{E:XK}{d:Nat}{X:Cx}{σ:L2.St}{H:Hp}
theorem PG.of{e:Expr}{t t':TG}(h:PG X e t)(f:∀ v σ H Q,t' v σ H Q->t v σ H Q):PG X e t':=fun pins s σ H v u Q I r q=>h pins s σ H v u Q I r (f v σ H Q q)
theorem PGs.of{e:List Expr}{t t':TGs}(h:PGs X e t)(f:∀ v σ H Q,t' v σ H Q->t v σ H Q):PGs X e t':=fun pins s σ H v u Q I r q=>h pins s σ H v u Q I r (f v σ H Q q)
theorem yS{i:Nat}{v:V}{Q:L2.St->Hp->Prop}(x:tG cl (.nm i) v σ H Q):Lk i v σ H Q:=by
 obtain⟨ρ,h,w,τ,n,τ',s,r,rs,e,q⟩:=x
 cases n with
 | zero=>cases e
 | succ n=>
   have e:some (setAt τ (some w) i)=some τ':=e;cases e;refine q _ (rs.set r i) ⟨List.length_set,fun j hj=>?_⟩;have ne:i ≠ j:=fun z=>hj (by simp[vars,z]);rw[List.getElem?_set_ne ne]
theorem aaY{i:Nat}{x:Str}{pos:Pos}(hN:X.N.Nodup)(hi:X.N[i]? =some x)(hx:Loc X.env.scope x)(hf:X.fn x=true\/X.env.scope.names.lookup x=some .local:=by first | exact .inl rfl | exact .inr rfl | assumption):PG X (.Name x pos) (tG cl (.nm i)):=PG.of (rP hN hi hx hf) fun _ _ _ _ q=>yS q
theorem cI:PGs X [] (tGs cl []):=PGs.of aaA fun vs σ H Q x=>by
 obtain⟨ρ,h,ws,τ,n,τ',s,r,rs,e,q⟩:=x
 cases r with
 | nil=>
   have e:some τ=some τ':=e;cases e
   exact⟨rfl,q σ rs Off.refl⟩
 | cons _ _=>cases e
theorem aB{e:Expr}{es:List Expr}{t:Tg}{ts:List Tg}(h1:PG X e (tG cl t))(h2:PGs X es (tGs cl ts))(hs:(assignEach (e::es) X.env).map (·.2)=assign e X.env::(assignEach es X.env).map (·.2):=by rfl):PGs X (e::es) (tGs cl (t::ts)):=
 PGs.of (XJ h1 h2 hs) fun vs σ H Q x=>by
 obtain⟨ρ,h,ws,τ,n,τ',s,r,rs,e,q⟩:=x
 cases r with
 | nil=>cases e
 | @cons w v ws vs r1 rt=>
   have e:Option.rec none (fun τ=>bindL (bf h n) ts ws τ) (bf h n t w τ)=some τ':=e
   cases e1:bf h n t w τ with
   | none=>rw[e1]at e;cases e
   | some τ1=>
     rw[e1]at e;refine⟨v,vs,rfl,ρ,h,w,τ,n,τ1,s,r1,rs,e1,fun σ1 rs1 o1=>?_⟩;exact⟨ρ,h,ws,τ1,n,τ',s,rt,rs1,e,fun σ2 rs2 o2=>q σ2 rs2 (by have:=o1.trans o2;simpa [yR] using this)⟩
theorem dD{es:List Expr}{k:Nat}{ts:List Tg}{n:Nat}{pos:Pos}(hc:X.calm=true)(h:PGs X es (tGs cl ts))(hl:ts.length=n:=by rfl)
 (hn:(assignEach es X.env).length=n:=by rfl) (hst:(assignEach es X.env).findIdx? (·.1)=none:=by rfl):PG X (.Tuple es k pos) (tG cl (.tup ts)):=PG.of (abY hc h hn hst) fun v σ H Q x=>by
 obtain⟨ρ,h,w,τ,m,τ',s,r,rs,e,q⟩:=x
 cases m with
 | zero=>cases e
 | succ m=>
   cases r with
   | @ref j a qa=>
     have e:Option.rec none (fun o=>O.rec (fun xs=>bindL (bf h m) ts xs τ) (fun _=>none) (fun _ _=>none) (fun _=>none) (fun _=>none) (fun _=>none) o) (h.get j)=some τ':=e
     cases hg:h.get j with
     | none=>rw[hg]at e;cases e
     | some o=>
       rw[hg]at e;have x1:=s.at qa hg
       cases o with
       | tup xs=>
         have e:bindL (bf h m) ts xs τ=some τ':=e;obtain⟨vs,rv,qh⟩:=x1
         have len:∀(ts:List Tg) (xs:List W) (τ τ':Sg),bindL (bf h m) ts xs τ=some τ'->xs.length=ts.length:=by
          intro ts
          induction ts with
          | nil=>intro xs τ τ' e;cases xs with
            | nil=>rfl
            | cons _ _=>cases e
          | cons t ts ih=>intro xs τ τ' e;cases xs with
            | nil=>cases e
            | cons y ys=>
              have e:Option.rec none (fun τ=>bindL (bf h m) ts ys τ) (bf h m t y τ)=some τ':=e
              cases e1:bf h m t y τ with
              | none=>rw[e1]at e;cases e
              | some τ1=>rw[e1]at e;exact congrArg (· + 1) (ih ys τ1 τ' e)
         refine⟨a,vs,rfl,SqT.of qh,by rw[<- rv.length,len ts xs τ τ' e,hl],?_⟩
         exact⟨ρ,h,xs,τ,m,τ',s,rv,rs,e,fun σ' rs' o'=>q σ' rs' (by simpa [vars] using o')⟩
       | _=>cases e
   | _=>cases e
theorem J8{α:Type}(τ:Sg)(w:W)(i j:Nat):cD (setAt τ (some w) i) j=none->cD τ j=none/\(j=i->τ.length<=j):=by
 rw[Er,M_,M_];intro h
 by_cases z:i=j
 · subst z
   by_cases l:i<τ.length
   · rw[List.getElem?_set_self l]at h;cases h
   · refine⟨?_,fun _=>Nat.not_lt.mp l⟩;rw[List.getElem?_eq_none (Nat.not_lt.mp l)];rfl
 · rw[List.getElem?_set_ne z]at h;exact⟨h,fun q=>absurd q.symm z⟩
theorem bind_none{h:Hs}:∀(n:Nat) {t:Tg} {w:W} {τ τ':Sg},bf h n t w τ=some τ'->τ'.length=τ.length/\∀ i,cD τ' i=none->cD τ i=none/\(i ∈ vars t->τ.length<=i)
 | 0,_,_,_,_,e=>nomatch e
 | n+1,t,w,τ,τ',e=>by
   have lst:∀(ts:List Tg) (ws:List W) (τ τ':Sg),bindL (bf h n) ts ws τ=some τ'->τ'.length=τ.length/\∀ i,cD τ' i=none->cD τ i=none/\(i ∈ yR ts->τ.length<=i):=by
    intro ts
    induction ts with
    | nil=>
      intro ws τ τ' e
      cases ws with
      | nil=>cases e;exact⟨rfl,fun i hi=>⟨hi,fun z=>by simp[yR]at z⟩⟩
      | cons _ _=>cases e
    | cons t ts ih=>
      intro ws τ τ' e
      cases ws with
      | nil=>cases e
      | cons y ys=>
        have e:Option.rec none (fun τ=>bindL (bf h n) ts ys τ) (bf h n t y τ)=some τ':=e
        cases e1:bf h n t y τ with
        | none=>rw[e1]at e;cases e
        | some τ1=>
          rw[e1]at e;obtain⟨l1,a1⟩:=bind_none n e1;obtain⟨l2,a2⟩:=ih ys τ1 τ' e;refine⟨l2.trans l1,fun i hi=>?_⟩;obtain⟨b1,b2⟩:=a2 i hi;obtain⟨c1,c2⟩:=a1 i b1;refine⟨c1,fun z=>?_⟩;simp only[yR,List.mem_append]at z
          rcases z with z | z
          · exact c2 z
          · rw[<- l1];exact b2 z
   cases t with
   | nm i=>
     have e:some (setAt τ (some w) i)=some τ':=e;cases e;refine⟨by rw[Er,List.length_set],fun j hj=>?_⟩;obtain⟨a,b⟩:=J8 (α:=Unit) τ w i j hj
     exact⟨a,fun z=>b (by simpa [vars] using z)⟩
   | tup ts=>
     cases w with
     | ref k=>
       have e:Option.rec none (fun o=>O.rec (fun xs=>bindL (bf h n) ts xs τ) (fun _=>none) (fun _ _=>none) (fun _=>none) (fun _=>none) (fun _=>none) o) (h.get k)=some τ':=e
       cases hg:h.get k with
       | none=>rw[hg]at e;cases e
       | some o=>
         rw[hg]at e
         cases o with
         | tup xs=>
           obtain⟨a,b⟩:=lst ts xs τ τ' e
           exact⟨a,fun i hi=>by simpa [vars] using b i hi⟩
         | _=>cases e
     | _=>cases e
theorem Q8{h:Hs}{n:Nat}{t:Tg}{w:W}{τ τ':Sg}{ρ:List Addr}{σ σ' σ0:L2.St}(e:bf h n t w τ=some τ')(rs:RS ρ τ σ)(o:Off (vars t) σ σ')(ag:Ag σ0 τ σ):Ag σ0 τ' σ':=fun i hi=>by
 obtain⟨l,a⟩:=bind_none n e;obtain⟨b1,b2⟩:=a i hi;have len:τ.length=σ.length:=Paired.length rs
 by_cases z:i ∈ vars t
 · have h1:=b2 z;rw[<- ag i b1,List.getElem?_eq_none (by rw[o.1];omega),List.getElem?_eq_none (by omega)]
 · rw[o.2 i z];exact ag i b1
section
variable{σ0:L2.St}
theorem GD{t:Tg}{e:Ev.X}{D:Ends}(x:tS Pg cl E d σ0 (.asg t e) D σ H):R1 (tE Pg cl E d e) (tG cl t) D σ H:=by
 obtain⟨ρ,τ,h,n,s,rs,ag,q⟩:=x.step;refine ev.then s rs (show Post cl ρ H E ((evs Pg n d (.x e) τ h).bind fun r h=>r.toW fun w=>Opt (bf h 9 t w τ) fun τ=>.ok (.fl (.nx τ)) h) (SPo σ0 D) from q) fun a1 h1 ρ1 H1 b1 s1 p1=>?_;obtain⟨w,rfl,p2⟩:=bK p1;obtain⟨τ',e1,p3⟩:=jU p2;refine⟨w,rfl,fun v rv=>⟨ρ1,h1,w,τ,9,τ',s1,rv,rs.mono b1.1,e1,fun σ' rs' o1=>?_⟩⟩;obtain⟨f,ef,qf⟩:=p3.now s1;cases ef;exact qf σ' rs' (Q8 e1 rs o1 ag)
theorem Wf{i:Nat}{x:Str}{e:Expr}{y:Ev.X}{pos pos':Pos}(hN:X.N.Nodup)(hi:X.N[i]? =some x)(hx:Loc X.env.scope x)(he:PE X e (tE Pg cl E d y))(hs:swapsWith e (some (.Name x pos')) pos.line X.env=pure false:=by rfl)(hf:X.fn x=true\/X.env.scope.names.lookup x=some .local:=by first | exact .inl rfl | exact .inr rfl | assumption):
 PS X (.Assign [.Name x pos'] e pos) (tS Pg cl E d σ0 (.asg (.nm i) y)):=PS.of (qQ hN hi hx he hs hf) fun D σ H q=>by
 obtain⟨ρ,τ,h,n,s,rs,p⟩:=GD q;exact⟨ρ,τ,h,n,s,rs,p.mono fun a h ρ H _ _ ⟨w,e,g⟩=>⟨w,e,fun v rv=>yS (g v rv)⟩⟩
theorem qY{tg e:Expr}{t:Tg}{y:Ev.X}{pos:Pos}(he:PE X e (tE Pg cl E d y))(hg:PG X tg (tG cl t))(hs:swapsWithSole [tg] e pos.line X.env=pure false:=by rfl)(hw:swappedStores [tg] e X.env=pure none:=by rfl)
 (h1:(assignEach [tg] X.env).map (·.2)= [assign tg X.env]:=by rfl):PS X (.Assign [tg] e pos) (tS Pg cl E d σ0 (.asg t y)):=PS.of (abZ he hg hs hw h1) fun _ _ _ q=>GD q
theorem gn{e:Expr}{y:Ev.X}{pos:Pos}(he:PE X e (tE Pg cl E d y))(hs:swapsWith e none pos.line X.env=pure false:=by rfl):PS X (.Expr e pos) (tS Pg cl E d σ0 (.expr y)):=PS.of (jH he hs) fun D σ H x=>by
 obtain⟨ρ,τ,h,n,s,rs,ag,q⟩:=x.step;refine ev.then s rs (show Post cl ρ H E ((evs Pg n d (.x y) τ h).bind fun r h=>r.toW fun _=>.ok (.fl (.nx τ)) h) (SPo σ0 D) from q) fun a1 h1 ρ1 H1 b1 s1 p1=>?_;obtain⟨w,rfl,p2⟩:=bK p1;refine⟨w,rfl,fun v rv=>?_⟩;obtain⟨f,ef,qf⟩:=p2.now s1;cases ef;exact qf σ (rs.mono b1.1) ag
theorem aX{e:Expr}{y:Ev.X}{pos:Pos}(he:PE X e (tE Pg cl E d y)):PS X (.Return (some e) pos) (tS Pg cl E d σ0 (.ret y)):=PS.of (pL he) fun D σ H x=>by
 obtain⟨ρ,τ,h,n,s,rs,ag,q⟩:=x.step;refine ev.then s rs (show Post cl ρ H E ((evs Pg n d (.x y) τ h).bind fun r h=>r.toW fun w=>.ok (.fl (.rt w)) h) (SPo σ0 D) from q) fun a1 h1 ρ1 H1 b1 s1 p1=>?_;obtain⟨w,rfl,p2⟩:=bK p1;obtain⟨f,ef,qf⟩:=p2.now s1;cases ef;exact⟨w,rfl,qf⟩
theorem cQ{c:Expr}{a b:List Stmt}{x:Ev.X}{sa sb:List S}{pos:Pos}(hc:PT X c (tT Pg cl E d x))(ha:PSs X a (tSs Pg cl E d σ0 sa))(hb:PSs X b (tSs Pg cl E d σ0 sb)):PS X (.If c a b pos) (tS Pg cl E d σ0 (.ife x sa sb)):=PS.of (Ci hc ha hb) fun D σ H z=>by
 obtain⟨ρ,τ,h,n,s,rs,ag,q⟩:=z.step;refine ev.then s rs (show Post cl ρ H E ((evs Pg n d (.x x) τ h).bind fun r h=>r.toW fun w=>w.onB (evs Pg n d (.ss sb) τ h) (evs Pg n d (.ss sa) τ h)) (SPo σ0 D) from q) fun a1 h1 ρ1 H1 b1 s1 p1=>?_;obtain⟨w,rfl,p2⟩:=bK p1;refine⟨w,rfl,fun v rv=>?_⟩
 rcases yg p2 with ⟨rfl,p3⟩ | ⟨rfl,p3⟩
 · cases rv;exact⟨true,rfl,yK ⟨ρ1,τ,h1,n,s1,rs.mono b1.1,ag,p3⟩⟩
 · cases rv;exact⟨false,rfl,yJ ⟨ρ1,τ,h1,n,s1,rs.mono b1.1,ag,p3⟩⟩
theorem Qe{pos:Pos}:PS X (.Continue pos) (tS Pg cl E d σ0 .ct):=PS.of P0 fun D σ H x=>by
 obtain⟨ρ,τ,h,n,s,rs,ag,q⟩:=x.step;obtain⟨f,ef,qf⟩:=Post.now s (show Post cl ρ H E (.ok (.fl (.ct τ)) h) (SPo σ0 D) from q);cases ef;exact qf σ rs ag
theorem ao:PSs X [] (tSs Pg cl E d σ0 []):=PSs.of xW fun D σ H x=>by
 obtain⟨ρ,τ,h,n,s,rs,ag,q⟩:=x.step;obtain⟨f,ef,qf⟩:=Post.now s (show Post cl ρ H E (.ok (.fl (.nx τ)) h) (SPo σ0 D) from q);cases ef;exact qf σ rs ag
theorem aa{st:Stmt}{rest:List Stmt}{a:S}{as:List S}(h1:PS X st (tS Pg cl E d σ0 a))(h2:PSs X rest (tSs Pg cl E d σ0 as)):PSs X (st::rest) (tSs Pg cl E d σ0 (a::as)):=PSs.of (cX h1 h2) fun D σ H x=>by
 obtain⟨ρ,τ,h,n,s,rs,ag,q⟩:=x.step;refine evS.then s rs ag (show Post cl ρ H E ((evs Pg n d (.s a) τ h).bind fun r h=>r.toF fun f=>Fl.rec (fun τ=>evs Pg n d (.ss as) τ h) (fun w=>.ok (.fl (.rt w)) h) (fun τ=>.ok (.fl (.bk τ)) h) (fun τ=>.ok (.fl (.ct τ)) h) f) (SPo σ0 D) from q) fun a1 h1 ρ1 H1 b1 s1 p1=>?_;obtain⟨f,rfl,p2⟩:=Gs p1;refine⟨f,rfl,?_⟩
 cases f with
 | nx τ1=>exact fun σ1 rs1 ag1=>⟨ρ1,τ1,h1,n,s1,rs1,ag1,p2⟩
 | rt w=>
   obtain⟨f,ef,qf⟩:=Post.now s1 (show Post cl ρ1 H1 E (.ok (.fl (.rt w)) h1) (SPo σ0 D) from p2)
   cases ef;exact qf
 | bk τ1=>
   obtain⟨f,ef,qf⟩:=Post.now s1 (show Post cl ρ1 H1 E (.ok (.fl (.bk τ1)) h1) (SPo σ0 D) from p2)
   cases ef;exact qf
 | ct τ1=>
   obtain⟨f,ef,qf⟩:=Post.now s1 (show Post cl ρ1 H1 E (.ok (.fl (.ct τ1)) h1) (SPo σ0 D) from p2);cases ef;exact qf
end
inductive nD (K:aq)(ρ:List Addr):Iv->It->Prop
 | lst {n a}:ρ[n]? =some a->nD K ρ (.lst n) (Itl K a)
 | tup {n a}:ρ[n]? =some a->nD K ρ (.tup n) (Itt K a)
 | rng (lo n):nD K ρ (.rng lo n) (Itr lo n)
 | zip {n m a b}:ρ[n]? =some a->ρ[m]? =some b->nD K ρ (.zip n m) (Itz K a b)
 | dwn (lo n):nD K ρ (.dwn lo n) (Itd lo n)
 | enu {n a}:ρ[n]? =some a->nD K ρ (.enu n) (Ite K a)
theorem nD.mono{K:aq}{ρ ρ':List Addr}(e:ρ <+:ρ'){v:Iv}{J:It}(x:nD K ρ v J):nD K ρ' v J:=by
 cases x with
 | lst h=>exact .lst (iI e h)
 | tup h=>exact .tup (iI e h)
 | rng lo n=>exact .rng lo n
 | zip h h'=>exact .zip (iI e h) (iI e h')
 | dwn lo n=>exact .dwn lo n
 | enu h=>exact .enu (iI e h)
theorem Q9{K:aq}{ρ:List Addr}{h:Hs}{v:Iv}{J:It}{i:Nat}{fin:R A}{go:W->Hs->R A}{P:A->Hs->List Addr->Hp->Prop}(s:Sim cl ρ h H)(x:nD K ρ v J)(p:Post cl ρ H E (v.next i h fin go) P):
 (J.stop i H/\Post cl ρ H E fin P)\/(J.go i H/\∃ w h',∀ y H',J.yld i H y H'->∃ ρ',Bt cl ρ H ρ' H'/\Sim cl ρ' h' H'/\RW ρ' w y/\Post cl ρ' H' E (go w h') P):=by
 have here:∀ {w:W} {v':V},RW ρ w v'->Post cl ρ H E (go w h) P->(∀ y H',J.yld i H y H'->H'=H/\y=v')->∃ w h',∀ y H',J.yld i H y H'->∃ ρ',Bt cl ρ H ρ' H'/\Sim cl ρ' h' H'/\RW ρ' w y/\Post cl ρ' H' E (go w h') P:=fun {w v'} rw p f=>⟨w,h,fun y H' z=>by
  obtain⟨rfl,rfl⟩:=f y H' z
  exact⟨ρ,Bt.refl,s,rw,p⟩⟩
 cases x with
 | @lst n a e=>
   obtain⟨o,ho,p1⟩:=jU (show Post cl ρ H E (Opt (h.get n) fun o=>o.onS fun xs=>Option.rec fin (fun w=>go w h) (nth xs i)) P from p);have x1:=s.at e ho
   cases o with
   | lst xs=>
     obtain⟨vs,rv,q⟩:=x1;have p2:Post cl ρ H E (Option.rec fin (fun w=>go w h) (nth xs i)) P:=p1;rw[mF]at p2;have hl:=rv.length
     cases hx:xs[i]? with
     | none=>
       rw[hx]at p2
       exact .inl ⟨⟨vs,SqL.of q,by have:=List.getElem?_eq_none_iff.mp hx;omega⟩,p2⟩
     | some w=>
       rw[hx]at p2;obtain⟨v',ev,rw⟩:=rv.get hx
       exact .inr ⟨⟨vs,v',SqL.of q,ev⟩,here rw p2 fun y H' z=>⟨z.1,by
        have:=z.2 vs (SqL.of q);rw[ev]at this
        exact(Option.some.inj this).symm⟩⟩
   | _=>exact p1.elim
 | @tup n a e=>
   obtain⟨o,ho,p1⟩:=jU (show Post cl ρ H E (Opt (h.get n) fun o=>o.onT fun xs=>Option.rec fin (fun w=>go w h) (nth xs i)) P from p);have x1:=s.at e ho
   cases o with
   | tup xs=>
     obtain⟨vs,rv,q⟩:=x1;have p2:Post cl ρ H E (Option.rec fin (fun w=>go w h) (nth xs i)) P:=p1;rw[mF]at p2;have hl:=rv.length
     cases hx:xs[i]? with
     | none=>
       rw[hx]at p2
       exact .inl ⟨⟨vs,SqT.of q,by have:=List.getElem?_eq_none_iff.mp hx;omega⟩,p2⟩
     | some w=>
       rw[hx]at p2;obtain⟨v',ev,rw⟩:=rv.get hx
       exact .inr ⟨⟨vs,v',SqT.of q,ev⟩,here rw p2 fun y H' z=>⟨z.1,by
        have:=z.2 vs (SqT.of q);rw[ev]at this
        exact(Option.some.inj this).symm⟩⟩
   | _=>exact p1.elim
 | rng lo n=>
   have p1:Post cl ρ H E (Bool.rec fin (go (.int (lo + .ofNat i)) h) (Nat.ble (i+1) n)) P:=p;rw[ble_eq]at p1
   by_cases c:i+1<=n
   · rw[decide_eq_true c]at p1;exact .inr ⟨c,here (.int _) p1 fun y H' z=>z⟩
   · rw[decide_eq_false c]at p1
     exact .inl ⟨by show n<=i;omega,p1⟩
 | dwn lo n=>
   have p1:Post cl ρ H E (Bool.rec fin (go (.int (lo - .ofNat i)) h) (Nat.ble (i+1) n)) P:=p;rw[ble_eq]at p1
   by_cases c:i+1<=n
   · rw[decide_eq_true c]at p1;exact .inr ⟨c,here (.int _) p1 fun y H' z=>z⟩
   · rw[decide_eq_false c]at p1
     exact .inl ⟨by show n<=i;omega,p1⟩
 | @enu n a ea=>
   obtain⟨o,ho,p1⟩:=jU (show Post cl ρ H E (Opt (h.get n) fun o=>o.onS fun xs=>Option.rec fin (fun x=>go (.ref h.n) (h.push (.tup [.int (.ofNat i),x]))) (nth xs i)) P from p);have x1:=s.at ea ho
   cases o with
   | lst xs=>
     obtain⟨vs,rv,q⟩:=x1;have p3:Post cl ρ H E (Option.rec fin (fun x=>go (.ref h.n) (h.push (.tup [.int (.ofNat i),x]))) (nth xs i)) P:=p1;rw[mF]at p3;have hl:=rv.length
     cases hx:xs[i]? with
     | none=>
       rw[hx]at p3
       exact .inl ⟨⟨vs,SqL.of q,by have:=List.getElem?_eq_none_iff.mp hx;omega⟩,p3⟩
     | some x=>
       rw[hx]at p3;obtain⟨x',ex,rx⟩:=rv.get hx;refine .inr ⟨⟨vs,x',SqL.of q,ex⟩,.ref h.n,h.push (.tup [.int (.ofNat i),x]),fun v H' ⟨T,x2,hT,hv,hH,f1⟩=>?_⟩;have e1:=f1 vs (SqL.of q);rw[ex]at e1;cases e1;subst hv hH;have pe:=List.prefix_append ρ [T];have s2:Sim cl (ρ ++ [T]) (h.push (.tup [.int (.ofNat i),x])) (upd H T (.tup [.int i,x'])):=s.push hT ⟨[.int i,x'],.cons (.int _) (.cons (rx.mono pe) .nil),aG⟩
       exact⟨ρ ++ [T],Bt.new hT,s2,.ref (by rw[<- s.len,List.getElem?_append_right (az _),Nat.sub_self];rfl),p3.later (Bt.new hT)⟩
   | _=>exact p1.elim
 | @zip n m a b ea eb=>
   obtain⟨o,ho,p1⟩:=jU (show Post cl ρ H E (Opt (h.get n) fun o=>o.onS fun xs=>Opt (h.get m) fun o=>o.onS fun ys=>Option.rec fin (fun x=>Option.rec fin (fun y=>go (.ref h.n) (h.push (.tup [x,y]))) (nth ys i)) (nth xs i)) P from p);have x1:=s.at ea ho
   cases o with
   | lst xs=>
     obtain⟨vs,rv,q⟩:=x1;obtain⟨o2,ho2,p2⟩:=jU (show Post cl ρ H E (Opt (h.get m) fun o=>o.onS fun ys=>Option.rec fin (fun x=>Option.rec fin (fun y=>go (.ref h.n) (h.push (.tup [x,y]))) (nth ys i)) (nth xs i)) P from p1);have x2:=s.at eb ho2
     cases o2 with
     | lst ys=>
       obtain⟨us,ru,q2⟩:=x2;have p3:Post cl ρ H E (Option.rec fin (fun x=>Option.rec fin (fun y=>go (.ref h.n) (h.push (.tup [x,y]))) (nth ys i)) (nth xs i)) P:=p2;rw[mF,mF]at p3;have hl:=rv.length;have hl2:=ru.length
       cases hx:xs[i]? with
       | none=>
         rw[hx]at p3
         exact .inl ⟨⟨vs,us,SqL.of q,SqL.of q2,.inl (by have:=List.getElem?_eq_none_iff.mp hx;omega)⟩,p3⟩
       | some x=>
         rw[hx]at p3
         cases hy:ys[i]? with
         | none=>
           have p4:Post cl ρ H E (Option.rec fin (fun y=>go (.ref h.n) (h.push (.tup [x,y]))) ys[i]?) P:=p3;rw[hy]at p4
           exact .inl ⟨⟨vs,us,SqL.of q,SqL.of q2,.inr (by have:=List.getElem?_eq_none_iff.mp hy;omega)⟩,p4⟩
         | some y=>
           have p4:Post cl ρ H E (Option.rec fin (fun y=>go (.ref h.n) (h.push (.tup [x,y]))) ys[i]?) P:=p3;rw[hy]at p4;obtain⟨x',ex,rx⟩:=rv.get hx;obtain⟨y',ey,ry⟩:=ru.get hy;refine .inr ⟨⟨vs,us,x',y',SqL.of q,SqL.of q2,ex,ey⟩,.ref h.n,h.push (.tup [x,y]),fun v H' ⟨T,x2,y2,hT,hv,hH,f1,f2⟩=>?_⟩;have e1:=f1 vs (SqL.of q);have e2:=f2 us (SqL.of q2);rw[ex]at e1;rw[ey]at e2;cases e1;cases e2;subst hv hH;have pe:=List.prefix_append ρ [T];have s2:Sim cl (ρ ++ [T]) (h.push (.tup [x,y])) (upd H T (.tup [x',y'])):=s.push hT ⟨[x',y'],.cons (rx.mono pe) (.cons (ry.mono pe) .nil),aG⟩
           exact⟨ρ ++ [T],Bt.new hT,s2,.ref (by rw[<- s.len,List.getElem?_append_right (az _),Nat.sub_self];rfl),p4.later (Bt.new hT)⟩
     | _=>exact p2.elim
   | _=>exact p1.elim
def DI(Pg:List Fn)(cl:Cn)(E:XK)(d:Nat)(K:aq)(i:I)(wi:TI):Prop:=∀(σ:L2.St) (H:Hp) (R:It->Hp->Prop),ev Pg cl E d (.i i) σ H (fun r _ ρ1 H1=>∃ v,r= .iv v/\∀ J,nD K ρ1 v J->R J H1)->wi σ H R
theorem PI.or{tg l:Expr}{w w':TI}(h:PI X tg l w)(h':PI X tg l w'):PI X tg l (fun σ H R=>w σ H R\/w' σ H R):=fun pins s σ H R I q=>q.elim (h pins s σ H R I) (h' pins s σ H R I)
theorem jW{K:aq}{e:Ev.X}:DI Pg cl E d K (.seq e) (fun σ H R=>R5 K (tE Pg cl E d e) σ H R\/XN K (tE Pg cl E d e) σ H R):=fun σ H R x=>by
 obtain⟨ρ,τ,h,n,s,rs,q⟩:=x.step;have q1:Post cl ρ H E ((evs Pg n d (.x e) τ h).bind fun r h=>r.toW fun w=>h.at w fun n o=>(O.casesOn (motive:=fun _=>Ev.R A) o (fun _=>.ok (.iv (.tup n)) h) (fun _=>.ok (.iv (.lst n)) h) (fun _ _=>.no) (fun _=>.no) (fun _=>.no) (fun _=>.no))) (fun r _ ρ1 H1=>∃ v,r= .iv v/\∀ J,nD K ρ1 v J->R J H1):=q;have q2:=q1.bind
 cases er:evs Pg n d (.x e) τ h with
 | no=>rw[er]at q2;exact q2.elim
 | ex C fs h1=>exact .inl ⟨ρ,τ,h,n,s,rs,by rw[er]at q2 ⊢;exact q2⟩
 | ok a h1=>
   rw[er]at q1;have q3:Post cl ρ H E (a.toW fun w=>h1.at w fun n o=>(O.casesOn (motive:=fun _=>Ev.R A) o (fun _=>.ok (.iv (.tup n)) h1) (fun _=>.ok (.iv (.lst n)) h1) (fun _ _=>.no) (fun _=>.no) (fun _=>.no) (fun _=>.no))) (fun r _ ρ1 H1=>∃ v,r= .iv v/\∀ J,nD K ρ1 v J->R J H1):=q1;obtain⟨w,rfl,q4⟩:=bK q3;obtain⟨k,rfl,q5⟩:=V9 q4;obtain⟨o,ho,q6⟩:=jU q5
   cases o with
   | lst xs=>
     refine .inl ⟨ρ,τ,h,n,s,rs,?_⟩;rw[er];intro ρ1 H1 b1 s1;refine⟨_,rfl,fun v rv=>?_⟩
     cases rv with
     | @ref _ a ea=>
       obtain⟨vs,rv,qh⟩:=s1.at ea ho;obtain⟨v,ev,g⟩:=(show Post cl ρ H E (.ok (A.iv (.lst k)) h1) _ from q6) ρ1 H1 b1 s1;cases ev
       exact⟨a,rfl,⟨vs,SqL.of qh⟩,g _ (.lst ea)⟩
   | tup xs=>
     refine .inr ⟨ρ,τ,h,n,s,rs,?_⟩;rw[er];intro ρ1 H1 b1 s1;refine⟨_,rfl,fun v rv=>?_⟩
     cases rv with
     | @ref _ a ea=>
       obtain⟨vs,rv,qh⟩:=s1.at ea ho;obtain⟨v,ev,g⟩:=(show Post cl ρ H E (.ok (A.iv (.tup k)) h1) _ from q6) ρ1 H1 b1 s1;cases ev
       exact⟨a,rfl,⟨vs,SqT.of qh⟩,g _ (.tup ea)⟩
   | _=>exact q6.elim
theorem Av{ρ:List Addr}{H:Hp}{i:Int}{k:R A}{P:A->Hs->List Addr->Hp->Prop}(p:Post cl ρ H E (within i k) P):(-(2 ^ 62)<=i/\i<2 ^ 62)/\Post cl ρ H E k P:=by
 obtain⟨c,p⟩:=gK p;obtain⟨c2,p⟩:=gK p;rw[cN]at c c2;have c:=of_decide_eq_true c;have c2:=of_decide_eq_true c2;exact⟨⟨by omega,by omega⟩,p⟩
theorem Q_{ρ:List Addr}{H:Hp}{ws:List W}{vs:List V}{f:W->R A}{P:A->Hs->List Addr->Hp->Prop}(r:RWs ρ ws vs)(p:Post cl ρ H E (Ep ws f) P):∃ w v,ws= [w]/\vs= [v]/\RW ρ w v/\Post cl ρ H E (f w) P:=by
 cases r with
 | nil=>exact p.elim
 | cons r1 t=>cases t with
   | nil=>exact⟨_,_,rfl,rfl,r1,p⟩
   | cons _ _=>exact p.elim
theorem Ra{ρ:List Addr}{H:Hp}{ws:List W}{vs:List V}{f:W->W->R A}{P:A->Hs->List Addr->Hp->Prop}(r:RWs ρ ws vs)(p:Post cl ρ H E (Io ws f) P):∃ w v w' v',ws= [w,w']/\vs= [v,v']/\RW ρ w v/\RW ρ w' v'/\Post cl ρ H E (f w w') P:=by
 cases r with
 | nil=>exact p.elim
 | cons r1 t=>cases t with
   | nil=>exact p.elim
   | cons r2 t=>cases t with
     | nil=>exact⟨_,_,_,_,rfl,rfl,r1,r2,p⟩
     | cons _ _=>exact p.elim
theorem dg{K:aq}{as:List Ev.X}:DI Pg cl E d K (.fD as) (L2.ZL (tA Pg cl E d as)):=fun σ H R x=>by
 obtain⟨ρ,τ,h,n,s,rs,q⟩:=x.step;refine ev.then s rs (show Post cl ρ H E ((evs Pg n d (.a as) τ h).bind fun r h=>r.toL fun ws=>Ep ws fun w=>w.onI fun j=>within j (.ok (A.iv (.rng 0 j.toNat)) h)) (fun r _ ρ1 H1=>∃ v,r= .iv v/\∀ J,nD K ρ1 v J->R J H1) from q) fun a1 h1 ρ1 H1 b1 s1 p1=>?_;obtain⟨ws,rfl,p2⟩:=mG p1;refine⟨ws,rfl,fun vs rv=>?_⟩;obtain⟨w,v,rfl,rfl,r1,p3⟩:=Q_ rv p2;obtain⟨j,rfl,p4⟩:=qU p3;obtain⟨c,p5⟩:=Av p4;cases r1;obtain⟨v,ev,g⟩:=p5.now s1;cases ev;exact⟨j,rfl,c.1,c.2,g _ (.rng _ _)⟩
theorem Rb{K:aq}{as:List Ev.X}:DI Pg cl E d K (.YD as) (L2.ZM (tA Pg cl E d as)):=fun σ H R x=>by
 obtain⟨ρ,τ,h,n,s,rs,q⟩:=x.step;refine ev.then s rs (show Post cl ρ H E ((evs Pg n d (.a as) τ h).bind fun r h=>r.toL fun ws=>Io ws fun v w=>v.onI fun i=>w.onI fun j=>within i (within j (.ok (A.iv (.rng i (j - i).toNat)) h))) (fun r _ ρ1 H1=>∃ v,r= .iv v/\∀ J,nD K ρ1 v J->R J H1) from q) fun a1 h1 ρ1 H1 b1 s1 p1=>?_;obtain⟨ws,rfl,p2⟩:=mG p1;refine⟨ws,rfl,fun vs rv=>?_⟩;obtain⟨w,v,w',v',rfl,rfl,r1,r2,p3⟩:=Ra rv p2;obtain⟨i,rfl,p4⟩:=qU p3;obtain⟨j,rfl,p5⟩:=qU p4;obtain⟨c,p6⟩:=Av p5;obtain⟨c2,p7⟩:=Av p6;cases r1;cases r2;obtain⟨v,ev,g⟩:=p7.now s1;cases ev;exact⟨i,j,rfl,⟨c.1,c.2,c2.1,c2.2⟩,g _ (.rng _ _)⟩
section
variable{σ0:L2.St}
theorem Wg{K:aq}{as:List Ev.X}:DI Pg cl E d K (.zip as) (L2.acM K (tA Pg cl E d as)):=fun σ H R x=>by
 obtain⟨ρ,τ,h,n,s,rs,q⟩:=x.step;refine ev.then s rs (show Post cl ρ H E ((evs Pg n d (.a as) τ h).bind fun r h=>r.toL fun ws=>Io ws fun v w=>h.at v fun n o=>o.onL fun _=>h.at w fun m o=>o.onL fun _=>.ok (.iv (.zip n m)) h) _ from q) fun a1 h1 ρ1 H1 b1 s1 p1=>?_;obtain⟨ws,rfl,p2⟩:=mG p1;refine⟨ws,rfl,fun vs rv=>?_⟩;obtain⟨u,v,u',v',rfl,rfl,r1,r2,p3⟩:=Ra rv p2;obtain⟨k,o,a,rfl,rfl,ea,ho,x1,p4⟩:=at_of s1 r1 p3;obtain⟨xs,rfl,p5⟩:=Gu p4;obtain⟨k2,o2,b,rfl,rfl,eb,ho2,x2,p6⟩:=at_of s1 r2 p5;obtain⟨ys,rfl,p7⟩:=Gu p6;obtain⟨v,e,f⟩:=p7.now s1;cases e;obtain⟨us,_,q1⟩:=x1;obtain⟨ws,_,q2⟩:=x2;exact⟨a,b,rfl,⟨us,SqL.of q1⟩,⟨ws,SqL.of q2⟩,f _ (.zip ea eb)⟩
theorem Wh{K:aq}{as:List Ev.X}:DI Pg cl E d K (.enu as) (L2.Z2 K (tA Pg cl E d as)):=fun σ H R x=>by
 obtain⟨ρ,τ,h,n,s,rs,q⟩:=x.step;refine ev.then s rs (show Post cl ρ H E ((evs Pg n d (.a as) τ h).bind fun r h=>r.toL fun ws=>Ep ws fun v=>h.at v fun n o=>o.onL fun _=>.ok (.iv (.enu n)) h) _ from q) fun a1 h1 ρ1 H1 b1 s1 p1=>?_;obtain⟨ws,rfl,p2⟩:=mG p1;refine⟨ws,rfl,fun vs rv=>?_⟩;obtain⟨u,u',rfl,rfl,r1,p3⟩:=Q_ rv p2;obtain⟨k,o,a,rfl,rfl,ea,ho,x1,p4⟩:=at_of s1 r1 p3;obtain⟨xs,rfl,p5⟩:=Gu p4;obtain⟨v,e,f⟩:=p5.now s1;cases e;obtain⟨us,_,q1⟩:=x1;exact⟨a,rfl,⟨us,SqL.of q1⟩,f _ (.enu ea)⟩
theorem Wi{ρ:List Addr}{H:Hp}{ws:List W}{vs:List V}{f:W->W->W->R A}{P:A->Hs->List Addr->Hp->Prop}(r:RWs ρ ws vs)(p:Post cl ρ H E (M6 ws f) P):∃ a b c a' b' c',ws= [a,b,c]/\vs= [a',b',c']/\RW ρ a a'/\RW ρ b b'/\RW ρ c c'/\Post cl ρ H E (f a b c) P:=by
 cases r with
 | nil=>exact p.elim
 | cons r1 r=>cases r with
   | nil=>exact p.elim
   | cons r2 r=>cases r with
     | nil=>exact p.elim
     | cons r3 r=>cases r with
       | nil=>exact⟨_,_,_,_,_,_,rfl,rfl,r1,r2,r3,p⟩
       | cons _ _=>exact p.elim
theorem aaZ{K:aq}{as:List Ev.X}:DI Pg cl E d K (.acZ as) (L2.Z1 (tA Pg cl E d as)):=fun σ H R x=>by
 obtain⟨ρ,τ,h,n,s,rs,q⟩:=x.step;refine ev.then s rs (show Post cl ρ H E ((evs Pg n d (.a as) τ h).bind fun r h=>r.toL fun ws=>M6 ws fun u v w=>u.onI fun i=>v.onI fun j=>w.onI fun k=>ifB (ieq k (-1)) (within i (within j (.ok (.iv (.dwn i (i - j).toNat)) h))) .no) _ from q) fun a1 h1 ρ1 H1 b1 s1 p1=>?_;obtain⟨ws,rfl,p2⟩:=mG p1;refine⟨ws,rfl,fun vs rv=>?_⟩;obtain⟨u,v,w,u',v',w',rfl,rfl,r1,r2,r3,p3⟩:=Wi rv p2;obtain⟨i,rfl,p4⟩:=qU p3;obtain⟨j,rfl,p5⟩:=qU p4;obtain⟨k,rfl,p6⟩:=qU p5;obtain⟨ek,p7⟩:=gK p6;cases r1;cases r2;cases r3;unfold within at p7;obtain⟨c1,p8⟩:=gK p7;obtain⟨c2,p9⟩:=gK p8;obtain⟨c3,p10⟩:=gK p9;obtain⟨c4,p11⟩:=gK p10;rw[cN]at c1 c2 c3 c4;rw[eX]at ek;have ek:k= -1:=of_decide_eq_true ek;have c1:=of_decide_eq_true c1;have c2:=of_decide_eq_true c2;have c3:=of_decide_eq_true c3;have c4:=of_decide_eq_true c4;subst ek;obtain⟨v,e,f⟩:=p11.now s1;cases e;exact⟨i,j,rfl,⟨by omega,by omega,by omega,by omega⟩,f _ (.dwn i (i - j).toNat)⟩
theorem adm{K:aq}{i:I}{t:Tg}{b:List S}{wi:TI}{D:Ends}(di:DI Pg cl E d K i wi)(x:tS Pg cl E d σ0 (.for_ i t b) D σ H):ab4 wi (tG cl t) (tSs Pg cl E d σ0 b) D σ H:=by
 obtain⟨ρ,τ,h,n,s,rs,ag,q⟩:=x.step;refine di σ H _ (ev.then s rs (show Post cl ρ H E ((evs Pg n d (.i i) τ h).bind fun r h=>r.toV fun v=>evs Pg n d (.lp v 0 t b) τ h) (SPo σ0 D) from q) fun a1 h1 ρ1 H1 b1 s1 p1=>?_);obtain⟨v,rfl,p2⟩:=Nb p1;refine⟨v,rfl,fun J hJ=>?_⟩;refine⟨fun i m σ H=>∃ ρ τ h,Sim cl ρ h H/\RS ρ τ σ/\Ag σ0 τ σ/\nD K ρ v J/\Post cl ρ H E (evs Pg m d (.lp v i t b) τ h) (SPo σ0 D),⟨n,ρ1,τ,h1,s1,rs.mono b1.1,ag,hJ,p2⟩,?_⟩;rintro i m σ2 H2 ⟨ρ2,τ2,h2,s2,rs2,ag2,j2,p3⟩
 cases m with
 | zero=>exact p3.elim
 | succ m=>
   have p4:Post cl ρ2 H2 E (v.next i h2 (.ok (.fl (.nx τ2)) h2) fun w h2=>Opt (bf h2 9 t w τ2) fun τ=>(evs Pg m d (.ss b) τ h2).bind fun r h=>r.toF fun f=>pZ h f fun τ=>evs Pg m d (.lp v (i+1) t b) τ h) (SPo σ0 D):=p3
   rcases Q9 s2 j2 p4 with ⟨st,p5⟩ | ⟨go,w,h2',yl⟩
   · obtain⟨f,ef,qf⟩:=p5.now s2;cases ef;exact .inl ⟨st,qf σ2 rs2 ag2⟩
   · refine .inr ⟨go,fun σ' H'=>∃ ρ τ h,Sim cl ρ h H'/\RS ρ τ σ'/\Ag σ0 τ σ'/\nD K ρ v J/\Post cl ρ H' E (evs Pg m d (.lp v (i+1) t b) τ h) (SPo σ0 D),fun σ' H' z=>⟨m,Nat.lt_succ_self m,z⟩,fun y H' yy=>?_⟩;obtain⟨Nk,bb,s2',rw,p5⟩:=yl y H' yy;obtain⟨τ3,e3,p6⟩:=jU p5;have adn:=rs2.mono bb.1;have j2:=j2.mono bb.1;refine⟨Nk,h2',w,τ2,9,τ3,s2',rw,adn,e3,fun σ3 rs3 o3=>?_⟩;refine evS.then s2' rs3 (Q8 e3 adn o3 ag2) p6 fun a4 h4 ρ4 H4 b4 s4 p7=>?_;obtain⟨f,rfl,p8⟩:=Gs p7;refine⟨f,rfl,?_⟩
     cases f with
     | nx τ4=>exact fun σ4 rs4 ag4=>⟨ρ4,τ4,h4,s4,rs4,ag4,j2.mono b4.1,p8⟩
     | ct τ4=>exact fun σ4 rs4 ag4=>⟨ρ4,τ4,h4,s4,rs4,ag4,j2.mono b4.1,p8⟩
     | rt w4=>
       obtain⟨f,ef,qf⟩:=Post.now s4 (show Post cl ρ4 H4 E (.ok (.fl (.rt w4)) h4) (SPo σ0 D) from p8)
       cases ef;exact qf
     | bk τ4=>
       obtain⟨f,ef,qf⟩:=Post.now s4 (show Post cl ρ4 H4 E (.ok (.fl (.nx τ4)) h4) (SPo σ0 D) from p8);cases ef;exact qf
theorem YK{c:Ev.X}{b:List S}{D:Ends}(x:tS Pg cl E d σ0 (.M7 c b) D σ H):Vi (tT Pg cl E d c) (tSs Pg cl E d σ0 b) D σ H:=by
 obtain⟨ρ,τ,h,n,s,rs,ag,q⟩:=x.step;have q:Post cl ρ H E (evs Pg n d (.wh c b) τ h) (SPo σ0 D):=q;refine⟨fun m σ H=>∃ ρ τ h,Sim cl ρ h H/\RS ρ τ σ/\Ag σ0 τ σ/\Post cl ρ H E (evs Pg m d (.wh c b) τ h) (SPo σ0 D),⟨n,ρ,τ,h,s,rs,ag,q⟩,?_⟩;rintro m σ2 H2 ⟨ρ2,τ2,h2,s2,rs2,ag2,p3⟩
 cases m with
 | zero=>exact p3.elim
 | succ m=>
   refine ev.then s2 rs2 (show Post cl ρ2 H2 E ((evs Pg m d (.x c) τ2 h2).bind fun r h=>r.toW fun w=>w.onB (.ok (.fl (.nx τ2)) h) ((evs Pg m d (.ss b) τ2 h).bind fun r h=>r.toF fun f=>pZ h f fun τ=>evs Pg m d (.wh c b) τ h)) (SPo σ0 D) from p3) fun a1 h1 ρ1 H1 b1 s1 p1=>?_;obtain⟨w,rfl,p2⟩:=bK p1;refine⟨w,rfl,fun v rv=>?_⟩
   rcases yg p2 with ⟨rfl,p4⟩ | ⟨rfl,p4⟩
   · cases rv;refine⟨true,rfl,yK ?_⟩;refine⟨fun σ' H'=>∃ ρ τ h,Sim cl ρ h H'/\RS ρ τ σ'/\Ag σ0 τ σ'/\Post cl ρ H' E (evs Pg m d (.wh c b) τ h) (SPo σ0 D),fun σ' H' z=>⟨m,Nat.lt_succ_self m,z⟩,?_⟩;refine evS.then s1 (rs2.mono b1.1) ag2 p4 fun a4 h4 ρ4 H4 b4 s4 p7=>?_;obtain⟨f,rfl,p8⟩:=Gs p7;refine⟨f,rfl,?_⟩
     cases f with
     | nx τ4=>exact fun σ4 rs4 ag4=>⟨ρ4,τ4,h4,s4,rs4,ag4,p8⟩
     | ct τ4=>exact fun σ4 rs4 ag4=>⟨ρ4,τ4,h4,s4,rs4,ag4,p8⟩
     | rt w4=>
       obtain⟨f,ef,qf⟩:=Post.now s4 (show Post cl ρ4 H4 E (.ok (.fl (.rt w4)) h4) (SPo σ0 D) from p8)
       cases ef;exact qf
     | bk τ4=>
       obtain⟨f,ef,qf⟩:=Post.now s4 (show Post cl ρ4 H4 E (.ok (.fl (.nx τ4)) h4) (SPo σ0 D) from p8);cases ef;exact qf
   · cases rv;refine⟨false,rfl,yJ ?_⟩;obtain⟨f,ef,qf⟩:=p4.now s1;cases ef;exact qf σ2 (rs2.mono b1.1) ag2
theorem dF{iter tg:Expr}{body:List Stmt}{wi:TI}{i:I}{t:Tg}{b:List S}{pos:Pos}(hp:PassesOwn (model X.prog X.w) X.A X.env X.xe)(hc:X.calm=true)(di:DI Pg cl E d X.K i wi)(hi:PI X tg iter wi)(hg:PG X tg (tG cl t))(hb:PSs X body (tSs Pg cl E d σ0 b))
 (hs:∀ x,foldedSetIterable iter X.env x=pure x:=by intro _;rfl):PS X (.For tg iter body [] pos) (tS Pg cl E d σ0 (.for_ i t b)):=PS.of (Ai hp hc hi hg hb hs) fun _ _ _ q=>adm di q
theorem YL{c:Expr}{body:List Stmt}{x:Ev.X}{b:List S}{pos:Pos}(hp:PassesOwn (model X.prog X.w) X.A X.env X.xe)(hc:PT X c (tT Pg cl E d x))(hb:PSs X body (tSs Pg cl E d σ0 b)):PS X (.While c body [] pos) (tS Pg cl E d σ0 (.M7 x b)):=PS.of (XM hp hc hb) fun _ _ _ q=>YK q
end
end
section
variable{Pg:List Fn}{cl:Cn}{E:XK}{d:Nat}{X:Cx}{σ:L2.St}{H:Hp}
def tCd(Pg:List Fn)(cl:Cn)(d:Nat):Option Ev.X->TT
 | none=>ZX
 | some c=>tT Pg cl E0 d c
theorem Tp:∀ {σ σ':L2.St},σ'.length=σ.length->(∀(i:Nat) (v:V),σ[i]? =some (some v)->σ'[i]? =some (some v))->Wk σ σ'
 | [],[],_,_=>trivial
 | [],_::_,h,_=>by simp at h
 | _::_,[],h,_=>by simp at h
 | none::r,b::r',h,f=>by
   show Wk r r'
   exact Tp (by simpa using h) fun i v e=>by simpa using f (i+1) v (by simpa using e)
 | some a::r,b::r',h,f=>by
   have hb:=f 0 a rfl;refine⟨by simpa using hb,Tp (by simpa using h) fun i v e=>by simpa using f (i+1) v (by simpa using e)⟩
theorem Off.wk{vs:List Nat}{σ σ':L2.St}(o:Off vs σ σ')(h:∀ i ∈ vs,σ[i]? =some none):Wk σ σ':=Tp o.1 fun i v e=>by
 by_cases hi:i ∈ vs
 · rw[h i hi]at e;cases e
 · rw[o.2 i hi];exact e
def Inn(Pg:List Fn)(cl:Cn)(d:Nat)(e:Ev.X)(D0:Nat)(D:Addr)(m:Option G)(C:L2.St->Prop)(tin:TN):Prop:=∀(σ1:L2.St) (τ1:Sg) (h:Hs) (ρ:List Addr) (H:Hp) (n:Nat) (k:Hs->R A) (P:A->Hs->List Addr->Hp->Prop) (N:Hp->Prop),Sim cl ρ h H->RS ρ τ1 σ1->ρ[D0]? =some D->C σ1->
 Post cl ρ H E0 (inner (bz Pg d) n τ1 h e D0 m k) P->(∀ h' ρ' H',Bt cl ρ H ρ' H'->Sim cl ρ' h' H'->Post cl ρ' H' E0 (k h') P->N H')->tin σ1 H N
theorem Rc{K:aq}{v:Iv}{J:It}{t:Tg}{c:Option Ev.X}{m:Option G}{e:Ev.X}{D0:Nat}{D:Addr}{C:L2.St->Prop}{tin:TN}(hin:Inn Pg cl d e D0 D m C tin){ρ:List Addr}{h:Hs}{τ:Sg}{n:Nat}{P:A->Hs->List Addr->Hp->Prop}{Q:Hp->Prop}
 (s:Sim cl ρ h H) (rs:RS ρ τ σ) (hJ:nD K ρ v J) (hD:ρ[D0]? =some D) (hv:∀ i ∈ vars t,σ[i]? =some none) (hC:∀ σ1,Off (vars t) σ σ1->C σ1) (p:Post cl ρ H E0 (evs Pg n d (.cl v 0 t c m e D0) τ h) P)
 (hQ:∀ r h' ρ' H',Bt cl ρ H ρ' H'->Sim cl ρ' h' H'->P r h' ρ' H'->Q H'):Gk J (tG cl t) (tCd Pg cl d c) tin σ H Q:=by
 refine⟨fun i m' H'=>∃ ρ' h',Bt cl ρ H ρ' H'/\Sim cl ρ' h' H'/\Post cl ρ' H' E0 (evs Pg m' d (.cl v i t c m e D0) τ h') P,⟨n,ρ,h,Bt.refl,s,p⟩,?_⟩;rintro i m' H2 ⟨ρ2,h20,b2,s20,p2⟩
 cases m' with
 | zero=>exact p2.elim
 | succ m'=>
   have p3:Post cl ρ2 H2 E0 (v.next i h20 (.ok .u h20) fun w h2=>Opt (bf h2 9 t w τ) fun τ1=>
    test (bz Pg d) m' τ1 h2 c (fun h=>evs Pg m' d (.cl v (i+1) t c m e D0) τ h) (fun h=>inner (bz Pg d) m' τ1 h e D0 m fun h=>evs Pg m' d (.cl v (i+1) t c m e D0) τ h)) P:=p2
   rcases Q9 s20 (hJ.mono b2.1) p3 with ⟨st,p4⟩ | ⟨go,w,h2,yl⟩
   · exact .inl ⟨st,hQ _ _ _ _ b2 s20 (p4.now s20)⟩
   · refine .inr ⟨go,fun H'=>∃ ρ' h',Bt cl ρ H ρ' H'/\Sim cl ρ' h' H'/\Post cl ρ' H' E0 (evs Pg m' d (.cl v (i+1) t c m e D0) τ h') P,fun H' z=>⟨m',Nat.lt_succ_self m',z⟩,fun y H' yy=>?_⟩;obtain⟨Nk,bb,s2,rw,p4⟩:=yl y H' yy;obtain⟨τ1,e1,p5⟩:=jU p4;have b2:=b2.trans bb;refine⟨Nk,h2,w,τ,9,τ1,s2,rw,rs.mono b2.1,e1,fun σ1 rs1 o1=>⟨o1.wk hv,?_⟩⟩
     have fin:∀ {ρ3:List Addr} {h3:Hs} {H3:Hp},Bt cl Nk H' ρ3 H3->Sim cl ρ3 h3 H3->Post cl ρ3 H3 E0 (inner (bz Pg d) m' τ1 h3 e D0 m fun h=>evs Pg m' d (.cl v (i+1) t c m e D0) τ h) P->
      tin σ1 H3 fun H'=>∃ ρ' h',Bt cl ρ H ρ' H'/\Sim cl ρ' h' H'/\Post cl ρ' H' E0 (evs Pg m' d (.cl v (i+1) t c m e D0) τ h') P:=fun {ρ3 h3 H3} b3 s3 q3=>
      hin σ1 τ1 h3 ρ3 H3 m' _ P _ s3 (rs1.mono b3.1) (iI (b2.1.trans b3.1) hD) (hC σ1 o1) q3 fun h' ρ' H' b' s' q'=>⟨ρ',h',(b2.trans b3).trans b',s',q'⟩
     cases c with
     | none=>exact fin Bt.refl s2 p5
     | some c=>
       refine ev.then s2 rs1 (show Post cl Nk H' E0 ((evs Pg m' d (.x c) τ1 h2).bind fun r h=>r.toW fun w=>w.onB (evs Pg m' d (.cl v (i+1) t (some c) m e D0) τ h) (inner (bz Pg d) m' τ1 h e D0 m fun h=>evs Pg m' d (.cl v (i+1) t (some c) m e D0) τ h)) P from p5) fun a3 h3 ρ3 H3 b3 s3 p6=>?_;obtain⟨w3,rfl,p7⟩:=bK p6;refine⟨w3,rfl,fun v3 rv3=>?_⟩
       rcases yg p7 with ⟨rfl,p8⟩ | ⟨rfl,p8⟩
       · cases rv3;exact⟨true,rfl,yK (fin b3 s3 p8)⟩
       · cases rv3;exact⟨false,rfl,yJ ⟨ρ3,h3,b2.trans b3,s3,p8⟩⟩
theorem Ew{e:Ev.X}{D0:Nat}{D:Addr}{C:L2.St->Prop}:Inn Pg cl d e D0 D none C (Gm D (tE Pg cl E0 d e)):=fun σ1 τ1 h ρ H n k P N s rs hD _ p hN=>by
 refine ev.then s rs (show Post cl ρ H E0 ((evs Pg n d (.x e) τ1 h).bind fun r h=>r.toW fun w=>(ye h (.ref D0) w).bind fun _ h=>k h) P from p) fun a1 h1 ρ1 H1 b1 s1 p1=>?_;obtain⟨w,rfl,p2⟩:=bK p1;refine⟨w,rfl,fun v rv=>?_⟩;have hD1:=iI b1.1 hD;obtain⟨o,ho,x1⟩:=s1.obj D0 D hD1;have e1:ye h1 (.ref D0) w=Opt (h1.get D0) fun o=>o.onL fun xs=>size xs (.ok .non (h1.set D0 (.lst (app xs [w])))):=rfl;rw[e1,ho]at p2
 cases o with
 | lst xs=>
   have p3:Post cl ρ1 H1 E0 ((size xs (.ok .non (h1.set D0 (.lst (app xs [w]))))).bind fun _ h=>k h) P:=p2;unfold size at p3;rw[ble_eq,len_eq]at p3
   by_cases z:xs.length<=16777215
   · rw[decide_eq_true z]at p3;obtain⟨vs,rvs,q⟩:=x1;have hl:=rvs.length;refine⟨vs,q,by rw[oO];omega,?_⟩;have s2:Sim cl ρ1 (h1.set D0 (.lst (app xs [w]))) (upd H1 D (.lst (vs ++ [v]))):=s1.put hD1 ⟨_,by rw[iW];exact rvs.append (.cons rv .nil),aG⟩;refine hN _ ρ1 _ (b1.trans (Bt.put hD1)) s2 ?_;exact(show Post cl ρ1 H1 E0 (k (h1.set D0 (.lst (app xs [w])))) P from p3).later (Bt.put hD1)
   · rw[decide_eq_false z]at p3
     exact p3.elim
 | _=>exact p2.elim
theorem Rf{K:aq}{i2:I}{t2:Tg}{c2:Option Ev.X}{wi2:TI}{e:Ev.X}{D0:Nat}{D:Addr}(di:DI Pg cl E0 d K i2 wi2):Inn Pg cl d e D0 D (some (.mk i2 t2 c2)) (fun σ=>∀ i ∈ vars t2,σ[i]? =some none) (VH wi2 (tG cl t2) (tCd Pg cl d c2) (Gm D (tE Pg cl E0 d e))):=fun σ1 τ1 h ρ H n k P N s rs hD hC p hN=>by
 refine di σ1 H _ (ev.then s rs (show Post cl ρ H E0 ((evs Pg n d (.i i2) τ1 h).bind fun r h=>r.toV fun v=>(evs Pg n d (.cl v 0 t2 c2 none e D0) τ1 h).bind fun _ h=>k h) P from p) fun a1 h1 ρ1 H1 b1 s1 p1=>?_);obtain⟨v,rfl,p2⟩:=Nb p1;refine⟨v,rfl,fun J hJ=>?_⟩;refine Rc Ew (C:=fun _=>True) s1 (rs.mono b1.1) hJ (iI b1.1 hD) hC (fun _ _=>trivial) p2.bind fun r h' ρ' H' b' s' q=>?_;exact hN h' ρ' H' (b1.trans b') s' q
theorem ado{ρ:List Addr}{H:Hp}{α:Type}{r:R α}{P:α->Hs->List Addr->Hp->Prop}(p:Post cl ρ H E r.nox P):Post cl ρ H E0 r P:=by
 cases r with
 | ok a h=>exact p
 | ex C fs h=>exact p.elim
 | no=>exact p
theorem adp{ρ:List Addr}{τ:Sg}(rs:RS ρ τ σ)(nt:Nat)(idx:List Nat):RS ρ (nA nt idx τ) (sgb nt idx σ):=by
 have base:RS ρ (List.rec (motive:=fun _=>Sg) [] (fun i _ r=>cD τ i::r) idx) (idx.map fun j=>(σ[j]?).getD none):=by
  induction idx with
  | nil=>exact .nil
  | cons i idx ih=>
    refine .cons ?_ ih;show RO ρ (cD τ i) ((σ[i]?).getD none)
    cases e:cD τ i with
    | none=>exact trivial
    | some w=>
      obtain⟨v,ev,rv⟩:=rs.get e;rw[ev];exact rv
 unfold sgb
 induction nt with
 | zero=>exact base
 | succ nt ih=>exact .cons trivial ih
theorem Nm{nt:Nat}{idx:List Nat}{i:Nat}(h:i<nt):(sgb nt idx σ)[i]? =some none:=by
 unfold sgb;rw[List.getElem?_append_left (by simpa using h),List.getElem?_replicate,if_pos h]
theorem CG{K:aq}{nt:Nat}{idx:List Nat}{it:I}{t:Tg}{c:Option Ev.X}{m:Option G}{e:Ev.X}{wi:TI}{tin:Addr->TN}{Q:VK}(di:DI Pg cl E d K it wi){C:L2.St->Prop}(hin:∀ D0 D,Inn Pg cl d e D0 D m C (tin D))(hv:∀ i ∈ vars t,i<nt)
 (hC:∀ σ σ1,Off (vars t) (sgb nt idx σ) σ1->C σ1) (x:tE Pg cl E d (.comp nt idx it t c m e) σ H Q):Lz nt idx wi (tG cl t) (tCd Pg cl d c) tin σ H Q:=by
 obtain⟨ρ,τ,h,n,s,rs,q⟩:=x.step;refine di σ H _ (ev.then s rs (show Post cl ρ H E ((evs Pg n d (.i it) τ h).bind fun r h=>r.toV fun v=>(evs Pg n d (.cl v 0 t c m e h.n) (nA nt idx τ) (h.push (.lst []))).nox.bind fun _ h'=>.ok (.w (.ref h.n)) h') (VP Q) from q) fun a1 h1 ρ1 H1 b1 s1 p1=>?_);obtain⟨v,rfl,p2⟩:=Nb p1;refine⟨v,rfl,fun J hJ D hD=>?_⟩;have s2:Sim cl (ρ1 ++ [D]) (h1.push (.lst [])) (upd H1 D (.lst [])):=s1.push hD ⟨[],.nil,aG⟩;have gD:(ρ1 ++ [D])[h1.n]? =some D:=by rw[<- s1.len,List.getElem?_append_right (az _),Nat.sub_self];rfl
 refine Rc (hin h1.n D) s2 ((adp rs nt idx).mono (b1.1.trans (List.prefix_append _ _))) (hJ.mono (List.prefix_append _ _)) gD (fun i hi=>Nm (hv i hi)) (fun σ1 o=>hC σ σ1 o) (ado (p2.later (Bt.new hD)).bind) fun r h' ρ' H' b' s' q'=>?_;exact Post.gF s' q' (.ref (iI b'.1 gD))
theorem iK:PTs X [] (tCd Pg cl d none):=aaJ
theorem CJ{c:Expr}{x:Ev.X}(h:PT X c (tT Pg cl E0 d x)):PTs X [c] (tCd Pg cl d (some x)):=Ik h
variable{N':List Str}{sc:Scope}{nt:Nat}{idx:List Nat}{elt tg iter tg2 cF:Expr}{ifs i_:List Expr}{gs:List Comprehension}{pos:Pos}{wi wi2:TI}{it it2:I}{t t2:Tg}{c c2:Option Ev.X}{e:Ev.X}
theorem jq(B:uH X N' sc nt idx)(hc:X.calm=true)(di:DI Pg cl E d X.K it wi)(hi:PI X tg iter wi)(hg:∀ C s₀ H₀ fp,PG (blk X N' sc C s₀ H₀ fp) tg (tG cl t))(hif:∀ C s₀ H₀ fp,PTs (blk X N' sc C s₀ H₀ fp) ifs (tCd Pg cl d c))(he:∀ C s₀ H₀ fp,PE (blk X N' sc C s₀ H₀ fp) elt (tE Pg cl E0 d e))(hv:∀ i ∈ vars t,i<nt)
 (hs:∀ x,foldedSetIterable iter X.env x=pure x:=by intro _;rfl):PE X (.ListComp elt [⟨tg,iter,ifs,0⟩] sc pos) (tE Pg cl E d (.comp nt idx it t c none e)):=
 PE.of (Il B hc hi (LC hg hif he) hs) fun _ _ _ q=>CG di (C:=fun _=>True) (fun _ _=>Ew) hv (fun _ _ _=>trivial) q
theorem Wj(hv:∀ i ∈ vars t,i<nt)(hv2:∀ i ∈ vars t2,i<nt/\i ∉ vars t)(σ σ1:L2.St)(o:Off (vars t) (sgb nt idx σ) σ1):∀ i ∈ vars t2,σ1[i]? =some none:=fun i hi=>by
 obtain⟨h1,h2⟩:=hv2 i hi;rw[o.2 i h2];exact Nm h1
theorem YM(B:uH X N' sc nt idx)(hc:X.calm=true)(di:DI Pg cl E d X.K it wi)(hi:PI X tg iter wi)(hg:∀ C s₀ H₀ fp,PG (blk X N' sc C s₀ H₀ fp) tg (tG cl t))(hif:∀ C s₀ H₀ fp,PTs (blk X N' sc C s₀ H₀ fp) ifs (tCd Pg cl d c))
 (di2:DI Pg cl E0 d X.K it2 wi2) (hi2:∀ C s₀ H₀ fp,PI (blk X N' sc C s₀ H₀ fp) tg2 cF wi2) (hg2:∀ C s₀ H₀ fp,PG (blk X N' sc C s₀ H₀ fp) tg2 (tG cl t2)) (M3:∀ C s₀ H₀ fp,PTs (blk X N' sc C s₀ H₀ fp) i_ (tCd Pg cl d c2))
 (he:∀ C s₀ H₀ fp,PE (blk X N' sc C s₀ H₀ fp) elt (tE Pg cl E0 d e)) (hv:∀ i ∈ vars t,i<nt) (hv2:∀ i ∈ vars t2,i<nt/\i ∉ vars t)
 (hs:∀ x,foldedSetIterable iter X.env x=pure x:=by intro _;rfl) (hs2:∀ C s₀ H₀ fp x,foldedSetIterable cF (blk X N' sc C s₀ H₀ fp).env x=pure x:=by intro _ _ _ _ _;rfl):
 PE X (.ListComp elt [⟨tg,iter,ifs,0⟩,⟨tg2,cF,i_,0⟩] sc pos) (tE Pg cl E d (.comp nt idx it t c (some (.mk it2 t2 c2)) e)):=
 PE.of (Il B hc hi (ZZ hc hg hif hi2 hg2 M3 he hs2) hs) fun _ _ _ q=>CG di (fun _ _=>Rf di2) hv (Wj hv hv2) q
theorem Ex{σ0:L2.St}{i:Nat}{y:Str}{py spos:Pos}(hN:X.N.Nodup)(hi':X.N[i]? =some y)(hy:Loc X.env.scope y)(B:uH X N' sc nt idx)(hc:X.calm=true)(di:DI Pg cl E d X.K it wi)(hi:PI X tg iter wi)(hg:∀ C s₀ H₀ fp,PG (blk X N' sc C s₀ H₀ fp) tg (tG cl t))(hif:∀ C s₀ H₀ fp,PTs (blk X N' sc C s₀ H₀ fp) ifs (tCd Pg cl d c))(he:∀ C s₀ H₀ fp,PE (blk X N' sc C s₀ H₀ fp) elt (tE Pg cl E0 d e))(hv:∀ i ∈ vars t,i<nt)
 (hsw:swapsWith (.ListComp elt [⟨tg,iter,ifs,0⟩] sc pos) (some (.Name y py)) spos.line X.env=pure true:=by rfl) (hs:∀ x,foldedSetIterable iter X.env x=pure x:=by intro _;rfl)
 (hf:X.fn y=true\/X.env.scope.names.lookup y=some .local:=by first | exact .inl rfl | exact .inr rfl | assumption):
 PS X (.Assign [.Name y py] (.ListComp elt [⟨tg,iter,ifs,0⟩] sc pos) spos) (tS Pg cl E d σ0 (.asg (.nm i) (.comp nt idx it t c none e))):=
 PS.of (Im hN hi' hy B hc hi (LC hg hif he) hsw hs hf) fun D σ H q=>by
 obtain⟨ρ,τ,h,n,s,rs,p⟩:=GD q;exact CG di (C:=fun _=>True) (fun _ _=>Ew) hv (fun _ _ _=>trivial) ⟨ρ,τ,h,n,s,rs,p.mono fun a h ρ H _ _ ⟨w,e,g⟩=>⟨w,e,fun v rv=>yS (g v rv)⟩⟩
theorem YQ{σ0:L2.St}{i:Nat}{y:Str}{py spos:Pos}(hN:X.N.Nodup)(hi':X.N[i]? =some y)(hy:Loc X.env.scope y)(B:uH X N' sc nt idx)(hc:X.calm=true)(di:DI Pg cl E d X.K it wi)(hi:PI X tg iter wi)(hg:∀ C s₀ H₀ fp,PG (blk X N' sc C s₀ H₀ fp) tg (tG cl t))(hif:∀ C s₀ H₀ fp,PTs (blk X N' sc C s₀ H₀ fp) ifs (tCd Pg cl d c))
 (di2:DI Pg cl E0 d X.K it2 wi2) (hi2:∀ C s₀ H₀ fp,PI (blk X N' sc C s₀ H₀ fp) tg2 cF wi2) (hg2:∀ C s₀ H₀ fp,PG (blk X N' sc C s₀ H₀ fp) tg2 (tG cl t2)) (M3:∀ C s₀ H₀ fp,PTs (blk X N' sc C s₀ H₀ fp) i_ (tCd Pg cl d c2))
 (he:∀ C s₀ H₀ fp,PE (blk X N' sc C s₀ H₀ fp) elt (tE Pg cl E0 d e)) (hv:∀ i ∈ vars t,i<nt) (hv2:∀ i ∈ vars t2,i<nt/\i ∉ vars t)
 (hsw:swapsWith (.ListComp elt [⟨tg,iter,ifs,0⟩,⟨tg2,cF,i_,0⟩] sc pos) (some (.Name y py)) spos.line X.env=pure true:=by rfl) (hs:∀ x,foldedSetIterable iter X.env x=pure x:=by intro _;rfl) (hs2:∀ C s₀ H₀ fp x,foldedSetIterable cF (blk X N' sc C s₀ H₀ fp).env x=pure x:=by intro _ _ _ _ _;rfl)
 (hf:X.fn y=true\/X.env.scope.names.lookup y=some .local:=by first | exact .inl rfl | exact .inr rfl | assumption):
 PS X (.Assign [.Name y py] (.ListComp elt [⟨tg,iter,ifs,0⟩,⟨tg2,cF,i_,0⟩] sc pos) spos) (tS Pg cl E d σ0 (.asg (.nm i) (.comp nt idx it t c (some (.mk it2 t2 c2)) e))):=
 PS.of (Im hN hi' hy B hc hi (ZZ hc hg hif hi2 hg2 M3 he hs2) hsw hs hf) fun D σ H q=>by
 obtain⟨ρ,τ,h,n,s,rs,p⟩:=GD q;exact CG di (fun _ _=>Rf di2) hv (Wj hv hv2) ⟨ρ,τ,h,n,s,rs,p.mono fun a h ρ H _ _ ⟨w,e,g⟩=>⟨w,e,fun v rv=>yS (g v rv)⟩⟩
end
section
variable{Pg:List Fn}{cl:Cn}{E:XK}{d:Nat}{X:Cx}{σ:L2.St}{H:Hp}
def spF(Pg:List Fn)(cl:Cn)(d f:Nat):Sp:=fun vs H Q E=>∃ ρ ws h n,Sim cl ρ h H/\RWs ρ ws vs/\Post cl ρ H E (evs Pg n d (.call f ws) [] h) (VP Q)
theorem call_of{f:Nat}{as:List Ev.X}{Q:VK}(x:tE Pg cl E d (.call f as) σ H Q):Ck (spF Pg cl d f) [] E (tA Pg cl E d as) σ H Q:=by
 obtain⟨ρ,τ,h,n,s,rs,q⟩:=x.step;refine ev.then s rs (show Post cl ρ H E ((evs Pg n d (.a as) τ h).bind fun a h=>a.toL fun ws=>evs Pg n d (.call f ws) [] h) (VP Q) from q) fun a1 h1 ρ1 H1 b1 s1 p1=>?_;obtain⟨ws,rfl,p2⟩:=mG p1;exact⟨ws,rfl,fun vs rv=>⟨ρ1,ws,h1,n,s1,by rw[List.append_nil];exact rv,p2⟩⟩
theorem Ey{f:Nat}{ws:List W}{h:Hs}{n:Nat}{ρ:List Addr}{P:A->Hs->List Addr->Hp->Prop}(p:Post cl ρ H E (evs Pg n d (.call f ws) [] h) P):∃ n' d' F,d=d'+1/\Pg[f]? =some F/\Post cl ρ H E (body (evs Pg n') d' h ws F) P:=by
 cases n with
 | zero=>exact p.elim
 | succ n=>
   cases d with
   | zero=>exact p.elim
   | succ d=>
     obtain⟨F,e,q⟩:=jU (show Post cl ρ H E (Opt (nth Pg f) (body (evs Pg n) d h ws)) P from p);rw[mF]at e;exact⟨n,d,F,rfl,e,q⟩
theorem Rg{np nn:Nat}{b:List S}{ws:List W}{h:Hs}{n:Nat}{ρ:List Addr}{P:A->Hs->List Addr->Hp->Prop}(p:Post cl ρ H E (body (evs Pg n) d h ws (.mk np nn b)) P):ws.length=np/\Post cl ρ H E ((evs Pg n d (.ss b) (frame nn ws) h).bind fun r h=>r.toF fun f=>Gr h f) P:=by
 obtain⟨e,q⟩:=gK (show Post cl ρ H E (ifB (Nat.beq (len ws) np) ((evs Pg n d (.ss b) (frame nn ws) h).bind fun r h=>r.toF fun f=>Gr h f) .no) P from p);rw[len_eq]at e;exact⟨jB.mp e,q⟩
theorem YS{ρ:List Addr}{ws:List W}{vs:List V}(r:RWs ρ ws vs)(N:List Str):RS ρ (frame N.length ws) (L2.start N vs):=by
 unfold frame L2.start;rw[iW,len_eq,r.length]
 have rep:∀ k:Nat,RS ρ (Nat.rec (motive:=fun _=>Sg) [] (fun _ r=>none::r) k) (List.replicate k none):=fun k=>by
  induction k with
  | zero=>exact .nil
  | succ k ih=>exact .cons trivial ih
 have app':∀ {a b:Sg} {u w:L2.St},RS ρ a u->RS ρ b w->RS ρ (a++b) (u++w):=by
  intro a b u w r1 r2
  induction r1 with
  | nil=>exact r2
  | cons x _ ih=>exact .cons x ih
 refine app' ?_ (rep _)
 have go:∀ {ws:List W} {vs:List V},RWs ρ ws vs->RS ρ (List.rec (motive:=fun _=>Sg) [] (fun w _ r=>some w::r) ws) (vs.map some):=by
  intro ws vs r
  induction r with
  | nil=>exact .nil
  | cons r1 _ ih=>exact .cons r1 ih
 exact go r
theorem bJ{P:Program}{w:World}{K:aq}{mg:Str->Option Value}{base:Heap}{k i:Nat}{x qual:Str}{st:Stmt}{f:Addr}{fd:FuncData}{N ps:List Str}{b:List S}(F:Fun K x qual st f fd)(Sc:aD N ps (au st))(hp:Pg[i]? =some (.mk ps.length N.length b))
 (hbody:∀(σ0:L2.St) (cdv:Value) (A:Around) (outer:List Env) (s:Shared) (H:Hp) (E:XK),bZ k (A.deeper (envOfC qual (au st) s.heap.objs.size f cdv))->Passes (CXE P w) (qT (CXE P w) P w K mg base N qual (au st) f cdv A outer s H E) E->
   PSs (qT (CXE P w) P w K mg base N qual (au st) f cdv A outer s H E) (d8 st) (tSs Pg cl E d σ0 b)):bH P w K mg base (CXE P w) (k+1) f fd ps (spF Pg cl (d+1) i):=by
 obtain⟨oc,od,kV,doc,pm,an,cdv,ct,osl,rfl,lk,hcd⟩:=F.ex
 have af1:∀ vs H Q E,spF Pg cl (d+1) i vs H Q E->vs.length=ps.length:=fun vs H Q E ⟨ρ,ws,h,n,s,r,p⟩=>by
  obtain⟨n',d',F',e1,e2,q⟩:=Ey p;rw[hp]at e2;cases e2;rw[<- r.length];exact(Rg q).1
 refine ZR lk hcd Sc af1 fun A outer s H vs Q E hr hsp=>?_;obtain⟨ρ,ws,h,n,s1,r,p⟩:=hsp;obtain⟨n',d',F',e1,e2,q⟩:=Ey p;rw[hp]at e2;cases e2;cases e1;obtain⟨_,q2⟩:=Rg q;refine⟨_,hbody (L2.start N vs) cdv A outer s H E hr (Yp ⟨rfl,rfl,rfl⟩ rfl (fun _ _ _ z=>z)),ρ,frame N.length ws,h,n',s1,YS r N,fun _ _=>rfl,q2.bind.mono fun a h1 ρ1 H1 b1 s2 p2=>?_⟩;obtain⟨fl,rfl,p3⟩:=Gs p2;refine⟨fl,rfl,?_⟩
 cases fl with
 | nx τ=>exact fun σ' _ _=>Post.gF s2 (show Post cl ρ1 H1 E (.ok (.w .non) h1) (VP Q) from p3) .non
 | rt w=>exact fun v rv=>Post.gF s2 (show Post cl ρ1 H1 E (.ok (.w w) h1) (VP Q) from p3) rv
 | bk τ=>exact p3.elim
 | ct τ=>exact p3.elim
theorem rZ{k f:Nat}{fa:Addr}{fd:FuncData}{ps:List Str}{x:Str}{e:Expr}{es:List Expr}{y:Ev.X}{ys:List Ev.X}{p pos:Pos}(F:bH X.prog X.w X.K X.mg X.base (CXE X.prog X.w) k fa fd ps (spF Pg cl d f))(hr:bZ k X.A)(hg:Gl X x)(hm:X.mg x=some (.ref fa))(hk:PySem.W.keepIn X.K (.ref fa)=true)(hb:Binds X.K fd ps [])
 (hx:Passes (CXE X.prog X.w) X E) (ha:PA X (e::es) (tA Pg cl E d (y::ys))) (hdb:(x==("__debug__":Str))=false:=by decide) (he:starEach (e::es) X.env=(false,eval e X.env)::starEach es X.env:=by rfl) (hpl:(backTo pos (starEach es X.env)).any (·.1)=false:=by rfl):
 PE X (.Call (.Name x p) (e::es) [] pos) (tE Pg cl E d (.call f (y::ys))):=PE.of (xY F hr hg hm hk hb .nil hx ha hdb he hpl) fun _ _ _ q=>call_of q
theorem adq{C:Nat}{o:Ev.X}{f:List Nat}{K:aq}{Q:VK}(c:Cls K (cl C))(na:dO K (cl C) (nm f))(x:tE Pg cl E d (.fld C o f) σ H Q):ab8 K (tE Pg cl E d o) (nm f) σ H Q:=by
 obtain⟨ρ,τ,h,n,s,rs,q⟩:=x.step;refine ev.then s rs (show Post cl ρ H E ((evs Pg n d (.x o) τ h).bind fun r h=>r.toW fun w=>h.at w fun _ o=>o.onI fun C' fs=>ifB (Nat.beq C C') (Opt (fget fs f) fun w=>.ok (.w w) h) .no) (VP Q) from q) fun a1 h1 ρ1 H1 b1 s1 p1=>?_;obtain⟨w,rfl,p2⟩:=bK p1;refine⟨w,rfl,fun v rv=>?_⟩;obtain⟨k,ob,a,rfl,rfl,e1,g1,x1,p3⟩:=at_of s1 rv p2;obtain⟨C',fs,rfl,p4⟩:=Ip p3;obtain⟨ec,p5⟩:=gK p4;obtain⟨w2,ew,p6⟩:=jU p5;have ec:=jB.mp ec;subst ec;obtain⟨dx,gs,fr,qh⟩:=x1;obtain⟨u,eu,ru⟩:=fr.get ew;exact⟨a,_,dx,gs,u,rfl,qh,c,na,eu,Post.gF s1 p6 ru⟩
theorem kW{C:Nat}{e:Expr}{o:Ev.X}{f:Str}{fc:List Nat}{pos:Pos}(c:Cls X.K (cl C))(na:dO X.K (cl C) f)(he:PE X e (tE Pg cl E d o))(ef:f=nm fc:=by decide +kernel)(hb:attributeBase e f X.env (eval e X.env)=eval e X.env:=by rfl):PE X (.Attribute e f pos) (tE Pg cl E d (.fld C o fc)):=by
 subst ef;exact PE.of (ab9 he hb) fun _ _ _ q=>adq c na q
theorem FR.put{ρ:List Addr}{f:List Nat}{w:W}{v:V}(r:RW ρ w v):∀ {fs:Fs} {gs:List (Str × V)},FR ρ fs gs->FR ρ (S_ f w fs) (lW (nm f) v gs)
 | _,_,.nil=>.cons ⟨rfl,r⟩ .nil
 | p::fs,(x,u)::gs,.cons z t=>by
   obtain⟨e1,r1⟩:=z;have e1:x=nm p.1:=e1;show FR ρ (ifB (codes p.1 f) ((f,w)::fs) (p::S_ f w fs)) (if x=nm f then(x,v)::gs else(x,u)::lW (nm f) v gs)
   cases c:codes p.1 f with
   | true=>
     have ec:=cT.mp c;rw[if_pos (by rw[e1,ec])]
     exact .cons ⟨by show x=nm f;rw[e1,ec],r⟩ t
   | false=>
     rw[if_neg (fun z=>by rw[e1]at z;rw[cT.mpr (vC z)]at c;cases c)];exact .cons ⟨e1,r1⟩ (FR.put r t)
theorem FR.length{ρ:List Addr}{fs:Fs}{gs:List (Str × V)}(h:FR ρ fs gs):fs.length=gs.length:=Paired.length h
theorem Np{σ0:L2.St}{C:Nat}{o value:Expr}{xo xv:Ev.X}{f:Str}{fc:List Nat}{pos pos':Pos}(c:Cls X.K (cl C))(na:dO X.K (cl C) f)(ha:PE X o (tE Pg cl E d xo))(hv:PE X value (tE Pg cl E d xv))(ef:f=nm fc:=by decide +kernel)(hs:swapsWith value (some (.Attribute o f pos')) pos.line X.env=pure false:=by rfl):
 PS X (.Assign [.Attribute o f pos'] value pos) (tS Pg cl E d σ0 (.Th C xo fc xv)):=by
 subst ef;refine PS.of (ab_ ha hv hs) fun D σ H x=>?_;obtain⟨ρ,τ,h,n,s,rs,ag,q⟩:=x.step;refine ev.then s rs (show Post cl ρ H E ((evs Pg n d (.x xv) τ h).bind fun r h=>r.toW fun w=>(evs Pg n d (.x xo) τ h).bind fun r h=>r.toW fun o=>h.at o fun n o=>o.onI fun C' fs=>ifB (Nat.beq C C') (ifB (Nat.ble (len fs) 900) (.ok (.fl (.nx τ)) (h.set n (.ins C (S_ fc w fs)))) .no) .no) (SPo σ0 D) from q) fun a1 h1 ρ1 H1 b1 s1 p1=>?_;obtain⟨w,rfl,p2⟩:=bK p1;refine⟨w,rfl,fun v rv=>?_⟩;refine ev.then s1 (rs.mono b1.1) p2 fun a2 h2 ρ2 H2 b2 s2 p3=>?_;obtain⟨w2,rfl,p4⟩:=bK p3;refine⟨w2,rfl,fun v2 rv2=>?_⟩;obtain⟨k,ob,a,rfl,rfl,e1,g1,x1,p5⟩:=at_of s2 rv2 p4;obtain⟨C',fs,rfl,p6⟩:=Ip p5;obtain⟨ec,p7⟩:=gK p6;obtain⟨el,p8⟩:=gK p7;have ec:=jB.mp ec;subst ec;rw[ble_eq,len_eq]at el;have el:=of_decide_eq_true el;obtain⟨dx,gs,fr,qh⟩:=x1;have hl:=fr.length;refine⟨a,_,dx,gs,rfl,qh,c,na,by omega,?_⟩;obtain⟨fl,efl,qf⟩:=p8 ρ2 (upd H2 a (.ins (cl C) dx (lW (nm fc) v gs))) (Bt.put e1) (s2.put e1 ⟨dx,_,fr.put (rv.mono b2.1),aG⟩);cases efl;exact qf σ ((rs.mono b1.1).mono b2.1) ag
theorem Nq{C f:Nat}{m:List Nat}{o:Ev.X}{as:List Ev.X}{Q:VK}(x:tE Pg cl E d (.meth C m f o as) σ H Q):Ss (cl C) (nm m) (spF Pg cl d f) [] E (tE Pg cl E d o) (tA Pg cl E d as) σ H Q:=by
 obtain⟨ρ,τ,h,n,s,rs,q⟩:=x.step
 refine ev.then s rs (show Post cl ρ H E ((evs Pg n d (.x o) τ h).bind fun r h=>r.toW fun w=>h.at w fun _ o=>o.onI fun C' fs=>
  ifB (Nat.beq C C') (Option.rec ((evs Pg n d (.a as) τ h).bind fun a h=>a.toL fun ws=>evs Pg n d (.call f (w::ws)) [] h) (fun _=>.no) (fget fs m)) .no) (VP Q) from q) fun a1 h1 ρ1 H1 b1 s1 p1=>?_
 obtain⟨w,rfl,p2⟩:=bK p1;refine⟨w,rfl,fun v rv=>?_⟩;obtain⟨k,ob,a,rfl,rfl,e1,g1,x1,p3⟩:=at_of s1 rv p2;obtain⟨C',fs,rfl,p4⟩:=Ip p3;obtain⟨ec,p5⟩:=gK p4;have ec:=jB.mp ec;subst ec;obtain⟨dx,gs,fr,qh⟩:=x1
 cases eg:fget fs m with
 | some z=>rw[eg]at p5;exact p5.elim
 | none=>
   rw[eg]at p5;refine⟨a,dx,gs,rfl,qh,fr.ac0 eg,?_⟩;refine ev.then s1 (rs.mono b1.1) p5 fun a2 h2 ρ2 H2 b2 s2 p6=>?_;obtain⟨ws,rfl,p7⟩:=mG p6;exact⟨ws,rfl,fun vs rs'=>⟨ρ2,_,h2,n,s2,by rw[List.append_nil];exact .cons (rv.mono b2.1) rs',p7⟩⟩
theorem adt{Q:List V->Hp->Prop}(z:tA Pg cl E d [] σ H Q):Q [] H:=by
 obtain⟨ρ1,τ1,h1,n1,s1,_,p1⟩:=z.step;obtain⟨ws,e,q⟩:=Post.now s1 (show Post cl ρ1 H E (.ok (.ws []) h1) (LP Q) from p1);cases e;exact q [] .nil
theorem Sim.other{ρ:List Addr}{h:Hs}{p:Addr}{u:HO}(s:Sim cl ρ h H)(e:H p=none):Sim cl ρ h (upd H p u) where
 len:=s.len
 nd:=s.nd
 obj:=fun n a hn=>by
  obtain⟨o,q,y⟩:=s.obj n a hn;refine⟨o,q,y.keep (List.prefix_refl _) ?_⟩;obtain⟨w,hw⟩:=y.som;exact aN (cg hw e)
 tb:=s.tb.upd (by rw[e];trivial)
theorem Bt.other{ρ:List Addr}{p:Addr}{u:HO}(e:H p=none):Bt cl ρ H ρ (upd H p u):=⟨List.prefix_refl _,fun b v q nb=>by
 have q':upd H p u b=some v:=by rw[aN (cg q e)];exact q
 exact⟨nb,fun _=>q',v,q'⟩⟩
theorem aa0{C f:Nat}{as:List Ev.X}{Q:VK}(x:tE Pg cl E d (.make C f as) σ H Q):ZQ (cl C) (spF Pg cl d f) [] E (tA Pg cl E d as) σ H Q:=by
 obtain⟨ρ,τ,h,n,s,rs,q⟩:=x.step;refine ev.then s rs (show Post cl ρ H E ((evs Pg n d (.a as) τ h).bind fun a h=>a.toL fun ws=>(evs Pg n d (.call f (.ref h.n::ws)) [] (h.push (.ins C []))).bind fun r h'=>r.toW fun w=>ifB (wH w) (.ok (.w (.ref h.n)) h') .no) (VP Q) from q) fun a1 h1 ρ1 H1 b1 s1 p1=>?_;obtain⟨ws,rfl,p2⟩:=mG p1;refine⟨ws,rfl,fun vs rv x dx hx hdx ne=>?_⟩;have hx':upd H1 dx (.own x) x=none:=by rw[aN (Ne.symm ne)];exact hx
 have s2:Sim cl (ρ1 ++ [x]) (h1.push (.ins C [])) (upd (upd H1 dx (.own x)) x (.ins (cl C) dx [])):=(s1.other hdx).push hx' ⟨dx,[],.nil,aG⟩;have gx:(ρ1 ++ [x])[h1.n]? =some x:=by rw[<- s1.len,List.getElem?_append_right (az _),Nat.sub_self];rfl
 refine⟨ρ1 ++ [x],.ref h1.n::ws,_,n,s2,by rw[List.append_nil];exact .cons (.ref gx) (rv.mono (List.prefix_append _ _)),?_⟩;refine(p2.later ((Bt.other hdx).trans (Bt.new hx'))).bind.mono fun a h3 ρ3 H3 b3 s3 p3=>?_;obtain⟨w,rfl,p4⟩:=bK p3;obtain⟨en,p5⟩:=gK p4;refine⟨w,rfl,fun v rv'=>⟨?_,Post.gF s3 p5 (.ref (iI b3.1 gx))⟩⟩;rw[Et rv']at en;exact of_decide_eq_true en
def spX(C:Addr)(c:List Nat):Sp:=fun vs H Q _=>∃ e,vs= [.ref e]/\H e=some (XO e C none)/\∀ dx,H dx=none->dx ≠ e->Q .non (upd (upd H dx (.xd [(nm Cw,.str ⟨c.toArray⟩)])) e (XO e C (some dx)))
theorem Wl{σ0:L2.St}{C:Nat}{c:List Nat}{D:Ends}(x:tS Pg cl E d σ0 (.raise C c) D σ H):V0 (cl C) (spX (cl C) c) E Sq D σ H:=by
 obtain⟨ρ,τ,h,n,s,rs,ag,q⟩:=x.step;have q:Post cl ρ H E (.ex C [(Cw,.str c)] h) (SPo σ0 D):=q;refine⟨Nat.zero_le _,fun e he=>⟨e,rfl,aG,fun dx hdx ne=>⟨rfl,some dx,aG,?_⟩⟩⟩;have YT:H dx=none:=by rwa[aN ne]at hdx
 have eq:(fun b=>if b=e then none else upd (upd (upd H e (XO e (cl C) none)) dx (.xd [(nm Cw,.str ⟨c.toArray⟩)])) e (XO e (cl C) (some dx)) b)=upd H dx (.xd [(nm Cw,.str ⟨c.toArray⟩)]):=by
  funext b
  by_cases z:b=e
  · subst z;show(if b=b then none else _)=_;rw[if_pos rfl,aN (Ne.symm ne),he]
  · show(if b=e then none else _)=_;rw[if_neg z,aN z]
    by_cases z2:b=dx
    · subst z2;rw[aG,aG]
    · rw[aN z2,aN z2,aN z]
 rw[eq];exact q ρ _ dx _ (Bt.other YT) (s.other YT) (.cons ⟨rfl,.str c⟩ .nil) (s.new YT) aG
end
section
variable{Pg:List Fn}{cl:Cn}{E:XK}{d:Nat}{X:Cx}{σ:L2.St}{H:Hp}{pins:List (Addr × Obj)}{s:Shared}
structure agq (cl:Cn)(X:Cx)(c:Addr):Prop where
 on:cl.on=true
 code:X.env.code= .ref c
 hd:PySem.W.CodeHd X.base c cl.P
 bm:X.base.BuiltinsAt X.mg cl.P
 q:X.env.qual ++ "<lambda>" =cl.q
end
section
variable{Pg:List Fn}{cl:Cn}{E:XK}{d:Nat}{X:Cx}{σ:L2.St}{H:Hp}{pins:List (Addr × Obj)}{s:Shared}
structure agr (N':List Str)(sc:Scope):Prop where
 kind:sc.kind= .function
 co:sc.isCoroutine=false
 gen:sc.isGenerator=false
 free:∀ y ∈ sc.names,y.2 ≠ .cell
 isf:∀ x ∈ N',sc.names.lookup x=some .free
end
section
variable{Pg:List Fn}{cl:Cn}{E:XK}{d:Nat}{X:Cx}{σ:L2.St}{H:Hp}
theorem iM{K:aq}{tg l:Expr}{e:Ev.X}(hK:X.K=K)(he:PE X l (tE Pg cl E d e)):PI X tg l (fun σ H R=>R5 K (tE Pg cl E d e) σ H R\/XN K (tE Pg cl E d e) σ H R):=by
 subst hK;exact PI.or (rQ he) (ab3 he)
theorem aa1{a:Expr}{x:Ev.X}{pos}(ha:PE X a (tE Pg cl E d x)):PE X (.UnaryOp .Not a pos) (tE Pg cl E d (.pr .yP [x])):=PE.of (abX ha) fun _ _ _ q=>pN V_ q
theorem qp{c a b:Expr}{x y z:Ev.X}{pos}(hc:PT X c (tT Pg cl E d x))(ha:PE X a (tE Pg cl E d y))(hb:PE X b (tE Pg cl E d z)):PE X (.IfExp c a b pos) (tE Pg cl E d (.ite x y z)):=PE.of (Mv hc ha hb) fun _ _ _ q=>adh q
theorem bw{P:Program}{w:World}{K:aq}{mg:Str->Option Value}{base:Heap}{k i:Nat}{f:Addr}{fd:FuncData}{ps:List Str}:bH P w K mg base (CXE P w) k f fd ps (spF Pg cl 0 i):=by
 have no:∀ vs H Q E,¬ spF Pg cl 0 i vs H Q E:=fun vs H Q E ⟨ρ,ws,h,n,s,r,p⟩=>by
  obtain⟨_,_,_,e,_⟩:=Ey p;cases e
 exact⟨fun vs H Q E z=>(no vs H Q E z).elim,fun _ _ _ _ _ _ _ _ _ _ _ _ _ z=>(no _ _ _ _ z).elim⟩
theorem sr{N':List Str}{sc:Scope}{C:Addr}{s₀:Shared}{H₀:Hp}{fp:List Addr}:Passes (CXE X.prog X.w) (blk X N' sc C s₀ H₀ fp) E0:=fun _ _ _ _ _ _ _ h=>(El h).elim
theorem qD{C k f:Nat}{fa:Addr}{m:Str}{mc:List Nat}{fd:FuncData}{ps:List Str}{o e:Expr}{es:List Expr}{xo y:Ev.X}{ys:List Ev.X}{apos pos:Pos}{pl:Sem Bool}(c:Cls X.K (cl C))(hm:Meth X.K (cl C) m fa)(F:bH X.prog X.w X.K X.mg X.base (CXE X.prog X.w) k fa fd ps (spF Pg cl d f))(hr:bZ k X.A)(hb:Binds X.K fd ps [])
 (hx:Passes (CXE X.prog X.w) X E) (he:PE X o (tE Pg cl E d xo)) (ha:PA X (e::es) (tA Pg cl E d (y::ys))) (ef:m=nm mc:=by decide +kernel)
 (hst:starEach (e::es) X.env=(false,eval e X.env)::starEach es X.env:=by rfl) (hpl:(backTo pos (starEach es X.env)).any (·.1)=false:=by rfl)
 (ht:eval (.Call (.Attribute o m apos) (e::es) [] pos) X.env=(do
   let ov <- eval o X.env
   standAt apos.atName
   let (f,first) <- holding [ov] (getMethod ov m pl)
   callWith pos f first (backTo pos (starEach (e::es) X.env)) (backToKw pos (keywordEach [] X.env))):=by rfl):
 PE X (.Call (.Attribute o m apos) (e::es) [] pos) (tE Pg cl E d (.meth C mc f xo (y::ys))):=by
 subst ef;exact PE.of (L2.aaE he c hm F hr hb .nil hx ha hst hpl ht) fun _ _ _ q=>Nq q
theorem qt{C k f:Nat}{fa:Addr}{m:Str}{mc:List Nat}{fd:FuncData}{ps:List Str}{o:Expr}{xo:Ev.X}{apos pos:Pos}{pl:Sem Bool}(c:Cls X.K (cl C))(hm:Meth X.K (cl C) m fa)(F:bH X.prog X.w X.K X.mg X.base (CXE X.prog X.w) k fa fd ps (spF Pg cl d f))(hr:bZ k X.A)(hb:Binds X.K fd ps [])
 (hx:Passes (CXE X.prog X.w) X E) (he:PE X o (tE Pg cl E d xo)) (ef:m=nm mc:=by decide +kernel)
 (ht:eval (.Call (.Attribute o m apos) [] [] pos) X.env=(do
   let ov <- eval o X.env
   standAt apos.atName
   let (f,first) <- holding [ov] (getMethod ov m pl)
   callWith pos f first (backTo pos (starEach [] X.env)) (backToKw pos (keywordEach [] X.env))):=by rfl):
 PE X (.Call (.Attribute o m apos) [] [] pos) (tE Pg cl E d (.meth C mc f xo [])):=by
 subst ef;refine PE.of (L2.X6 he c hm F hr hb .nil hx ht) fun σ H Q q=>?_;obtain⟨ρ,τ,h,n,s,rs,p⟩:=Nq q;refine⟨ρ,τ,h,n,s,rs,p.mono fun a h ρ H _ _ ⟨w,e,g⟩=>⟨w,e,fun v rv=>?_⟩⟩;obtain⟨a,dx,fs,e1,e2,e3,z⟩:=g v rv;exact⟨a,dx,fs,e1,e2,e3,adt z⟩
theorem aa2{C k f:Nat}{fa:Addr}{x:Str}{fd:FuncData}{ps:List Str}{e:Expr}{es:List Expr}{y:Ev.X}{ys:List Ev.X}{p pos:Pos}(M:Mk X.K (cl C) fa)(F:bH X.prog X.w X.K X.mg X.base (CXE X.prog X.w) k fa fd ps (spF Pg cl d f))(hr:bZ (k+1) X.A)(hg:Gl X x)(hm:X.mg x=some (.ref (cl C)))(hb:Binds X.K fd ps [])(hx:Passes (CXE X.prog X.w) X E)
 (ha:PA X (e::es) (tA Pg cl E d (y::ys))) (hdb:(x==("__debug__":Str))=false:=by decide) (he:starEach (e::es) X.env=(false,eval e X.env)::starEach es X.env:=by rfl) (hpl:(backTo pos (starEach es X.env)).any (·.1)=false:=by rfl):
 PE X (.Call (.Name x p) (e::es) [] pos) (tE Pg cl E d (.make C f (y::ys))):=PE.of (aaF M F hr hg hm hb .nil hx ha hdb he hpl) fun _ _ _ q=>aa0 q
theorem su{σ0:L2.St}{C k:Nat}{cc:List Nat}{fa:Addr}{fd:FuncData}{ps:List Str}{x:Str}{p cpos pos:Pos}(O:Own X)(hxe:X.xe=Em X E)(hc:X.calm=true)(M:XMk X.K (cl C) fa)(F:bH X.prog X.w X.K X.mg X.base CX0 k fa fd ps (spX (cl C) cc))(hr:bZ (k+1) X.A)(hb:Binds X.K fd ps [])
 (hg:Gl X x) (hm:X.mg x=some (.ref (cl C))) (hdb:(x==("__debug__":Str))=false:=by decide):PS X (.Raise (some (.Call (.Name x p) [] [] cpos)) none pos) (tS Pg cl E d σ0 (.raise C cc)):=PS.of (V1 O hxe hc M F hr hb hg hm hdb) fun _ _ _ q=>Wl q
theorem n8{k:Nat}{a:Expr}{x:Ev.X}{tn:Str}{p q pos:Pos}(hk:k<5)(hg:Gl X "isinstance")(hm:X.mg "isinstance" =none)(hgt:Gl X tn)(hmt:X.mg tn=none)(hbt:bootBuiltins tn=some (.type (YF k)))(ha:PE X a (tE Pg cl E d x))(hnt:tn ≠ "__name__":=by decide)(hdt:(tn==("__debug__":Str))=false:=by decide)
 (he:starEach [a,.Name tn p] X.env=(false,eval a X.env)::starEach [.Name tn p] X.env:=by rfl) (he2:starEach [Expr.Name tn p] X.env=(false,eval (.Name tn p) X.env)::starEach [] X.env:=by rfl) (hpl:(backTo pos (starEach [Expr.Name tn p] X.env)).any (·.1)=false:=by rfl):
 PE X (.Call (.Name "isinstance" q) [a,.Name tn p] [] pos) (tE Pg cl E d (.pr (.isi k) [x])):=by
 refine PE.of (nU Yk hg hm boot_isinstance (aU ha (aU (aaz (v:=.ty (YF k)) hgt hmt hbt rfl hnt hdt) bG he2) he) (by decide) (by decide) he hpl) fun σ H Q z=>?_;obtain⟨ρ,τ,h,n,s,rs,p⟩:=pN (aeQ (K:=X.K) hk) z;refine⟨ρ,τ,h,n,s,rs,p.mono fun a h ρ H _ _ ⟨w,e,g⟩=>⟨w,e,fun v rv=>?_⟩⟩;obtain⟨t,b,ty,ek,q⟩:=g v rv;exact⟨v,_,t,b,rfl,ty,ek,q⟩
end
section
variable{Pg:List Fn}{cl:Cn}{E:XK}{d:Nat}{X:Cx}{σ:L2.St}{H:Hp}
def KTup(K:aq)(a:Addr)(ns:List Int):Prop:=∀ H,SqT K H a (ns.map V.int)
inductive Ez (K:aq):List DictEntry->List (List Nat × List Int)->Prop
 | nil:Ez K [] []
 | cons {hs c t a ns es tb}:KTup K a ns->Ez K es tb->Ez K (⟨hs,.str (nm c) t,.ref a⟩::es) ((c,ns)::tb)
structure Tq (K:aq)(w:World)(da:Addr)(tb:List (List Nat × List Int)):Prop where
 ex:∃(es:List DictEntry) (n:Nat),K.lookup da=some ⟨.type "dict",none,.dict es.toArray n,#[]⟩/\PySem.W.KeysLit w.params es/\Ez K es tb
 ns:(da==sysModules)=false
theorem Ez.look{K:aq}{c:List Nat}:∀ {es:List DictEntry} {tb:List (List Nat × List Int)},Ez K es tb->
 (∃ a,(es.find? fun e=>Value.isStrOf (nm c) e.key).map (·.val)=some (.ref a)/\KTup K a (tabOf tb c))\/((es.find? fun e=>Value.isStrOf (nm c) e.key).map (·.val)=none/\tabOf tb c= [])
 | _,_,.nil=>.inr ⟨rfl,rfl⟩
 | _,_,@Ez.cons _ hs c' t a ns es tb k r=>by
   rw[List.find?_cons]
   cases z:codes c' c with
   | true=>
     have e:=cT.mp z;have e1:Value.isStrOf (nm c) (Value.str (nm c') t)=true:=by rw[e];simp[Value.isStrOf]
     have e2:tabOf ((c',ns)::tb) c=ns:=by show ifB (codes c' c) ns (tabOf tb c)=ns;rw[z];rfl
     rw[e1,e2]
     exact .inl ⟨a,rfl,k⟩
   | false=>
     have e1:Value.isStrOf (nm c) (Value.str (nm c') t)=false:=by
      show(nm c'==nm c)=false;exact beq_eq_false_iff_ne.mpr fun q=>by rw[cT.mpr (vC q)]at z;cases z
     have e2:tabOf ((c',ns)::tb) c=tabOf tb c:=by show ifB (codes c' c) ns (tabOf tb c)=_;rw[z];rfl
     rw[e1,e2];exact r.look
def Tt(K:aq)(tb:List (List Nat × List Int))(t:TE):TE:=fun σ H Q=>t σ H fun v H2=>∃ c,v= .str (nm c)/\∀ p,H2 p=none->∀ a,(a=p/\tabOf tb c= []\/KTup K a (tabOf tb c))->Q (.ref a) (upd H2 p (.tup []))
theorem aa3{x:Str}{da:Addr}{tb:List (List Nat × List Int)}{k:Expr}{t:TE}{p apos cpos tpos:Pos}{x1:Nat}(T:Tq X.K X.w da tb)(hg:Gl X x)(hm:X.mg x=some (.ref da))(hk:PE X k t)(hxd:(x==("__debug__":Str))=false:=by decide)
 (hbase:attributeBase (.Name x p) "get" X.env (eval (.Name x p) X.env)=eval (.Name x p) X.env:=by rfl)
 (hfew:((backTo cpos (starEach [k,.Tuple [] x1 tpos] X.env)).all (fun x=> !x.1)&&(backToKw cpos (keywordEach [] X.env)).all (fun x=>x.1.isSome)
   && decide (([k,.Tuple [] x1 tpos]:List Expr).length+([]:List Keyword).length+(if([]:List Keyword).isEmpty then 0 else 1)<30))=true:=by rfl)
 (hline:(apos.endLine==cpos.line)=true:=by rfl) (hs:starEach [k,.Tuple [] x1 tpos] X.env=(false,eval k X.env)::starEach [.Tuple [] x1 tpos] X.env:=by rfl) (hs2:starEach [Expr.Tuple [] x1 tpos] X.env=(false,eval (.Tuple [] x1 tpos) X.env)::starEach [] X.env:=by rfl) (hplain:(backTo cpos (starEach [Expr.Tuple [] x1 tpos] X.env)).any (·.1)=false:=by rfl):
 PE X (.Call (.Attribute (.Name x p) "get" apos) [k,.Tuple [] x1 tpos] [] cpos) (Tt X.K tb t):=by
 intro pins s σ H Q I h;obtain⟨⟨es,n,lk,kl,en⟩,ns⟩:=T;refine wpAny_Call_method_late hbase hfew hline rfl (uX I hg hm ?_ hxd);have hob:=I.kIn _ _ lk;refine⟨"dict","dict.get",PySem.F.plainAttrs_dict,PySem.F.slot_dict_get,PySem.F.type_dict_get,⟨_,hob,rfl⟩,fun a e=>by cases e;exact⟨_,hob,rfl⟩,?_⟩;rw[hs];refine Calls.callWith_builtin (by show(false||(backTo cpos (starEach [Expr.Tuple [] x1 tpos] X.env)).any (·.1))=false;rw[hplain] <;> rfl) (Calls.evalArgs_plain ?_);show wpAny _ _ (spliced ((false,eval k X.env)::backTo cpos (starEach [Expr.Tuple [] x1 tpos] X.env))) _ _ s;refine Calls.spliced_cons (thn (hk pins s σ H _ I h) fun u s1 ⟨v,H1,I1,rv,c,ev,q⟩=>?_);subst ev;obtain⟨tk,rfl⟩:=rv;rw[hs2];show wpAny _ _ (spliced ((false,eval (.Tuple [] x1 tpos) X.env)::backTo cpos (starEach [] X.env))) _ _ s1;refine Calls.spliced_cons (thn (Gb (X:=X) (x1:=x1) (pos:=tpos) bG pins s1 σ H1 (fun y H2=>∃ q',y= .ref q'/\H1 q'=none/\H2=upd H1 q' (.tup [])) I1 ⟨Nat.zero_le _,fun p hp=>⟨p,rfl,hp,rfl⟩⟩) fun u2 s2 ⟨y,H2,I2,ry,q',ey,hq',eH⟩=>?_);subst ey eH;obtain rfl:u2=Value.ref q':=ry;refine Calls.spliced_nil ?_;have mo:=PySem.W.mapOf_K (prog:=X.prog) (w:=X.w) I2.kIn lk (by simpa using kl);refine call_meetsIn PySem.F.slot_dict_get ⟨_,I2.kIn _ _ lk,rfl⟩ PySem.F.entry_dict_get (PySem.F.args_dict_get_3 _ _ _) (meets_dict_get_default (strKind X.prog X.w) da (strKind_is X.prog X.w (nm c) tk) ns (.ref q')) ⟨_,mo,?_⟩
 have fe:findBy Value.isStrOf es.toArray (nm c)=(es.find? fun e=>Value.isStrOf (nm c) e.key).map (·.val):=by
  unfold findBy;rw[List.find?_toArray]
 rcases en.look (c:=c) with ⟨a,e1,e2⟩ | ⟨e1,e2⟩
 · refine⟨.ref a,_,I2.tok _,?_,q q' hq' a (.inr e2)⟩;show(findBy Value.isStrOf es.toArray (nm c)).getD (.ref q')= .ref a;rw[fe,e1];rfl
 · refine⟨.ref q',_,I2.tok _,?_,q q' hq' q' (.inl ⟨rfl,e2⟩)⟩;show(findBy Value.isStrOf es.toArray (nm c)).getD (.ref q')= .ref q';rw[fe,e1];rfl
theorem CK(i:Int)(ns:List Int):um i ns=inV (.int i) (ns.map V.int):=by
 induction ns with
 | nil=>rfl
 | cons n ns ih=>
   show ifB (ieq n i) true (um i ns)=(eqV (.int n) (.int i)||inV (.int i) (ns.map V.int));rw[ih,show eqV (.int n) (.int i)=(n==i) from rfl,LQ];cases ieq n i <;> rfl
theorem Wm(ns:List Int):(ns.map V.int).all pY=true:=by
 induction ns with
 | nil=>rfl
 | cons n ns ih=>exact ih
theorem aeV{K:aq}{tb:List (List Nat × List Int)}:Op2 cl (.tab tb) (fun x y H2 Q=>∃ c,y= .str (nm c)/\∀ p,H2 p=none->∀ a,(a=p/\tabOf tb c= []\/KTup K a (tabOf tb c))->rIn K true x (.ref a) (upd H2 p (.tup [])) Q):=fun E ρ h H w1 w2 v1 v2 Q s r1 r2 p=>by
 obtain⟨i,rfl,p1⟩:=oI (show Post cl ρ H E (ofW (acX tb h w1 w2)) (VP Q) from p);cases r1
 cases r2 with
 | str c=>
   refine⟨c,rfl,fun q hq a ha=>?_⟩;have p2:Post cl ρ H E (ofW (.yes (!um i (tabOf tb c)) h)) (VP Q):=p1
   have fin:Q (.bl (!inV (.int i) ((tabOf tb c).map V.int))) (upd H q (.tup [])):=by
    rw[<- CK];exact Post.yes (s.other hq) (p2.later (Bt.other hq)) rfl
   rcases ha with ⟨rfl,e⟩ | ha
   · rw[e]at fin;exact⟨a,[],rfl,.inr (SqT.of aG),rfl,rfl,fin⟩
   · exact⟨a,_,rfl,.inr (ha _),rfl,Wm _,fin⟩
 | _=>exact p1.elim
theorem tab_of{K:aq}{tb:List (List Nat × List Int)}{a k:Ev.X}{Q:VK}(x:tE Pg cl E d (.pr (.tab tb) [a,k]) σ H Q):tOp (rIn K true) (tE Pg cl E d a) (Tt K tb (tE Pg cl E d k)) σ H Q:=t6 aeV x
theorem adu{x:Str}{da:Addr}{tb:List (List Nat × List Int)}{a k:Expr}{xa xk:Ev.X}{p apos cpos tpos pos:Pos}{x1:Nat}(T:Tq X.K X.w da tb)(hg:Gl X x)(hm:X.mg x=some (.ref da))(ha:PE X a (tE Pg cl E d xa))(hk:PE X (.Call (.Attribute (.Name x p) "get" apos) [k,.Tuple [] x1 tpos] [] cpos) (Tt X.K tb (tE Pg cl E d xk)))
 (hmk:behindInMarks .NotIn (.Call (.Attribute (.Name x p) "get" apos) [k,.Tuple [] x1 tpos] [] cpos)=false):PT X (.Compare a [.NotIn] [.Call (.Attribute (.Name x p) "get" apos) [k,.Tuple [] x1 tpos] [] cpos] pos) (tT Pg cl E d (.pr (.tab tb) [xa,xk])):=PT.of (rR kJ ha hk hmk) fun _ _ _ q=>tab_of q
end
theorem uY:("word":Str)=nm Cw:=by decide +kernel
def spS(K:aq):Sp:=fun vs H Q _=>∃ e C y,vs= [.ref e,y]/\H e=some (XO e C none)/\uh K C/\dO K C "word"/\∀ dx,H dx=none->dx ≠ e->Q .non (upd (upd H dx (.xd [("word",y)])) e (XO e C (some dx)))
section
variable{Pg:List Fn}{cl:Cn}{E:XK}{d:Nat}{X:Cx}{σ:L2.St}{H:Hp}
theorem Sim.same{ρ:List Addr}{h:Hs}{H':Hp}(s:Sim cl ρ h H)(e:fQ H H'):Sim cl ρ h H'/\Bt cl ρ H ρ H':=by
 refine⟨⟨s.len,s.nd,fun n a q=>?_,fun on=>?_⟩,List.prefix_refl _,fun b u q nb=>⟨nb,fun _=>e b u q,u,e b u q⟩⟩
 · obtain⟨o,ho,x⟩:=s.obj n a q;obtain⟨u,hu⟩:=x.som;exact⟨o,ho,x.keep (List.prefix_refl _) ((e a u hu).trans hu.symm)⟩
 · obtain⟨ps,h1,h2,h3⟩:=s.tb on;refine⟨ps,e _ _ h1,h2,fun pos cv z=>?_⟩;obtain⟨c',e1,e2⟩:=h3 pos cv z;exact⟨c',e1,e _ _ e2⟩
end
end Ev
namespace Ev
open PySem L2
section
variable{Pg:List Fn}{cl:Cn}{E:XK}{d:Nat}{X:Cx}{σ σ0:L2.St}{H:Hp}
def never:S:=.expr (.pr .neg [])
theorem Sim.none(t:Tb cl H):Sim cl [] (.mk 0 .lf) H:=⟨rfl,by simp,fun n a h=>by simp at h,t⟩
theorem Sim.adopt{ρ:List Addr}{h:Hs}{p:Addr}{o:O}(s:Sim cl ρ h H)(e:p ∉ ρ)(x:OA cl (ρ ++ [p]) H p o):Sim cl (ρ ++ [p]) (h.push o) H where
 len:=by rw[List.length_append,Hs.iw,s.len];rfl
 nd:=List.nodup_append.mpr ⟨s.nd,by simp,fun a ha b hb z=>by
  simp only[List.mem_singleton]at hb
  exact e (by rw[<- hb,<- z];exact ha)⟩
 obj:=fun n a hn=>by
  rw[Hs.n6]
  by_cases hlt:n<ρ.length
  · rw[List.getElem?_append_left hlt]at hn;obtain⟨o',q,y⟩:=s.obj n a hn;exact⟨o',by rw[if_neg (by rw[<- s.len];omega)];exact q,y.keep (List.prefix_append _ _) rfl⟩
  · have hn':n=ρ.length:=by
     have:=(a_ hn).1;rw[List.length_append]at this;simp at this;omega
    subst hn';rw[List.getElem?_append_right (az _),Nat.sub_self]at hn;simp at hn;subst hn;exact⟨o,by rw[if_pos s.len],x⟩
 tb:=s.tb
theorem Rh{a:Addr}{u:HO}(t:Tb cl H)(e:H a=some u)(n:∀ ps,u ≠ .tbl ps):cl.on=true->a ≠ cl.P:=fun on z=>by
 obtain⟨ps,q,_⟩:=t on;rw[<- z,e]at q;exact n ps (Option.some.inj q)
def goes(r:R A)(f:Sg->Hs->Bool):Bool:=match r with
 | .ok (.fl (.nx τ)) h=>f τ h
 | _=>false
theorem YW{α:Type}{xs:List α}{i:Nat}{x:α}(h:xs[i]? =some x):xs.set i x=xs:=by
 apply List.ext_getElem?;intro j;rw[List.getElem?_set]
 by_cases e:i=j
 · subst e;rw[if_pos rfl,h,if_pos (a_ h).1]
 · rw[if_neg e]
theorem rw_ints(ρ:List Addr):∀ ns:List Int,RWs ρ (ns.map W.int) (ns.map V.int)
 | []=>.nil
 | n::ns=>.cons (.int n) (rw_ints ρ ns)
theorem aj{x p}{es:List Expr}{a:Ev.X}{as:List Ev.X}(ha:PE X (.Name x p) (tE Pg cl E d a))(hr:PA X es (tA Pg cl E d as)):PA X (.Name x p::es) (tA Pg cl E d (a::as)):=gP ha hr rfl
theorem eY{x k p}{es:List Expr}{a:Ev.X}{as:List Ev.X}(ha:PE X (.Constant x k p) (tE Pg cl E d a))(hr:PA X es (tA Pg cl E d as)):PA X (.Constant x k p::es) (tA Pg cl E d (a::as)):=gP ha hr rfl
theorem qu{x k p}{es:List Expr}{a:Ev.X}{as:List Ev.X}(ha:PE X (.Tuple x k p) (tE Pg cl E d a))(hr:PA X es (tA Pg cl E d as)):PA X (.Tuple x k p::es) (tA Pg cl E d (a::as)):=gP ha hr rfl
theorem uZ{x p}{es:List Expr}{a:Ev.X}{as:List Ev.X}(ha:PE X (.List x p) (tE Pg cl E d a))(hr:PA X es (tA Pg cl E d as)):PA X (.List x p::es) (tA Pg cl E d (a::as)):=gP ha hr rfl
theorem bQ{x o y p}{es:List Expr}{a:Ev.X}{as:List Ev.X}(ha:PE X (.BinOp x o y p) (tE Pg cl E d a))(hr:PA X es (tA Pg cl E d as)):PA X (.BinOp x o y p::es) (tA Pg cl E d (a::as)):=gP ha hr rfl
theorem gQ{f x k p}{es:List Expr}{a:Ev.X}{as:List Ev.X}(ha:PE X (.Call f x k p) (tE Pg cl E d a))(hr:PA X es (tA Pg cl E d as)):PA X (.Call f x k p::es) (tA Pg cl E d (a::as)):=gP ha hr rfl
theorem cO{x i p}{es:List Expr}{a:Ev.X}{as:List Ev.X}(ha:PE X (.Subscript x i p) (tE Pg cl E d a))(hr:PA X es (tA Pg cl E d as)):PA X (.Subscript x i p::es) (tA Pg cl E d (a::as)):=gP ha hr rfl
theorem Nr{x f p}{es:List Expr}{a:Ev.X}{as:List Ev.X}(ha:PE X (.Attribute x f p) (tE Pg cl E d a))(hr:PA X es (tA Pg cl E d as)):PA X (.Attribute x f p::es) (tA Pg cl E d (a::as)):=gP ha hr rfl
theorem Tu{x o y p}{es:List Expr}{a:Ev.X}{as:List Ev.X}(ha:PE X (.Compare x o y p) (tE Pg cl E d a))(hr:PA X es (tA Pg cl E d as)):PA X (.Compare x o y p::es) (tA Pg cl E d (a::as)):=gP ha hr rfl
theorem YX{x y z p}{es:List Expr}{a:Ev.X}{as:List Ev.X}(ha:PE X (.IfExp x y z p) (tE Pg cl E d a))(hr:PA X es (tA Pg cl E d as)):PA X (.IfExp x y z p::es) (tA Pg cl E d (a::as)):=gP ha hr rfl
theorem GF{o x p}{es:List Expr}{a:Ev.X}{as:List Ev.X}(ha:PE X (.UnaryOp o x p) (tE Pg cl E d a))(hr:PA X es (tA Pg cl E d as)):PA X (.UnaryOp o x p::es) (tA Pg cl E d (a::as)):=gP ha hr rfl
end
structure QE (X:Cx)(e:Expr)(t:TE):Prop where
 h:PE X e t
structure QA (X:Cx)(e:List Expr)(t:TA):Prop where
 h:PA X e t
structure QS (X:Cx)(e:Stmt)(t:TS):Prop where
 h:PS X e t
structure QSs (X:Cx)(e:List Stmt)(t:TS):Prop where
 h:PSs X e t
section
variable{Pg:List Fn}{cl:Cn}{E:XK}{d:Nat}{X:Cx}{σ0:L2.St}
theorem Wn{es:List Expr}{xs:List Ev.X}{pos}(h:QA X es (tA Pg cl E d xs)):QE X (.List es pos) (tE Pg cl E d (.pr .lst xs)):=⟨cZ h.h⟩
theorem Wo:QA X [] (tA Pg cl E d []):=⟨ak⟩
theorem oR{s:Str}(c:List Nat){n:Int}{j1 j2 x}{p1 p2 pos:Pos}{es:List Expr}{as:List Ev.X}(hr:QA X es (tA Pg cl E d as))(e:s= ⟨c.toArray⟩:=by decide +kernel):
 QA X (.Tuple [.Constant (.str s) j1 p1,.Constant (.int n) j2 p2] x pos::es) (tA Pg cl E d (.pr .tup [.cst (.str c),.cst (.int n)]::as)):=⟨qu (cL (eY (jV c e) (eY aK ak))) hr.h⟩
theorem aeW{op:Operator}{p:Pr}{r:R2}{a b:Expr}{x y:Ev.X}{pos:Pos}(z:Op2 cl p r)(o:OpR X (binaryOp op) r)(ha:QE X a (tE Pg cl E d x))(hb:QE X b (tE Pg cl E d y)):QE X (.BinOp a op b pos) (tE Pg cl E d (.pr p [x,y])):=⟨aM z o ha.h hb.h⟩
theorem Wq{i:Nat}{x:Str}{e:Expr}{y:Ev.X}{pos pos':Pos}(hN:X.N.Nodup)(hi:X.N[i]? =some x)(hx:Loc X.env.scope x)(he:QE X e (tE Pg cl E d y))(hs:swapsWith e (some (.Name x pos')) pos.line X.env=pure false:=by rfl)(hf:X.fn x=true\/X.env.scope.names.lookup x=some .local:=by first | exact .inl rfl | exact .inr rfl | assumption):
 QS X (.Assign [.Name x pos'] e pos) (tS Pg cl E d σ0 (.asg (.nm i) y)):=⟨Wf hN hi hx he.h hs hf⟩
end
end Ev
namespace Ev
open PySem PyProof.Rows L2
def EY(a:Addr)(n:Nat)(h:Heap):Prop:=∃(o:Obj) (es:Array (Int × Value)) (ep:Nat) (t:SetTable),h.get? a=some o/\o.ExactSet/\o.data= .set es ep t/\t.fits es.size=true/\es.size=n/\n<scanBound
theorem Wr{a:Addr}{n:Nat}(h1 h2:Heap)(x:EY a n h1)(k:∀ o,h1.get? a=some o->h2.get? a=some o):EY a n h2:=by
 obtain⟨o,es,ep,t,e,r⟩:=x;exact⟨o,es,ep,t,k o e,r⟩
theorem Aw:∀ {ns:List Int} {us:List Value},Vals (ns.map V.int) us->IntsAre us ns
 | [],[],_=>.nil
 | [],_::_,h=>by cases h
 | _::_,[],h=>by cases h
 | n::ns,u::us,h=>by
   cases h with
   | cons h1 h2=>
     obtain⟨t,rfl⟩:=h1;exact .cons n t (Aw h2)
def unlike(ns:List Int):Nat:=(firstMet (fun i=>ns.getD i 0) ns.length).length
section
variable{X:Cx}
theorem Ws:lV X (.builtin "len") (fun xs H Q=>∃ a n,xs= [.ref a]/\H a=some (.ext (EY a n))/\Q (.int n) H):=by
 intro pins s σ H xs us Q I r h;obtain⟨a,n,rfl,he,q⟩:=h;obtain⟨u,rfl,rx⟩:=vals1 r;cases rx;obtain⟨⟨o,es,ep,t,ho,hex,hd,hf,rfl,hb⟩,_⟩:=I.hok a _ he;have h4:((es.size:Int)<2 ^ 63):=by unfold scanBound at hb;omega
 exact call_len_set ho hex hd hf h4 ⟨.int es.size,H,I.tok _,⟨s.toks+1,rfl⟩,q⟩
theorem Wt(hh:X.A.handled=none):lV X (.type "set") (fun xs H Q=>∃ p ns,xs= [.ref p]/\SqL X.K H p (ns.map V.int)/\ns.length<=1000/\∀ l,H l=none->Q (.ref l) (upd H l (.ext (EY l (unlike ns))))):=by
 intro pins s σ H xs us Q I r h;obtain⟨p,ns,rfl,hq,hn,q⟩:=h;obtain⟨u,rfl,rx⟩:=vals1 r;cases rx;obtain⟨its,r',pl,hz⟩:=I.list hq;have hlen:=r'.length;rw[List.length_map]at hlen;refine call_set_list (items:=its.toArray) (ns:=ns) hh pl.isList (by simpa using Aw r') (by simp;unfold scanBound;omega) fun h' tk hS kp=>?_;obtain⟨o,es,ep,t,e1,e2,e3,_,_,e4,e5,e6⟩:=hS;have e7:es.size=unlike ns:=by rw[e6];unfold unlike;rw[List.size_toArray,<- hlen]
 exact⟨.ref s.heap.objs.size,_,I.laid (t':=tk) (fun b o e=>kp b o (Heap.lt_size e) e) (az _) (show b8 X.prog X.w _ h' _ (.ext (EY s.heap.objs.size (unlike ns))) from ⟨⟨o,es,ep,t,e1,e2,e3,e5,e7,by rw[<- e7];exact e4⟩,⟨o,e1⟩,fun h1 h2=>Wr h1 h2⟩),rfl,q _ (I.hok.fresh (az _))⟩
variable{Pg:List Fn}{cl:Cn}{E:XK}{d:Nat}
theorem E_{ρ:List Addr}:∀ {xs:List W} {vs:List V} {ns:List Int},RWs ρ xs vs->jd xs=some ns->vs=ns.map V.int
 | [],_,_,.nil,e=>by cases e;rfl
 | x::xs,_,ns,.cons r rs,e=>by
   have e:W.elim x none (fun _=>none) (fun i=>Option.rec none (fun r=>some (i::r)) (jd xs)) (fun _=>none) (fun _=>none)=some ns:=e
   cases r with
   | int i=>
     cases z:jd xs with
     | none=>rw[z]at e;cases e
     | some r=>rw[z]at e;cases e;rw[E_ rs z];rfl
   | non=>cases e
   | bl b=>cases e
   | str c=>cases e
   | ref h=>cases e
theorem Nt(x:Int):∀ acc:List Int,um x acc=acc.any (· == x)
 | []=>rfl
 | y::acc=>by
   show ifB (ieq y x) true (um x acc)=((y==x)||acc.any (· == x));rw[eX,Nt x acc]
   by_cases z:y=x
   · subst z;simp[ifB]
   · have:(y==x)=false:=by simpa using z
     rw[decide_eq_false z,this];rfl
theorem aab:∀(l acc:List Int),dd l acc=l.foldl step_dedup acc
 | [],_=>rfl
 | x::l,acc=>by
   show dd l (ifB (um x acc) acc (app acc [x]))=l.foldl step_dedup (step_dedup acc x);rw[aab l,Nt,iW];unfold step_dedup;cases acc.any (· == x) <;> rfl
theorem Wu(ns:List Int):unlike ns=(dd ns []).length:=by
 unfold unlike firstMet;rw[aab]
 have:(List.range ns.length).map (fun i=>ns.getD i 0)=ns:=by
  apply List.ext_getElem?;intro i
  by_cases h:i<ns.length
  · simp[h]
  · simp[h]
 rw[this]
theorem YZ{K:aq}:Op1 cl .yf (fun x H Q=>∃ p ns,x= .ref p/\SqL K H p (ns.map V.int)/\ns.length<=1000/\∀ l,H l=none->Q (.int (unlike ns)) (upd H l (.ext (EY l (unlike ns))))):=fun E ρ h H w1 v1 Q s r1 p=>by
 have p:Post cl ρ H E (ofW (pLs h w1)) (VP Q):=p;obtain⟨n,o,a,rfl,rfl,e1,g1,x1,p⟩:=oAt s r1 p;obtain⟨xs,rfl,p⟩:=oL p;obtain⟨hl,p⟩:=oIf p;obtain⟨ns,hn,p⟩:=pD p;obtain⟨us,ru,q⟩:=x1;have hlen:=ru.length;rw[E_ ru hn]at q hlen;rw[List.length_map]at hlen;have hl':xs.length<=1000:=by rw[len_eq]at hl;exact Nat.le_of_ble_eq_true hl
 refine⟨a,ns,rfl,SqL.of q,by omega,fun l hl=>?_⟩;have z:=Post.gF (s.other (u:=.ext (EY l (unlike ns))) hl) (p.later (Bt.other hl)) (.int _);rw[len_eq,<- Wu]at z;exact z
theorem Ax{a:Expr}{x:Ev.X}{p q pos1 pos:Pos}(hh:X.A.handled=none)(hg:Gl X "len")(hm:X.mg "len" =none)(hg2:Gl X "set")(hm2:X.mg "set" =none)(ha:PE X a (tE Pg cl E d x))
 (he:starEach [a] X.env=(false,eval a X.env)::starEach [] X.env:=by rfl):
 PE X (.Call (.Name "len" p) [.Call (.Name "set" q) [a] [] pos1] [] pos) (tE Pg cl E d (.pr .yf [x])):=by
 refine PE.of (nU Ws hg hm boot_len (aU (wG (Wt hh) hg2 hm2 rfl (aU ha bG he) (by decide) (by decide) he rfl) bG rfl) (by decide) (by decide) rfl rfl) fun σ H Q z=>?_;obtain⟨ρ,τ,h,n,s,rs,p⟩:=pN (YZ (K:=X.K)) z;refine⟨ρ,τ,h,n,s,rs,p.mono fun a h ρ H _ _ ⟨w,e,g⟩=>⟨w,e,fun v rv=>?_⟩⟩;obtain⟨p',ns,rfl,q1,q2,q3⟩:=g v rv;exact⟨p',ns,rfl,q1,q2,fun l hl=>⟨l,_,rfl,aG,q3 l hl⟩⟩
end
def GJ(r:Addr)(lo hi:Int)(h:Heap):Prop:=∃ t u v,IsRange h r lo hi 1 t u v
def Ay(n:Nat)(lo:Int):List V:=(List.range n).map fun(k:Nat)=>V.int (lo+k)
theorem Tv{n:Nat}(h:n<=3000):n<sizeLine:=Nat.lt_of_le_of_lt h (by decide)
theorem Ri:∀ {xs:List V} {us:List Value},xs.length=us.length->(∀(i:Nat) (x:V) (u:Value),xs[i]? =some x->us[i]? =some u->RelV x u)->Vals xs us
 | [],[],_,_=>.nil
 | [],_::_,e,_=>by simp at e
 | _::_,[],e,_=>by simp at e
 | x::xs,u::us,e,h=>.cons (h 0 x u rfl rfl) (Ri (by simpa using e) fun i x u a b=>h (i+1) x u (by simpa using a) (by simpa using b))
section
variable{X:Cx}
theorem Tw:lV X (.type "range") (fun xs H Q=>∃ i j,xs= [.int i,.int j]/\∀ l,H l=none->Q (.ref l) (upd H l (.ext (GJ l i j)))):=by
 intro pins s σ H xs us Q I r h;obtain⟨i,j,rfl,q⟩:=h;obtain⟨u1,u2,rfl,⟨t,rfl⟩,⟨t',rfl⟩⟩:=vals2 r;refine call_range_2 ?_;exact⟨.ref s.heap.objs.size,_,I.laid (t':=_) (fun b o e=>Heap.get?_push_of_some _ e) (az _) (show b8 X.prog X.w _ _ _ (.ext (GJ s.heap.objs.size i j)) from ⟨⟨_,_,_,IsRange.new ..⟩,⟨_,IsRange.new ..⟩,fun h1 h2 ⟨t,u,v,e⟩ k=>⟨t,u,v,k _ e⟩⟩),rfl,q _ (I.hok.fresh (az _))⟩
theorem Tz(hh:X.A.handled=none):lV X (.type "list") (fun xs H Q=>∃ p lo hi,xs= [.ref p]/\H p=some (.ext (GJ p lo hi))/\-1000<lo/\lo<1000/\-1000<hi/\hi<1000/\∀ l,H l=none->Q (.ref l) (upd H l (.lst (Ay (hi - lo).toNat lo)))):=by
 intro pins s σ H xs us Q I r h;obtain⟨p,lo,hi,rfl,he,h1,h2,h3,h4,q⟩:=h;obtain⟨u,rfl,rx⟩:=vals1 r;cases rx;obtain⟨⟨t,u,v,hr⟩,_⟩:=I.hok p _ he;refine call_list_range (n:=(hi - lo).toNat) hh hr (small_one (by omega) (by omega) (by omega) (by omega)) (by rw[rangeSize_one];split <;> omega) (by omega) fun h' tk acc c kp e it=>?_;refine⟨.ref s.heap.objs.size,_,I.laid (t':=tk) (fun b o e=>kp b o e) (az _) (show b8 X.prog X.w _ h' _ (.lst (Ay (hi - lo).toNat lo)) from ?_),rfl,q _ (I.hok.fresh (az _))⟩;have hlen:(Ay (hi - lo).toNat lo).length=acc.toList.length:=by have:=it.1;simp[Ay];omega
 refine⟨?_,acc.toList,c,Ri hlen fun i x u a b=>?_,by simpa using e⟩
 · refine Nat.le_of_lt (Tv ?_);simp[Ay];omega
 · rw[Array.getElem?_toList]at b;obtain⟨t,rfl⟩:=it.2 i u b
   have hi:i<(hi - lo).toNat:=by
    have:=(Array.getElem?_eq_some_iff.mp b).1;rw[it.1]at this;exact this
   simp[Ay,hi]at a;subst a;exact⟨t,by simp⟩
variable{Pg:List Fn}{cl:Cn}{E:XK}{d:Nat}
end
end Ev
namespace Ev
open PySem PySem.Spec PySem.SeqAt PyProof.Rows L2
section
variable{Pg:List Fn}{cl:Cn}{E:XK}{d:Nat}{X:Cx}{σ σ0:L2.St}{H:Hp}
theorem adv{τ:Sg}{ρ:List Addr}{w:W}{v:V}{i:Nat}(rs:RS ρ τ σ)(ag:Ag σ0 τ σ):Ag σ0 (setAt τ (some w) i) (σ.set i (some v)):=fun j hj=>by
 obtain⟨b1,b2⟩:=J8 (α:=Nat) τ w i j hj;have len:τ.length=σ.length:=Paired.length rs
 by_cases z:j=i
 · have h1:=b2 z;rw[<- ag j b1,List.getElem?_eq_none (by rw[List.length_set];omega),List.getElem?_eq_none (by omega)]
 · rw[List.getElem?_set_ne (Ne.symm z)];exact ag j b1
def frm(n:Nat)(kv:List (Nat × W)):Sg:=kv.foldr (fun p τ=>setAt τ (some p.2) p.1) (List.replicate n none)
end
section
variable{P:Program}{w:World}{K:aq}{mg:Str->Option Value}{base:Heap}
theorem adw{cl:Cn}{H:Hp}(h:cl.on=false):Tb cl H:=fun on=>by rw[h]at on;cases on
theorem Wv{i:Int}(h1: -(2 ^ 20)<i)(h2:i<2 ^ 20):L2.Sml i:=by
 unfold L2.Sml;exact aY (show i.natAbs<2 ^ 20 by omega) (Nat.pow_le_pow_right (by decide) (by decide))
def below(n:Nat):List Int:=(List.range n).map Int.ofNat
end
section
variable{Pg:List Fn}{cl:Cn}{E:XK}{d:Nat}{X:Cx}{σ σ0:L2.St}{H:Hp}
def ends(n:Nat)(r:R A):Bool:=goes r fun τ _=>Nat.beq τ.length n&&(cD τ 0).isNone
def again(Pg:List Fn)(m d i:Nat)(tl:List S)(row:List Int)(τ:Sg)(h:Hs):R A:=evs Pg m d (.ss tl) (setAt τ (some (.ref h.n)) i) (h.push (.lst (row.map W.int)))
end
section
variable{Pg:List Fn}{cl:Cn}{E:XK}{d:Nat}{X:Cx}{σ σ0:L2.St}{H:Hp}
def post(i:Nat)(r:R A):Option (Nat × Option W × Option O):=R.rec (fun a h=>A.rec (fun _=>none) (fun _=>none) (fun _=>none) (fun f=>Fl.rec (fun τ=>some (len τ,cD τ i,h.get 0)) (fun _=>none) (fun _=>none) (fun _=>none) f) none a) (fun _ _ _=>none) none r
end
section
variable{ρ:List Addr}
abbrev KR(ρ:List Addr):List (W × W)->List (Key × V)->Prop:=Paired fun p q=>KW p.1 q.1/\RW ρ p.2 q.2
theorem L_{b:W}{v:V}(h:iT b=true)(r:RW ρ b v):∃ k,KW b k/\v=kV k:=by
 cases r with
 | int i=>exact⟨.inl i,.int i,rfl⟩
 | str c=>exact⟨.inr _,.str c,rfl⟩
 | _=>cases h
theorem Nu{a b:W}{k l:Key}(ha:KW a k)(hb:KW b l):keq a b=decide (k=l):=by
 cases ha with
 | int i=>cases hb with
   | int j=>
     show ieq i j=_;rw[eX]
     by_cases z:i=j
     · rw[decide_eq_true z,z];simp
     · rw[decide_eq_false z,decide_eq_false (fun q=>z (Sum.inl.inj q))]
   | str c=>show false=_;simp
 | str x=>cases hb with
   | int j=>show false=_;simp
   | str y=>
     show codes x y=_
     cases c:codes x y with
     | true=>rw[cT.mp c];simp
     | false=>
       refine(decide_eq_false fun q=>?_).symm;have e:=vC (show nm x=nm y from Sum.inr.inj q);rw[cT.mpr e]at c;cases c
theorem yU{b:W}{k:Key}(hb:KW b k):∀ {kvs:List (W × W)} {gs:List (Key × V)},KR ρ kvs gs->(∀ w,bD kvs b=some w->∃ v,m9 gs k=some v/\RW ρ w v)/\isS (bD kvs b)=(m9 gs k).isSome
 | _,_,.nil=>⟨fun w e=>(by have e:(none:Option W)=some w:=e;cases e),rfl⟩
 | p::kvs,q::gs,.cons r t=>by
   obtain⟨ih1,ih2⟩:=yU hb t;have e:bD (p::kvs) b=ifB (keq p.1 b) (some p.2) (bD kvs b):=rfl;rw[e,Nu r.1 hb]
   by_cases z:q.1=k
   · rw[decide_eq_true z,vq z];exact⟨fun w h=>(by have h:some p.2=some w:=h;cases h;exact⟨_,rfl,r.2⟩),rfl⟩
   · rw[decide_eq_false z,vz z];exact⟨ih1,ih2⟩
theorem Nv{b w:W}{k:Key}{v:V}(hb:KW b k)(rw':RW ρ w v):∀ {kvs:List (W × W)} {gs:List (Key × V)},KR ρ kvs gs->KR ρ (kj kvs b w) (gs.map fun kv=>if kv.1=k then(kv.1,v) else kv)
 | _,_,.nil=>.nil
 | p::kvs,q::gs,.cons r t=>by
   have e:kj (p::kvs) b w=ifB (keq p.1 b) (p.1,w) p::kj kvs b w:=rfl;rw[e,Nu r.1 hb,List.map_cons];refine .cons ?_ (Nv hb rw' t)
   by_cases z:q.1=k
   · rw[decide_eq_true z,if_pos z];exact⟨r.1,rw'⟩
   · rw[decide_eq_false z,if_neg z];exact r
theorem KR.snoc{p:W × W}{q:Key × V}(r:KW p.1 q.1/\RW ρ p.2 q.2):∀ {kvs:List (W × W)} {gs:List (Key × V)},KR ρ kvs gs->KR ρ (kvs ++ [p]) (gs ++ [q])
 | _,_,.nil=>.cons r .nil
 | _,_,.cons h t=>.cons h (KR.snoc r t)
theorem Y0{b w:W}{k:Key}{v:V}(hb:KW b k)(rw':RW ρ w v){kvs:List (W × W)}{gs:List (Key × V)}(h:KR ρ kvs gs):KR ρ (dM kvs b w) (putK gs k v):=by
 unfold dM putK;rw[(yU hb h).2,yL]
 cases (m9 gs k).isSome with
 | true=>rw[if_pos rfl];exact Nv hb rw' h
 | false=>rw[if_neg (by simp),iW];exact KR.snoc ⟨hb,rw'⟩ h
theorem adx{cl:Cn}{E:XK}{H:Hp}{β:Type}{o:O}{f:List (W × W)->R β}{P:β->Hs->List Addr->Hp->Prop}(p:Post cl ρ H E (o.onD f) P):∃ xs,o= .dk xs/\Post cl ρ H E (f xs) P:=by
 cases o with
 | dk xs=>exact⟨xs,rfl,p⟩
 | _=>exact p.elim
end
section
variable{Pg:List Fn}{cl:Cn}{E:XK}{d:Nat}{X:Cx}{σ σ0:L2.St}{H:Hp}
def rDG:R2:=fun x y H Q=>∃ a v,x= .ref a/\rT H a y (some v)/\Q v H
theorem Iz(hu:X.A.units+1<cLine):IxR X rDG:=by
 intro value slice pins s σ H x y v u Q I rx ry h hs;obtain⟨a,w,rfl,g,q⟩:=h;cases rx;exact tail_any (Qa I g) PySem.F.slot_dict_getitem.lookup (Vz hu I g ry fun w' s3 I3 rw'=>⟨w,H,I3,rw',q⟩) hs
theorem Ww:Op2 cl .M5 rDG:=fun E ρ h H w1 w2 v1 v2 Q s r1 r2 p=>by
 obtain⟨n,o,a,rfl,rfl,e1,g1,x1,p⟩:=oAt s r1 (show Post cl ρ H E (ofW (LK h w1 w2)) (VP Q) from p)
 cases o with
 | dk kvs=>
   obtain⟨gs,kr,hH⟩:=x1;have p:Post cl ρ H E (ofW (ifB (iT w2) (Opt (bD kvs w2) fun w=>.ok w h) .no)) (VP Q):=p
   cases c:iT w2 with
   | false=>rw[c]at p;exact p.elim
   | true=>
     rw[c]at p;obtain⟨k,kw,rfl⟩:=L_ c r2;obtain⟨f,_⟩:=yU kw kr;have p:Post cl ρ H E (ofW (Opt (bD kvs w2) fun w=>.ok w h)) (VP Q):=p
     cases e:bD kvs w2 with
     | none=>rw[e]at p;exact p.elim
     | some w=>
       rw[e]at p;obtain⟨v,ev,rv⟩:=f w e
       exact⟨a,v,rfl,ev ▸ rT.k hH,Post.gF s p rv⟩
 | _=>exact p.elim
theorem Rj{a b:Expr}{x y:Ev.X}{pos:Pos}(hu:X.A.units+1<cLine)(ha:PE X a (tE Pg cl E d x))(hb:PE X b (tE Pg cl E d y))(hs:xZ b:=by exact fun _ _=>rfl):PE X (.Subscript a b pos) (tE Pg cl E d (.pr .M5 [x,y])):=
 PE.of (yI (Iz hu) ha hb hs) fun _ _ _ q=>t6 Ww q
def rDI(f:Bool->Bool):R2:=fun y x H Q=>∃ a o,x= .ref a/\rT H a y o/\Q (.bl (f o.isSome)) H
theorem ady(f:Bool->Bool){p:Pr}(hp:∀ ws h,lX p ws h=fZ ws (YC f h)):Op2 cl p (rDI f):=fun E ρ h H w1 w2 v1 v2 Q s r1 r2 q=>by
 rw[hp]at q;obtain⟨n,o,a,rfl,rfl,e1,g1,x1,p⟩:=oAt s r2 (show Post cl ρ H E (ofW (YC f h w1 w2)) (VP Q) from q)
 cases o with
 | dk kvs=>
   obtain⟨gs,kr,hH⟩:=x1;have p:Post cl ρ H E (ofW (ifB (iT w1) (.yes (f (isS (bD kvs w1))) h) .no)) (VP Q):=p
   cases c:iT w1 with
   | false=>rw[c]at p;exact p.elim
   | true=>
     rw[c]at p;obtain⟨k,kw,rfl⟩:=L_ c r1;obtain⟨_,f2⟩:=yU kw kr;have p:Post cl ρ H E (ofW (.yes (f (isS (bD kvs w1))) h)) (VP Q):=p;rw[f2]at p
     exact⟨a,_,rfl,rT.k hH,Post.gF s p (.bl _)⟩
 | _=>exact p.elim
theorem aeX:Op2 cl .din (rDI id):=ady id fun _ _=>rfl
theorem Nx(hu:X.A.units+1<cLine):OpR X (compareOp .In) (rDI id):=by
 intro pins s σ H x y v u Q I rx ry h;obtain⟨a,o,rfl,g,q⟩:=h;cases ry;exact afN hu I g rx fun s3 I3=>⟨.bl o.isSome,H,I3,rfl,q⟩
theorem Rk{pos:Pos}:PE X (.Dict [] [] pos) (tE Pg cl E d (.pr .Tf [])):=PE.of Yi fun σ H Q x=>by
 obtain⟨ρ,τ,h,n,s,rs,q⟩:=x.step;intro p hp;have q:Post cl ρ H E (ofW (.alloc h (.dk []))) (VP Q):=q;exact q.new s hp ⟨[],.nil,aG⟩
theorem aa4{o k v:Ev.X}{D:Ends}(x:tS Pg cl E d σ0 (.dput o k v) D σ H):SQ (tE Pg cl E d o) (tE Pg cl E d k) (tE Pg cl E d v) D σ H:=by
 obtain⟨ρ,τ,h,n,s,rs,ag,q⟩:=x.step;refine ev.then s rs (show Post cl ρ H E ((evs Pg n d (.x v) τ h).bind fun r h=>r.toW fun w=>(evs Pg n d (.x o) τ h).bind fun r h=>r.toW fun a=>(evs Pg n d (.x k) τ h).bind fun r h=>r.toW fun b=>h.at a fun n o=>o.onD fun kvs=>ifB (iT b) (ifB (Nat.ble (len kvs) 1000000) (.ok (.fl (.nx τ)) (h.set n (.dk (dM kvs b w)))) .no) .no) (SPo σ0 D) from q) fun a1 h1 ρ1 H1 b1 s1 p1=>?_;obtain⟨w,rfl,p2⟩:=bK p1;refine⟨w,rfl,fun wv rwv=>?_⟩;refine ev.then s1 (rs.mono b1.1) p2 fun a2 h2 ρ2 H2 b2 s2 p3=>?_;obtain⟨a,rfl,p4⟩:=bK p3;refine⟨a,rfl,fun av rav=>?_⟩;refine ev.then s2 (rs.mono (b1.1.trans b2.1)) p4 fun a3 h3 ρ3 H3 b3 s3 p5=>?_;obtain⟨b,rfl,p6⟩:=bK p5;refine⟨b,rfl,fun bv rbv=>?_⟩;obtain⟨m,ob,ad,rfl,rfl,e1,g1,x1,p7⟩:=at_of s3 (rav.mono b3.1) p6;obtain⟨kvs,rfl,p8⟩:=adx p7;obtain⟨ck,p9⟩:=gK p8;obtain⟨cl1,p10⟩:=gK p9;obtain⟨gs,kr,hH⟩:=x1;obtain⟨key,kw,rfl⟩:=L_ ck rbv;have hl:kvs.length=gs.length:=Paired.length kr
 have hlt:gs.length<sizeLine:=by
  rw[ble_eq,len_eq]at cl1;have:=of_decide_eq_true cl1;rw[oO];omega
 have kr2:=Y0 kw ((rwv.mono b2.1).mono b3.1) kr;refine⟨ad,_,rfl,Ao.k hH hlt,?_⟩;obtain⟨f,ef,qf⟩:=p10 ρ3 (upd H3 ad (.dK (putK gs key wv))) (Bt.put e1) (s3.put e1 ⟨_,kr2,aG⟩);cases ef;exact qf σ (rs.mono (b1.1.trans (b2.1.trans b3.1))) ag
theorem IV{o i value:Expr}{xo xi xv:Ev.X}{pos pos':Pos}(hu:X.A.units+1<cLine)(ho:PE X o (tE Pg cl E d xo))(hi:PE X i (tE Pg cl E d xi))(hv:PE X value (tE Pg cl E d xv))(hs:swapsWith value (some (.Subscript o i pos')) pos.line X.env=pure false:=by rfl):
 PS X (.Assign [.Subscript o i pos'] value pos) (tS Pg cl E d σ0 (.dput xo xi xv)):=PS.of (QL hu ho hi hv hs) fun _ _ _ q=>aa4 q
end
end Ev
namespace L2
theorem bZ.u1{k:Nat}{A:PySem.Around}(r:bZ k A):A.units+1<PySem.cLine:=by have:=r.un;omega
end L2
namespace Ev
open PySem PySem.Spec PySem.SeqAt PyProof.Rows L2
section
variable{Pg:List Fn}{cl:Cn}{E:XK}{d:Nat}{X:Cx}{σ0:L2.St}
theorem aa5:QSs X [] (tSs Pg cl E d σ0 []):=⟨ao⟩
theorem Fb{st:Stmt}{rest:List Stmt}{a:S}{as:List S}(h1:QS X st (tS Pg cl E d σ0 a))(h2:QSs X rest (tSs Pg cl E d σ0 as)):QSs X (st::rest) (tSs Pg cl E d σ0 (a::as)):=⟨aa h1.h h2.h⟩
theorem adz{P:Program}{w:World}{K:aq}{mg:Str->Option Value}{base:Heap}{k i:Nat}{x qual:Str}{st:Stmt}{f:Addr}{fd:FuncData}{N ps:List Str}{b:List S}(F:Fun K x qual st f fd)(Sc:aD N ps (au st))(hp:Pg[i]? =some (.mk ps.length N.length b))
 (hbody:∀(σ0:L2.St) (cdv:Value) (A:Around) (outer:List Env) (s:Shared) (H:Hp) (E:XK),bZ k (A.deeper (envOfC qual (au st) s.heap.objs.size f cdv))->Passes (CXE P w) (qT (CXE P w) P w K mg base N qual (au st) f cdv A outer s H E) E->
   QSs (qT (CXE P w) P w K mg base N qual (au st) f cdv A outer s H E) (d8 st) (tSs Pg cl E d σ0 b)):bH P w K mg base (CXE P w) (k+1) f fd ps (spF Pg cl (d+1) i):=
 bJ F Sc hp fun σ0 cdv A outer s H E hr hq=>(hbody σ0 cdv A outer s H E hr hq).h
end
section
def heapOf(os:List O):Hs:=os.foldl (fun h o=>h.push o) (.mk 0 .lf)
def wJ(n:Nat)(ns:List Nat):Bool:=List.rec true (fun x _ r=>ifB (Nat.beq x n) false r) ns
end
section
variable{Pg:List Fn}{cl:Cn}{E:XK}{d:Nat}{X:Cx}{σ σ0:L2.St}{H:Hp}{ρ:List Addr}{h:Hs}{m:List Nat}
theorem aeY{b c:Bool}(e:ifB b c false=true):b=true/\c=true:=by cases b with | true=>exact⟨rfl,e⟩ | false=>cases e
theorem DY(os:List O)(o:O):heapOf (os ++ [o])=(heapOf os).push o:=by unfold heapOf;rw[List.foldl_append];rfl
theorem sY:∀(os:List O),(heapOf os).n=os.length/\∀ k,(heapOf os).get k=os[k]?:=by
 intro os;generalize e:os.length=n
 induction n generalizing os with
 | zero=>
   have:os= []:=List.length_eq_zero_iff.mp e;subst this
   exact⟨rfl,fun k=>by cases k <;> rfl⟩
 | succ n ih=>
   obtain⟨xs,x,rfl⟩:∃ xs x,os=xs ++ [x]:=⟨os.dropLast,os.getLast (by intro z;rw[z]at e;cases e),(List.dropLast_concat_getLast _).symm⟩;have l:xs.length=n:=by simpa using e
   obtain⟨h1,h2⟩:=ih xs l;rw[DY];refine⟨by rw[Hs.iw,h1],fun k=>?_⟩;rw[Hs.n6,h1]
   by_cases z:k=n
   · subst z;rw[if_pos rfl,List.getElem?_append_right (by omega),l,Nat.sub_self];rfl
   · rw[if_neg z,h2]
     by_cases q:k<n
     · rw[List.getElem?_append_left (by omega)]
     · rw[List.getElem?_eq_none (by omega),List.getElem?_eq_none (by rw[List.length_append,l];simp;omega)]
structure CS (cl:Cn)(n i:Nat)(kv:List (Nat × W))(os:List O)(r:Addr)(row:List V)(σ:L2.St)(H:Hp):Prop where
 len:σ.length=n
 at_:σ[i]? =some (some (.ref r))
 row:H r=some (.lst row)
 sim:∃ ρ,Sim cl ρ (heapOf os) H/\RS ρ (frm n kv) σ/\r ∉ ρ
end
section
variable{Pg:List Fn}{cl:Cn}{E:XK}{d:Nat}{X:Cx}{H H' H'':Hp}{ρ:List Addr}
def c7(cl:Cn)(H H':Hp):Prop:=(∀ b u,H b=some u->((cl.on=true->b ≠ cl.P)->H' b=some u)/\∃ u',H' b=some u')/\(Tb cl H->Tb cl H')
theorem c7.trans(a:c7 cl H H')(b:c7 cl H' H''):c7 cl H H'':=⟨fun c u e=>by
 obtain⟨h1,u',h2⟩:=a.1 c u e;obtain⟨h3,h4⟩:=b.1 c u' h2;refine⟨fun n=>?_,h4⟩;have:=h1 n;rw[h2]at this;cases this
 exact h3 n,fun t=>b.2 (a.2 t)⟩
theorem c7.of(s:fQ H H'):c7 cl H H':=⟨fun b u e=>⟨fun _=>s b u e,u,s b u e⟩,fun t on=>by
 obtain⟨ps,h1,h2,h3⟩:=t on;refine⟨ps,s _ _ h1,h2,fun pos cv e=>?_⟩;obtain⟨c',e1,e2⟩:=h3 pos cv e
 exact⟨c',e1,s _ _ e2⟩⟩
theorem c7.at(s:c7 cl H H')(t:Tb cl H){b:Addr}{u:HO}(n:∀ ps,u ≠ .tbl ps)(e:H b=some u):H' b=some u:=(s.1 b u e).1 (Rh t e n)
theorem c7.free(s:c7 cl H H'){b:Addr}(e:H' b=none):H b=none:=by
 cases z:H b with
 | none=>rfl
 | some u=>
   obtain⟨_,u',q⟩:=s.1 b u z;rw[e]at q;cases q
theorem Rm{os:List O}(t:Tb cl H)(l:ρ.length=os.length)(nd:ρ.Nodup)(h:∀(k:Nat) (a:Addr) (o:O),ρ[k]? =some a->os[k]? =some o->OA cl ρ H a o):Sim cl ρ (heapOf os) H:=by
 obtain⟨g1,g2⟩:=sY os;refine⟨by rw[g1,l],nd,fun k a e=>?_,t⟩;have hk:k<os.length:=by rw[<- l];exact(a_ e).1
 exact⟨os[k],by rw[g2];exact List.getElem?_eq_getElem hk,h k a _ e (List.getElem?_eq_getElem hk)⟩
def uK(os:List O)(h:Hs):Bool:=(List.range os.length).all fun k=>decide (h.get k=os[k]?)
theorem Y4{os:List O}{h:Hs}(e:uK os h=true){k:Nat}(hk:k<os.length):h.get k=os[k]?:=of_decide_eq_true (List.all_eq_true.mp e k (List.mem_range.mpr hk))
theorem Y5{os:List O}{h':Hs}{ρ':List Addr}(s:Sim cl ρ (heapOf os) H)(b:Bt cl ρ H ρ' H')(s':Sim cl ρ' h' H')(k:uK os h'=true)(flat:∀ a ∈ ρ,∃ u,H a=some u/\∀ ps,u ≠ .tbl ps)
 (same:∀(j:Nat) (a:Addr) (o:O),ρ[j]? =some a->os[j]? =some o->OA cl ρ' H' a o->H' a=H a):c7 cl H H':=by
 obtain⟨g1,_⟩:=sY os;refine⟨fun c u e=>?_,fun _=>s'.tb⟩
 by_cases z:c ∈ ρ
 · obtain⟨j,hj⟩:=List.getElem?_of_mem z;have hjl:j<os.length:=by rw[<- g1,<- s.len];exact(a_ hj).1
   have x:=s'.at (iI b.1 hj) ((Y4 k hjl).trans (List.getElem?_eq_getElem hjl));have q:=same j c _ hj (List.getElem?_eq_getElem hjl) x;exact⟨fun _=>q.trans e,u,q.trans e⟩
 · obtain⟨_,h2,h3⟩:=b.2 c u e z;exact⟨h2,h3⟩
end
section
variable{Pg:List Fn}{cl:Cn}{E:XK}{d:Nat}{X:Cx}{H H' H'':Hp}{ρ:List Addr}
def PsA(H:Hp)(a:Addr)(bs:List Addr)(ps:List (Int × Int)):Prop:=H a=some (.lst (bs.map V.ref))/\Paired (fun b (p:Int × Int)=>H b=some (.tup [.int p.1,.int p.2])) bs ps
def psO(ps:List (Int × Int)):List O:=.lst ((List.range ps.length).map fun k=>.ref (k+1))::ps.map fun p=>.tup [.int p.1,.int p.2]
theorem Paired.IW{α β:Type}{R:α->β->Prop}:∀ {xs:List α} {ys:List β} {i:Nat} {a:α} {b:β},Paired R xs ys->xs[i]? =some a->ys[i]? =some b->R a b
 | _,_,_,_,_,.nil,e,_=>by simp at e
 | _,_,0,_,_,.cons r _,e,e'=>by simp at e e';subst e;subst e';exact r
 | _,_,i+1,a,b,.cons _ t,e,e'=>Paired.IW (i:=i) (a:=a) (b:=b) t (by simpa using e) (by simpa using e')
theorem PsA.nd{a:Addr}{bs:List Addr}{ps:List (Int × Int)}(h:PsA H a bs ps)(n:ps.Nodup):(a::bs).Nodup:=by
 obtain⟨h1,h2⟩:=h;rw[List.nodup_cons]
 constructor
 · intro m;obtain⟨i,hi⟩:=List.getElem?_of_mem m;have hl:i<ps.length:=by rw[<- h2.length];exact(a_ hi).1
   have:=Paired.IW h2 hi (List.getElem?_eq_getElem hl);rw[h1]at this;cases this
 · clear h1
   induction h2 with
   | nil=>exact List.nodup_nil
   | @cons b p bs ps r t ih=>
     rw[List.nodup_cons]at n ⊢;refine⟨fun m=>n.1 ?_,ih n.2⟩;obtain⟨i,hi⟩:=List.getElem?_of_mem m;have hl:i<ps.length:=by rw[<- t.length];exact(a_ hi).1
     have q:=Paired.IW t hi (List.getElem?_eq_getElem hl);rw[r]at q
     have:p=ps[i]:=by
      injection q with q;injection q with q;injection q with q1 q2;injection q1 with q1;injection q2 with q2;injection q2 with q2;exact Prod.ext q1 q2
     rw[this];exact List.getElem_mem hl
theorem Ny(ρ:List Addr):∀(bs:List Addr) (k:Nat),(∀ i b,bs[i]? =some b->ρ[k+i]? =some b)->RWs ρ ((List.range' k bs.length).map W.ref) (bs.map V.ref)
 | [],_,_=>.nil
 | b::bs,k,h=>.cons (.ref (by simpa using h 0 b rfl)) (Ny ρ bs (k+1) fun i c e=>by
    have:=h (i+1) c (by simpa using e)
    rw[<- this];congr 1;omega)
theorem PsA.sim{a:Addr}{bs:List Addr}{ps:List (Int × Int)}(h:PsA H a bs ps)(n:ps.Nodup)(t:Tb cl H):Sim cl (a::bs) (heapOf (psO ps)) H:=by
 refine Rm t (by simp[psO,h.2.length]) (h.nd n) fun k c o hk ho=>?_
 cases k with
 | zero=>
   simp at hk;subst hk;simp[psO]at ho;subst ho;refine⟨_,?_,h.1⟩;have:=Ny (a::bs) bs 1 fun i b e=>by rw[Nat.add_comm];simpa using e
   rw[h.2.length]at this;rw[List.range'_eq_map_range,List.map_map]at this
   simpa [Function.comp_def,Nat.add_comm] using this
 | succ k=>
   have hk':bs[k]? =some c:=by simpa using hk
   have ho':(ps.map fun p=>O.tup [.int p.1,.int p.2])[k]? =some o:=by simpa [psO] using ho
   rw[List.getElem?_map]at ho'
   cases e:ps[k]? with
   | none=>rw[e]at ho';cases ho'
   | some p=>
     rw[e]at ho';cases Option.some.inj ho';have w1:=Paired.IW h.2 hk' e;exact⟨_,.cons (.int _) (.cons (.int _) .nil),w1⟩
theorem PsA.call{a:Addr}{bs:List Addr}{ps:List (Int × Int)}(h:PsA H a bs ps)(n:ps.Nodup)(t:Tb cl H){f k:Nat}{m:Int}{r:W}{h':Hs}{Q:VK}
 (e:evs Pg k d (.call f [.int m,.ref 0]) [] (heapOf (psO ps))= .ok (.w r) h') (kq:uK (psO ps) h'=true)
 (q:∀ ρ' H' v,(a::bs) <+:ρ'->(∀ x ∈ ρ',x ∉ a::bs->H x=none)->Sim cl ρ' h' H'->c7 cl H H'->RW ρ' r v->Q v H'):spF Pg cl d f [.int m,.ref a] H Q E:=by
 have s:=h.sim n t;refine⟨a::bs,[.int m,.ref 0],heapOf (psO ps),k,s,.cons (.int m) (.cons (.ref rfl) .nil),?_⟩;rw[e];intro ρ' H' b s';refine⟨r,rfl,fun v hv=>q ρ' H' v b.1 (fun x hx hn=>?_) s' ?_ hv⟩
 · cases z:H x with
   | none=>rfl
   | some u=>exact((b.2 x u z hn).1 hx).elim
 · refine Y5 s b s' kq (fun c hc=>?_) fun j c o hj ho x=>?_
   · rcases List.mem_cons.mp hc with rfl | m
     · exact⟨_,h.1,fun _ z=>by cases z⟩
     · obtain⟨i,hi⟩:=List.getElem?_of_mem m;have hl:i<ps.length:=by rw[<- h.2.length];exact(a_ hi).1
       have w1:=Paired.IW h.2 hi (List.getElem?_eq_getElem hl);exact⟨_,w1,fun _ z=>by cases z⟩
   · have y:=s.at hj ((sY (psO ps)).2 j |>.trans ho)
     have up:∀ xs vs,RWs (a::bs) xs vs->∀ vs',RWs ρ' xs vs'->vs=vs':=fun xs vs u=>by
      induction u with
      | nil=>intro vs' u';cases u';rfl
      | cons r1 _ ih=>
        intro vs' u'
        cases u' with
        | cons r2 t2=>
          rw[ih _ t2];congr 1
          cases r1 <;> cases r2 <;> first | rfl | skip
          rename_i e1 _ e2;rw[iI b.1 e1]at e2;rw[Option.some.inj e2]
     have:(∃ xs,o= .tup xs)\/∃ xs,o= .lst xs:=by
      cases j with
      | zero=>simp[psO]at ho;exact .inr ⟨_,ho.symm⟩
      | succ j=>
        have ho':(ps.map fun p=>O.tup [.int p.1,.int p.2])[j]? =some o:=by simpa [psO] using ho
        rw[List.getElem?_map]at ho'
        cases e:ps[j]? with
        | none=>rw[e]at ho';cases ho'
        | some p=>rw[e]at ho';cases Option.some.inj ho';exact .inl ⟨_,rfl⟩
     rcases this with ⟨xs,rfl⟩ | ⟨xs,rfl⟩
     · obtain⟨v1,u1,w1⟩:=y;obtain⟨v2,u2,w2⟩:=x;rw[w1,w2,up _ _ u1 _ u2]
     · obtain⟨v1,u1,w1⟩:=y;obtain⟨v2,u2,w2⟩:=x;rw[w1,w2,up _ _ u1 _ u2]
end
def aP:Nat->List Int->List (List (Int × Int))
 | _,[]=>[[]]
 | 0,_::_=>[]
 | n+1,x::t=>t.flatMap fun p=>(aP n (t.filter fun y=> !decide (y=p))).map fun rest=>(x,p)::rest
def Lp(H₀ H:Hp)(a:Addr)(ps:List (Int × Int)):Prop:=∃ bs:List Addr,PsA H a bs ps/\∀ b ∈ bs,H₀ b=none
theorem Lp.keep{H₀ H H':Hp}{a:Addr}{ps:List (Int × Int)}(h:Lp H₀ H a ps)(ha:∀ u,H a=some u->H' a=some u)(ht:∀ b xs,H b=some (.tup xs)->H' b=some (.tup xs)):Lp H₀ H' a ps:=by
 obtain⟨bs,⟨e,r⟩,n⟩:=h;exact⟨bs,⟨ha _ e,Paired.pA r fun _ _ q=>ht _ _ q⟩,n⟩
theorem Lp.same{H₀ H H':Hp}{a:Addr}{ps:List (Int × Int)}(h:Lp H₀ H a ps)(s:fQ H H'):Lp H₀ H' a ps:=h.keep (fun _ e=>s _ _ e) fun _ _ e=>s _ _ e
theorem Lp.old{H₀ H₁ H:Hp}{a:Addr}{ps:List (Int × Int)}(h:Lp H₁ H a ps)(s:∀ b,H₁ b=none->H₀ b=none):Lp H₀ H a ps:=by
 obtain⟨bs,p,n⟩:=h;exact⟨bs,p,fun b hb=>s b (n b hb)⟩
theorem fQ.free{H H':Hp}(s:fQ H H')(b:Addr)(e:H' b=none):H b=none:=by
 cases z:H b with
 | none=>rfl
 | some u=>rw[s b u z]at e;cases e
theorem Lp.put{H₀ H:Hp}{a F:Addr}{o:HO}{ps xs}(h:Lp H₀ H a ps)(ne:a ≠ F)(hF:H F=some (.lst xs)):Lp H₀ (upd H F o) a ps:=h.keep (fun _ e=>by rw[aN ne];exact e) fun b ys e=>by rw[aN (ZG e hF (fun z=>by cases z))];exact e
abbrev LAs(H₀ H:Hp):List Addr->List (List (Int × Int))->Prop:=Paired (Lp H₀ H)
theorem Paired.TJ{α β:Type}{R:α->β->Prop}{a:α}{b:β}(r:R a b):∀ {xs:List α} {ys:List β},Paired R xs ys->Paired R (xs ++ [a]) (ys ++ [b])
 | _,_,.nil=>.cons r .nil
 | _,_,.cons h t=>.cons h (Paired.TJ r t)
theorem Paired.Fd{α β:Type}{R:α->β->Prop}:∀ {xs:List α} {ys:List β} {i:Nat} {a:α},Paired R xs ys->xs[i]? =some a->∃ b,ys[i]? =some b/\R a b
 | _,_,_,_,.nil,e=>by simp at e
 | _,_,0,_,.cons r _,e=>by simp at e;subst e;exact⟨_,rfl,r⟩
 | _,_,i+1,a,.cons _ t,e=>by
   obtain⟨b,h1,h2⟩:=Paired.Fd (i:=i) (a:=a) t (by simpa using e);exact⟨b,by simpa using h1,h2⟩
def GK(n:Nat):Sp:=fun vs H Q _=>∃(a:Addr) (ns:List Int),vs= [.ref a]/\H a=some (.lst (ns.map V.int))/\ns.length<n/\ns.length<=20/\(aP n ns).length<=100000/\
 ∀(r:Addr) (as:List Addr) (H':Hp),H r=none->fQ H H'->H' r=some (.lst (as.map V.ref))->LAs H H' as (aP n ns)->(∀ x ∈ as,H x=none/\x ≠ r)->Q (.ref r) H'
theorem adA{x:Int}{t:List Int}{n:Nat}{p:Int}(h:p ∈ t):(aP n (t.filter fun y=> !decide (y=p))).length<=(aP (n+1) (x::t)).length:=by
 show _<=(t.flatMap fun p=>(aP n (t.filter fun y=> !decide (y=p))).map fun rest=>(x,p)::rest).length;generalize ht:t=s at h ⊢
 have:∀ l:List Int,p ∈ l->(aP n (s.filter fun y=> !decide (y=p))).length<=(l.flatMap fun p=>(aP n (s.filter fun y=> !decide (y=p))).map fun rest=>(x,p)::rest).length:=by
  intro l
  induction l with
  | nil=>intro h;simp at h
  | cons q l ih=>
    intro h;rw[List.flatMap_cons,List.length_append,List.length_map]
    rcases List.mem_cons.mp h with e | e
    · rw[e];omega
    · have:=ih e;omega
 exact this s h
theorem Wx{α β:Type}(f:α->List β)(l:List α)(i:Nat):((l.take i).flatMap f).length<=(l.flatMap f).length:=by
 have:l.flatMap f=(l.take i).flatMap f++(l.drop i).flatMap f:=by rw[<- List.flatMap_append,List.take_append_drop]
 rw[this,List.length_append];omega
theorem LAs.put{H₀ H:Hp}{F:Addr}{o:HO}{xs:List V}(hF:H F=some (.lst xs)):∀ {as:List Addr} {pss:List (List (Int × Int))},LAs H₀ H as pss->(∀ z ∈ as,z ≠ F)->LAs H₀ (upd H F o) as pss
 | _,_,.nil,_=>.nil
 | a::as,_::_,.cons r t,h=>.cons (r.put (h a (by simp)) hF) (LAs.put hF t fun z hz=>h z (List.mem_cons_of_mem _ hz))
theorem LAs.same{H₀ H H':Hp}{as:List Addr}{pss:List (List (Int × Int))}(h:LAs H₀ H as pss)(s:fQ H H'):LAs H₀ H' as pss:=Paired.pA h fun _ _ r=>r.same s
theorem LAs.old{H₀ H₁ H:Hp}{as:List Addr}{pss:List (List (Int × Int))}(h:LAs H₁ H as pss)(s:∀ b,H₁ b=none->H₀ b=none):LAs H₀ H as pss:=Paired.pA h fun _ _ r=>r.old s
theorem pairs_len:∀ {n:Nat} {ns:List Int} {ps:List (Int × Int)},ps ∈ aP n ns->ps.length<=ns.length
 | _,[],ps,h=>by
   have:ps= []:=by simpa [aP] using h
   rw[this];simp
 | 0,_::_,ps,h=>by simp[aP]at h
 | n+1,x::t,ps,h=>by
   obtain⟨p,hp,h⟩:=List.mem_flatMap.mp (show ps ∈ t.flatMap fun p=>(aP n (t.filter fun y=> !decide (y=p))).map fun rest=>(x,p)::rest from h);obtain⟨r,hr,rfl⟩:=List.mem_map.mp h;have h1:=pairs_len hr;have h2:=List.length_filter_le (fun y=> !decide (y=p)) t;simp only[List.length_cons];omega
theorem Lp.GP{cl:Cn}{H₀ H H':Hp}{a:Addr}{ps:List (Int × Int)}(h:Lp H₀ H a ps)(s:c7 cl H H')(t:Tb cl H):Lp H₀ H' a ps:=by
 obtain⟨bs,⟨e,r⟩,n⟩:=h;exact⟨bs,⟨s.at t (fun _ z=>by cases z) e,Paired.pA r fun _ _ q=>s.at t (fun _ z=>by cases z) q⟩,n⟩
theorem LAs.GP{cl:Cn}{H₀ H H':Hp}{as:List Addr}{pss:List (List (Int × Int))}(h:LAs H₀ H as pss)(s:c7 cl H H')(t:Tb cl H):LAs H₀ H' as pss:=Paired.pA h fun _ _ r=>r.GP s t
theorem c7.put{cl:Cn}{H H':Hp}{D:Addr}{xs ys:List V}(s:c7 cl H H')(t:Tb cl H')(n:H D=none)(e:H' D=some (.lst xs)):c7 cl H (upd H' D (.lst ys)):=⟨fun b u q=>by
 have nb:b ≠ D:=cg q n
 rw[aN nb];exact s.1 b u q,fun _ on=>by
 obtain⟨ps,h1,h2,h3⟩:=t on;refine⟨ps,by rw[aN (fun z=>by rw[z,e]at h1;cases h1)];exact h1,h2,fun pos cv q=>?_⟩;obtain⟨c',e1,e2⟩:=h3 pos cv q
 exact⟨c',e1,by rw[aN (fun z=>by rw[z,e]at e2;cases e2)];exact e2⟩⟩
abbrev I9:=Nat->Option (List (Int × Int) × List Int)
def I_(cl:Cn)(tbl:I9):Sp:=fun vs H Q _=>∃ m ps adds,vs= [.int (m:Nat)]/\tbl m=some (ps,adds)/\Tb cl H/\
 ∀(r a b:Addr) (bs:List Addr) (H':Hp),(a::bs ++ [b,r]).Nodup->(∀ x ∈ a::bs ++ [b,r],H x=none)->c7 cl H H'->H' r=some (.tup [.ref a,.ref b])->PsA H' a bs ps->H' b=some (.lst (adds.map V.int))->Q (.ref r) H'
def plO(n:Nat)(ps:List (Int × Int))(adds:List Int):List O:=(.lst ((List.range' (n+1) ps.length).map W.ref)::ps.map fun p=>.tup [.int p.1,.int p.2]) ++ [.lst (adds.map W.int),.tup [.ref n,.ref (n+1+ps.length)]]
def TQ:I9
 | 7=>some ([(1,3),(2,6),(4,5)],[2,4,1])
 | 9=>some ([(1,2),(3,7),(4,6),(5,8)],[5,4,2,7])
 | 11=>some ([(1,2),(3,6),(4,8),(5,10),(7,9)],[3,9,1,4,5])
 | _=>none
def vG(h:Hs)(os:List O):Hs:=os.foldl (fun h o=>h.push o) h
theorem D_:∀(os:List O) (h:Hs),(vG h os).n=h.n+os.length/\∀ k,(vG h os).get k=if k<h.n then h.get k else if k<h.n+os.length then os[k - h.n]? else h.get k
 | [],h=>⟨rfl,fun k=>by
   show h.get k=_
   by_cases c:k<h.n
   · rw[if_pos c]
   · rw[if_neg c,if_neg (by simpa using c)]⟩
 | o::os,h=>by
   obtain⟨g1,g2⟩:=D_ os (h.push o);have e:vG h (o::os)=vG (h.push o) os:=rfl;rw[Hs.iw]at g1 g2;rw[e];refine⟨by rw[g1,List.length_cons];omega,fun k=>?_⟩;rw[g2 k,Hs.n6]
   by_cases c:k<h.n
   · rw[if_pos (show k<h.n+1 by omega),if_neg (show ¬ k=h.n by omega),if_pos c]
   · rw[if_neg c]
     by_cases c2:k=h.n
     · subst c2;rw[if_pos (Nat.lt_succ_self _),if_pos rfl,if_pos (by rw[List.length_cons];omega),Nat.sub_self];rfl
     · rw[if_neg (show ¬ k<h.n+1 by omega),if_neg c2,List.length_cons]
       by_cases c3:k<h.n+1+os.length
       · rw[if_pos c3,if_pos (show k<h.n+(os.length+1) by omega),show k - h.n=(k - (h.n+1))+1 by omega];simp
       · rw[if_neg c3,if_neg (show ¬ k<h.n+(os.length+1) by omega)]
theorem Nz{ρ:List Addr}:∀(xs:List Int),RWs ρ (xs.map W.int) (xs.map V.int)
 | []=>.nil
 | _::xs=>.cons (.int _) (Nz xs)
def pPl(tbl:I9)(h:Hs)(w:W):R W:=w.onI fun i=>Int.rec (fun m=>Opt (tbl m) fun t=>.ok (.ref (h.n+t.1.length+2)) (vG h (plO h.n t.1 t.2))) (fun _=>.no) i
def Pr.plan(tbl:I9):Pr:=⟨fun ws h=>gO ws (pPl tbl h)⟩
variable{Pg:List Fn}{cl:Cn}{E:XK}{d:Nat}{X:Cx}
theorem adB{tbl:I9}:OpN cl (.plan tbl) (fun vs H Q=>I_ cl tbl vs H Q E0):=fun E ρ h H ws vs Q s r p=>by
 obtain⟨w,v,rfl,rfl,r1,p⟩:=Gx r (show Post cl ρ H E (ofW (gO ws (pPl tbl h))) (VP Q) from p);obtain⟨i,rfl,p⟩:=oI p;cases r1
 cases i with
 | negSucc _=>exact p.elim
 | ofNat m=>
   obtain⟨⟨ps,adds⟩,e,p⟩:=pD (show Post cl ρ H E (ofW (Opt (tbl m) fun t=>.ok (.ref (h.n+t.1.length+2)) (vG h (plO h.n t.1 t.2)))) (VP Q) from p);refine⟨m,ps,adds,rfl,e,s.tb,fun r a b bs H' nd fr sm hr pa hb=>?_⟩;have bl:bs.length=ps.length:=pa.2.length;obtain⟨g1,g2⟩:=D_ (plO h.n ps adds) h;have ol:(plO h.n ps adds).length=ps.length+3:=by simp[plO]
   have sl:=s.len
   have gN:∀ k,(ρ++(a::bs ++ [b,r]))[h.n+k]? =(a::bs ++ [b,r])[k]?:=fun k=>by
    rw[List.getElem?_append_right (by omega)];congr 1;omega
   have B:Bt cl ρ H (ρ++(a::bs ++ [b,r])) H':=⟨List.prefix_append _ _,fun c u q n=>⟨fun z=>(List.mem_append.mp z).elim n fun z=>by
    exact absurd q (by rw[fr c z];intro y;cases y),sm.1 c u q⟩⟩
   have S:Sim cl (ρ++(a::bs ++ [b,r])) (vG h (plO h.n ps adds)) H':=by
    refine⟨?_,?_,fun k c hk=>?_,sm.2 s.tb⟩
    · rw[g1,ol,List.length_append,sl];simp[bl]
    · refine List.nodup_append.mpr ⟨s.nd,nd,fun c hc e he z=>?_⟩;subst z;obtain⟨j,hj⟩:=List.getElem?_of_mem hc;obtain⟨o,_,x⟩:=s.obj j c hj;obtain⟨u,hu⟩:=x.som;rw[fr c he]at hu;cases hu
    · by_cases c1:k<h.n
      · rw[List.getElem?_append_left (by omega)]at hk;obtain⟨o,ho,x⟩:=s.obj k c hk;refine⟨o,by rw[g2,if_pos c1];exact ho,x.keep (List.prefix_append _ _) ?_⟩;obtain⟨u,hu⟩:=x.som
        have np:cl.on=true->c ≠ cl.P:=fun on z=>by
         obtain⟨ps',h1,_⟩:=s.tb on;have y:=x.pl;rw[z,h1]at y;exact y.elim
        rw[hu];exact(sm.1 c u hu).1 np
      · obtain⟨j,rfl⟩:∃ j,k=h.n+j:=⟨k - h.n,by omega⟩;rw[gN]at hk
        have hj:j<ps.length+3:=by
         have:=(a_ hk).1;simp[bl]at this;omega
        rw[g2,if_neg c1,if_pos (by omega),Nat.add_sub_cancel_left]
        cases j with
        | zero=>
          have:a=c:=by simpa using hk
          subst this;refine⟨_,rfl,bs.map V.ref,?_,pa.1⟩
          have:=Ny (ρ++(a::bs ++ [b,r])) bs (h.n+1) fun i b' e=>by
           rw[show h.n+1+i=h.n+(i+1) by omega,gN,List.cons_append,List.getElem?_cons_succ,List.getElem?_append_left (a_ e).1];exact e
          rw[bl]at this
          exact this
        | succ j=>
          rw[List.cons_append,List.getElem?_cons_succ]at hk;have e0:(plO h.n ps adds)[j+1]? =((ps.map fun p=>O.tup [.int p.1,.int p.2]) ++ [.lst (adds.map W.int),.tup [.ref h.n,.ref (h.n+1+ps.length)]])[j]?:=rfl;rw[e0]
          by_cases c2:j<ps.length
          · rw[List.getElem?_append_left (by omega)]at hk;rw[List.getElem?_append_left (by simpa using c2)];have q:=Paired.IW pa.2 hk (List.getElem?_eq_getElem c2);refine⟨.tup [.int ps[j].1,.int ps[j].2],by simp[c2],_,.cons (.int _) (.cons (.int _) .nil),q⟩
          · rw[List.getElem?_append_right (by omega),bl]at hk;rw[List.getElem?_append_right (by simpa using c2),List.length_map]
            obtain hz | hz:j - ps.length=0\/j - ps.length=1:=by omega
            · rw[hz]at hk ⊢;have:b=c:=by simpa using hk
              subst this;exact⟨_,rfl,adds.map V.int,Nz adds,hb⟩
            · rw[hz]at hk ⊢;have:r=c:=by simpa using hk
              subst this;refine⟨_,rfl,_,.cons (.ref ?_) (.cons (.ref ?_) .nil),hr⟩
              · rw[<- Nat.add_zero h.n,gN];rfl
              · rw[show h.n+1+ps.length=h.n+(ps.length+1) by omega,gN,List.cons_append,List.getElem?_cons_succ,List.getElem?_append_right (by omega),bl,Nat.sub_self];rfl
   obtain⟨w,e2,q⟩:=p _ _ B S;cases e2;refine q _ (.ref ?_);show(ρ++(a::bs ++ [b,r]))[h.n+ps.length+2]? =some r;rw[show h.n+ps.length+2=h.n+(ps.length+1+1) by omega,gN,List.cons_append,List.getElem?_cons_succ,List.getElem?_append_right (by omega),bl,show ps.length+1 - ps.length=1 by omega];rfl
theorem aa6{k:Nat}{fa:Addr}{fd:FuncData}{ps:List Str}{x:Str}{e:Expr}{es:List Expr}{y:Ev.X}{ys:List Ev.X}{p pos:Pos}{tbl:I9}(F:bH X.prog X.w X.K X.mg X.base CX0 k fa fd ps (I_ cl tbl))(hr:bZ k X.A)(hg:Gl X x)(hm:X.mg x=some (.ref fa))(hk:PySem.W.keepIn X.K (.ref fa)=true)(hb:Binds X.K fd ps [])
 (ha:PA X (e::es) (tA Pg cl E d (y::ys))) (hdb:(x==("__debug__":Str))=false:=by decide) (he:starEach (e::es) X.env=(false,eval e X.env)::starEach es X.env:=by rfl) (hpl:(backTo pos (starEach es X.env)).any (·.1)=false:=by rfl):
 PE X (.Call (.Name x p) (e::es) [] pos) (tE Pg cl E d (.pr (.plan tbl) (y::ys))):=PE.of (xY F hr hg hm hk hb .nil uG ha hdb he hpl) fun σ H Q z=>by
 have o:OpN cl (.plan tbl) (fun vs H Q=>I_ cl tbl (vs ++ []) H Q E0):=fun E ρ h H ws vs Q s r p=>by
  show I_ cl tbl (vs ++ []) H Q E0;rw[List.append_nil];exact adB E ρ h H ws vs Q s r p
 exact Ir o z
end Ev
namespace Ev
open PySem L2
section
variable{Pg:List Fn}{cl:Cn}{E:XK}{d:Nat}{X:Cx}{σ0:L2.St}
theorem fsc{N P:List Str}{sc:Scope}(h4:N.Nodup:=by decide +kernel)(h6:∀ x ∈ P,sc.names.lookup x=some .local\/sc.names.lookup x=some .cell:=by decide +kernel)(h7:∀ y ∈ sc.names,y.2 ≠ .free:=by decide +kernel)(h1:sc.kind= .function:=by rfl)(h2:sc.isCoroutine=false:=by rfl)(h3:sc.isGenerator=false:=by rfl)(h5:N.take P.length=P:=by rfl):aD N P sc:=⟨h1,h2,h3,h4,h5,h6,h7⟩
theorem dv(i:Nat){x:Str}{pos:Pos}(hN:X.N[i]? =some x:=by rfl)(hv:Vis X.env.scope x:=by first | exact Or.inl rfl | exact Or.inr (Or.inl rfl) | exact Or.inr (Or.inr rfl))(hd:(x==("__debug__":Str))=false:=by decide)
 (hcd:(x==("__classdict__":Str))=false:=by decide):PE X (.Name x pos) (tE Pg cl E d (.var i)):=ac4 hN hv hd hcd
theorem aJ(i:Nat){x:Str}{pos:Pos}(hN:X.N.Nodup)(hi:X.N[i]? =some x:=by rfl)(hx:Loc X.env.scope x:=by first | exact Or.inl rfl | exact Or.inr rfl)(hf:X.fn x=true\/X.env.scope.names.lookup x=some .local:=by first | exact .inl rfl | exact .inr rfl | assumption):PG X (.Name x pos) (tG cl (.nm i)):=aaY hN hi hx hf
theorem bF(i:Nat){x:Str}{e:Expr}{y:Ev.X}{pos pos':Pos}(hN:X.N.Nodup)(he:PE X e (tE Pg cl E d y))(hi:X.N[i]? =some x:=by rfl)(hx:Loc X.env.scope x:=by first | exact Or.inl rfl | exact Or.inr rfl)(hs:swapsWith e (some (.Name x pos')) pos.line X.env=pure false:=by rfl)(hf:X.fn x=true\/X.env.scope.names.lookup x=some .local:=by first | exact .inl rfl | exact .inr rfl | assumption):
 PS X (.Assign [.Name x pos'] e pos) (tS Pg cl E d σ0 (.asg (.nm i) y)):=Wf hN hi hx he hs hf
theorem cR{k k' f:Nat}{fa:Addr}{fd:FuncData}{ps:List Str}{x:Str}{st:Stmt}{e:Expr}{es:List Expr}{y:Ev.X}{ys:List Ev.X}{p pos:Pos}(F:bH X.prog X.w X.K X.mg X.base (CXE X.prog X.w) k fa fd ps (spF Pg cl d f))(D:Df X.K X.mg x st ps fa fd)(hr:bZ k' X.A)
 (hx:Passes (CXE X.prog X.w) X E) (ha:PA X (e::es) (tA Pg cl E d (y::ys))) (hk:k<=k':=by omega) (hg:Gl X x:=by rfl) (hdb:(x==("__debug__":Str))=false:=by decide) (he:starEach (e::es) X.env=(false,eval e X.env)::starEach es X.env:=by rfl) (hpl:(backTo pos (starEach es X.env)).any (·.1)=false:=by rfl):
 PE X (.Call (.Name x p) (e::es) [] pos) (tE Pg cl E d (.call f (y::ys))):=rZ F (hr.mono hk) hg D.mg D.fn.kp D.bd hx ha hdb he hpl
end
def Qn(ps:List Str)(P:List Value->Prop):Prop:=match ps with
 | []=>P []
 | _::ps=>∀ v,Qn ps fun us=>P (v::us)
theorem Wy:∀ {ps:List Str} {P:List Value->Prop},Qn ps P->∀ us:List Value,us.length=ps.length->P us
 | [],_,h,[],_=>h
 | [],_,_,_::_,e=>by simp at e
 | _::_,_,_,[],e=>by simp at e
 | _::_,_,h,v::us,e=>Wy (h v) us (by simpa using e)
section
variable{K:aq}{x q m:Str}{st:Stmt}{f C:Addr}{fd:FuncData}{ps:List Str}{h:Heap}{mg:Str->Option Value}
theorem fbn(F:Fun K x q st f fd)(b:∀ kV doc pm an cdv ct,Qn ps fun us=>bindArgs (PySem.W.fnOf x q (kO st) (d8 st) (au st) .none kV doc pm an cdv ct) ⟨us,[]⟩ =pure (ps.zip us):=by(repeat intro _);exact rfl):Binds K fd ps []:=
 F.binds fun kV doc pm an cdv ct us hl=>Wy (b kV doc pm an cdv ct) us hl
structure DK (K:aq)(x:Str)(st:Stmt)(f:Addr)(fd:FuncData):Prop where
 F:Fun K x x st f fd
 a:PySem.W.nsIn K mainGlobals x=some (some (.ref f))
theorem DK.df(D:DK K x st f fd)(X:K.In h)(G:h.Ns mainGlobals mg)(b:∀ kV doc pm an cdv ct,Qn ps fun us=>bindArgs (PySem.W.fnOf x x (kO st) (d8 st) (au st) .none kV doc pm an cdv ct) ⟨us,[]⟩ =pure (ps.zip us):=by(repeat intro _);exact rfl):Df K mg x st ps f fd:=⟨D.F,fbn D.F b,PySem.W.mg_of X G D.a⟩
theorem cj{oc:Value}{od an:Option Addr}{osl:Array (Option Value)}{kV doc pm cdv ct:Value}(a:PySem.W.nsIn K mainGlobals x=some (some (.ref f)))(l:K.lookup f=some ⟨oc,od,.func (PySem.W.fnOf x x (kO st) (d8 st) (au st) .none kV doc pm an cdv ct),osl⟩)
 (c:PySem.W.codeIn K cdv x=true) (k:PySem.W.keepIn K (.ref f)=true):∃ fd,DK K x st f fd:=⟨_,Gh l c k,a⟩
structure MK (K:aq)(C:Addr)(m q:Str)(st:Stmt)(f:Addr)(fd:FuncData):Prop where
 F:Fun K m q st f fd
 a:PySem.W.findIn K (.ref C) m=some (some (.ref f))
 n:PySem.W.isFn K (.ref f)=true
theorem MK.mt(D:MK K C m q st f fd):Meth K C m f:=⟨D.a,D.n,D.F.kp⟩
theorem sZ{oc:Value}{od an:Option Addr}{osl:Array (Option Value)}{kV doc pm cdv ct:Value}(a:PySem.W.findIn K (.ref C) m=some (some (.ref f)))(l:K.lookup f=some ⟨oc,od,.func (PySem.W.fnOf m q (kO st) (d8 st) (au st) .none kV doc pm an cdv ct),osl⟩)
 (c:PySem.W.codeIn K cdv q=true) (k:PySem.W.keepIn K (.ref f)=true) (n:PySem.W.isFn K (.ref f)=true):∃ fd,MK K C m q st f fd:=⟨_,Gh l c k,a,n⟩
structure IK (K:aq)(C:Addr)(m q:Str)(st:Stmt)(f:Addr)(fd:FuncData):Prop where
 F:Fun K m q st f fd
 a:PySem.W.findIn K (.ref C) m=some (some (.ref f))
 n:PySem.W.typeIn K (.ref f)=some (.type "function")
theorem yV{oc:Value}{od an:Option Addr}{osl:Array (Option Value)}{kV doc pm cdv ct:Value}(a:PySem.W.findIn K (.ref C) m=some (some (.ref f)))(l:K.lookup f=some ⟨oc,od,.func (PySem.W.fnOf m q (kO st) (d8 st) (au st) .none kV doc pm an cdv ct),osl⟩)
 (c:PySem.W.codeIn K cdv q=true) (k:PySem.W.keepIn K (.ref f)=true) (n:PySem.W.typeIn K (.ref f)=some (.type "function")):∃ fd,IK K C m q st f fd:=⟨_,Gh l c k,a,n⟩
section
variable{n q':Str}{N S:Addr}{bs sub:List Value}{sn:List Str}{ab:Bool}{col:Option Bool}{dd:Option Addr}{k0 k1 k2 k3 k5:Option Value}
theorem aeZ(o:K.lookup C=some (excClassObj n q' C N bs bmV true sn sub ab col dd k0 k1 k2 k3 k5 "ValueError.__new__"))(a:PySem.W.findIn K (.ref C) "__setattr__" =some (some (.builtin "object.__setattr__")))(g:PySem.W.findIn K (.ref C) "__getattribute__" =some (some (.builtin "BaseException.__getattribute__")))(e:PySem.W.findIn K (.ref C) "__getattr__" =some none):uh K C:=
 ⟨⟨n,q',N,bs,[],sn,sub,ab,col,dd,k0,k1,k2,k3,k5,o⟩,a,g,e⟩
structure XK1 (K:aq)(C S:Addr):Prop where
 X:uh K C
 k:PySem.W.keepIn K (.ref C)=true
 w:dO K C "word"
 s:En K C S
theorem CN{cd:ClassData}(o:K.lookup C=some (excClassObj n q' C N bs (.ref S::bmV) true sn sub ab col dd k0 k1 k2 k3 k5 "ValueError.__new__"))(a:PySem.W.findIn K (.ref C) "__setattr__" =some (some (.builtin "object.__setattr__")))(g:PySem.W.findIn K (.ref C) "__getattribute__" =some (some (.builtin "BaseException.__getattribute__")))(e:PySem.W.findIn K (.ref C) "__getattr__" =some none)
 (k:PySem.W.keepIn K (.ref C)=true) (w:PySem.W.findIn K (.ref C) "word" =some none) (i:PySem.W.clsIn K C=some cd) (j:cd.mro.contains (.ref S)=true):XK1 K C S:=
 ⟨⟨⟨n,q',N,bs,[S],sn,sub,ab,col,dd,k0,k1,k2,k3,k5,o⟩,a,g,e⟩,k,w,cd,i,j⟩
end
end
end Ev
namespace Ev
open PySem PyProof.Rows L2
section
def af2(i:Int)(xs:List Int):Nat:=List.rec 0 (fun x _ r=>ifB (ieq x i) (r+1) r) xs
def adC(h:Hs)(a b:W):R W:=h.at a fun _ o=>o.onL fun xs=>Opt (jd xs) fun ns=>b.onI fun i=>.ok (.int (.ofNat (af2 i ns))) h
def Pr.count:Pr:=⟨fun ws h=>fZ ws (adC h)⟩
end
end Ev
namespace Ev
open PySem PySem.Spec PySem.SeqAt PyProof.Rows L2
section
variable{Pg:List Fn}{cl:Cn}{E:XK}{d:Nat}{X:Cx}{σ σ0:L2.St}{H H0:Hp}{ρ:List Addr}{h:Hs}
def Far(r:Addr)(H0 H:Hp)(ρ:List Addr):Prop:=∀ a u,a ≠ r->(∀ ps,u ≠ .tbl ps)->H0 a=some u->a ∉ ρ/\H a=some u
structure CT (cl:Cn)(n i:Nat)(kv:List (Nat × W))(os:List O)(r:Addr)(row:List V)(σ0:L2.St)(H0:Hp)(σ:L2.St)(H:Hp):Prop where
 len:σ.length=n
 z:σ[0]? =σ0[0]?
 at_:σ[i]? =some (some (.ref r))
 row:H r=some (.lst row)
 sim:∃ ρ,Sim cl ρ (heapOf os) H/\RS ρ (frm n kv) σ/\r ∉ ρ/\Far r H0 H ρ
def off(τ:Sg)(i:Nat):Bool:=Option.rec true (fun _=>false) (cD τ i)
theorem CT.in{n i:Nat}{kv:List (Nat × W)}{os:List O}{r:Addr}{row:List Int}(c:CT cl n i kv os r (row.map V.int) σ0 H0 σ H):∃ ρ,Sim cl (ρ ++ [r]) (heapOf (os ++ [.lst (row.map W.int)])) H/\RS (ρ ++ [r]) (frm n ((i,.ref os.length)::kv)) σ/\(ρ ++ [r])[os.length]? =some r/\Far r H0 H (ρ ++ [r]):=by
 obtain⟨ρ,s,rs,nr,fa⟩:=c.sim;have s2:=s.adopt (o:=.lst (row.map W.int)) nr ⟨_,rw_ints _ row,c.row⟩;rw[<- DY]at s2;have hl:ρ.length=os.length:=by rw[s.len,(sY os).1]
 have g:(ρ ++ [r])[os.length]? =some r:=by rw[<- hl,List.getElem?_append_right (az _),Nat.sub_self];rfl
 have z:=(rs.mono (List.prefix_append ρ [r])).set (w:=.ref os.length) (v:=.ref r) (.ref g) i;rw[YW c.at_]at z;refine⟨ρ,s2,z,g,fun a u na nu eu=>?_⟩;obtain⟨n1,q⟩:=fa a u na nu eu;exact⟨fun y=>(List.mem_append.mp y).elim n1 fun y=>na (by simpa using y),q⟩
end
section
variable{Pg:List Fn}{cl:Cn}{E:XK}{d:Nat}{X:Cx}{σ σ0:L2.St}{H H':Hp}{ρ ρ' ρ2:List Addr}{h h2:Hs}
def KVs(ρ:List Addr)(kv:List (Nat × W))(σ:L2.St):Prop:=∀ j w,(j,w) ∈ kv->∃ v,σ[j]? =some (some v)/\RW ρ w v
structure C2 (cl:Cn)(n i:Nat)(kv:List (Nat × W))(os:List O)(kw:List (Nat × W))(ot:List O)(r:Addr)(row:List V)(σ:L2.St)(H:Hp):Prop where
 len:σ.length=n
 at_:σ[i]? =some (some (.ref r))
 row:H r=some (.lst row)
 sim:∃ ρ ρ2,Sim cl ρ (heapOf os) H/\KVs ρ kv σ/\r ∉ ρ/\Sim cl ρ2 (heapOf ot) H/\KVs ρ2 kw σ/\r ∉ ρ2/\∀ a ∈ ρ2,a ∉ ρ
end
section
variable{Pg:List Fn}{cl:Cn}{E:XK}{d:Nat}{X:Cx}{σ:L2.St}{H:Hp}{ρ:List Addr}
abbrev af3(Pg:List Fn)(cl:Cn)(E:XK)(d:Nat)(cs:List (List Nat))(es:List Ev.X):List (TE × TE):=List.zipWith (fun c e=>(tE Pg cl E d (.cst (.str c)),tE Pg cl E d e)) cs es
end
end Ev
namespace Ev
open PySem L2
section
variable{Pg:List Fn}{cl:Cn}{E:XK}{d:Nat}{X:Cx}
structure QPs (X:Cx)(pos:Pos)(keys:List (Option Expr))(values:List Expr)(Pg:List Fn)(cl:Cn)(E:XK)(d:Nat)(cs:List (List Nat))(es:List Ev.X):Prop where
 h:PPs X pos keys values (af3 Pg cl E d cs es)
end
end Ev
namespace L2
open PySem PySem.Spec PySem.SeqAt PyProof.Rows
def NB(X:Cx)(N':List Str)(sc:Scope)(y:Str)(C:Addr)(s₀:Shared)(H₀:Hp)(fp:List Addr):Cx:=
 { X with N:=N',s₀:=s₀,H₀:=H₀,env:=compEnvC sc ((y,C+1)::pB X.env.cells sc.names []) C X.env,outer:=X.stack,ex:=fp,fn:=fun x=>x==y,pn:=[],xe:=fun _ _=>False }
structure agn (X:Cx)(N':List Str)(sc:Scope)(nt:Nat)(idx:List Nat)(y:Str):Prop where
 kind:sc.kind= .function
 cf:∀ n acc,cellsFrom n sc.names acc=(y,n)::acc
 pc:∀ h,pushCells h sc.names=h.push { cls:=.type "cell",data:=.cell none }
 nc:∀ z ∈ sc.names,z.2= .cell->z.1=y
 nf:∀ z ∈ sc.names,z.2= .free->z.1 ≠ y
 loc:∀ y ∈ sc.names,y.2= .local->sc.names.lookup y.1=some .local
 fr:∀ y ∈ sc.names,y.2= .free->X.env.kindOf y.1=some .cell\/X.env.kindOf y.1=some .free
 len:nt+idx.length=N'.length
 ix:∀ p ∈ idx.zip (N'.drop nt),X.N[p.1]? =some p.2/\sc.names.lookup p.2=some .free
section
variable{X:Cx}{N':List Str}{sc:Scope}{yc:Str}{nt:Nat}{idx:List Nat}{elt tg iter:Expr}{ifs:List Expr}{gs:List Comprehension}{pos:Pos}{wi:TI}{g:TG}{tif:TT}{tin:Addr->TN}
structure agl (X:Cx)(N':List Str)(sc:Scope)(yc:Str)(elt tg iter:Expr)(ifs:List Expr)(gs:List Comprehension)(pos:Pos)(g:TG)(tif:TT)(tin:Addr->TN):Prop where
 ok:∀(C:Addr) (s₀:Shared) (H₀:Hp) (fp:List Addr) (D it:Addr),∃ inner:Sem Unit,
  compTurn (.ListComp elt (⟨tg,iter,ifs,0⟩::gs) sc pos) 0 (.ref it) (.ref D) (NB X N' sc yc C s₀ H₀ fp).env=nY (.ListComp elt (⟨tg,iter,ifs,0⟩::gs) sc pos) 0 (.ref it) (.ref D) (NB X N' sc yc C s₀ H₀ fp).env tg ifs iter.pos inner/\
  PG (NB X N' sc yc C s₀ H₀ fp) tg g/\PTs (NB X N' sc yc C s₀ H₀ fp) ifs tif/\PN (NB X N' sc yc C s₀ H₀ fp) inner (tin D)
end
end L2
namespace Ev
section
def okQ{α:Type}(r:R α)(Q:α->Hs->Prop):Prop:=R.rec Q (fun _ _ _=>False) False r
def aW(Q:W->Hs->Prop)(a:A)(h:Hs):Prop:=A.rec (fun w=>Q w h) (fun _=>False) (fun _=>False) (fun _=>False) False a
def aL(Q:List W->Hs->Prop)(a:A)(h:Hs):Prop:=A.rec (fun _=>False) (fun w=>Q w h) (fun _=>False) (fun _=>False) False a
def aV(Q:Iv->Hs->Prop)(a:A)(h:Hs):Prop:=A.rec (fun _=>False) (fun _=>False) (fun w=>Q w h) (fun _=>False) False a
def aF(Q:Fl->Hs->Prop)(a:A)(h:Hs):Prop:=A.rec (fun _=>False) (fun _=>False) (fun _=>False) (fun w=>Q w h) False a
def wX(e:X)(K:Ks)(n:Nat)(τ:Sg)(h:Hs)(Q:W->Hs->Prop):Prop:=okQ (e.f K n τ h) (aW Q)
def wA(es:List X)(K:Ks)(n:Nat)(τ:Sg)(h:Hs)(Q:List W->Hs->Prop):Prop:=okQ (goA es K n τ h) (aL Q)
def wI(e:I)(K:Ks)(n:Nat)(τ:Sg)(h:Hs)(Q:Iv->Hs->Prop):Prop:=okQ (e.f K n τ h) (aV Q)
def w1(s:S)(K:Ks)(n:Nat)(τ:Sg)(h:Hs)(Q:Fl->Hs->Prop):Prop:=okQ (s.f K n τ h) (aF Q)
def wS(s:List S)(K:Ks)(n:Nat)(τ:Sg)(h:Hs)(Q:Fl->Hs->Prop):Prop:=okQ (jo s K n τ h) (aF Q)
def wP(p:Pr)(ws:List W)(h:Hs)(Q:W->Hs->Prop):Prop:=okQ (p.f ws h) Q
def wC(f:Nat)(ws:List W)(K:Ks)(n:Nat)(h:Hs)(Q:W->Hs->Prop):Prop:=okQ (dR f ws K n h) (aW Q)
def Ma(ss:List S)(K:Ks)(n:Nat)(h:Hs)(Q:Fl->Hs->Prop)(f:Fl):Prop:=Fl.rec (fun τ=>wS ss K n τ h Q) (fun w=>Q (.rt w) h) (fun τ=>Q (.bk τ) h) (fun τ=>Q (.ct τ) h) f
def TV(Q:W->Hs->Prop)(f:Fl)(h:Hs):Prop:=Fl.rec (fun _=>Q .non h) (fun w=>Q w h) (fun _=>False) (fun _=>False) f
def bW(w:W)(t f:Prop):Prop:=W.rec False (fun b=>Bool.rec f t b) (fun _=>False) (fun _=>False) (fun _=>False) w
end
section
variable{K:Ks}{n:Nat}{τ:Sg}{h:Hs}
theorem sE{α:Type}{r:R α}{Q Q':α->Hs->Prop}(x:okQ r Q)(f:∀ a h,Q a h->Q' a h):okQ r Q':=by
 cases r with
 | ok a h=>exact f a h x
 | _=>exact x
theorem aa7{Q Q':W->Hs->Prop}(f:∀ w h,Q w h->Q' w h):∀ a h,aW Q a h->aW Q' a h:=fun a h x=>by
 cases a with
 | w w=>exact f w h x
 | _=>exact x
theorem oU{e:X}{Q Q':W->Hs->Prop}(x:wX e K n τ h Q)(f:∀ w h,Q w h->Q' w h):wX e K n τ h Q':=sE x (aa7 f)
theorem Y6{α β:Type}{r:R α}{f:α->Hs->R β}{Q:β->Hs->Prop}:okQ (r.bind f) Q ↔ okQ r fun a h=>okQ (f a h) Q:=by cases r <;> exact Iff.rfl
theorem jh{e:X}{Q:W->Hs->Prop}(x:wX e K n τ h Q):∃ w h',e.f K n τ h= .ok (.w w) h'/\Q w h':=by
 unfold wX at x;generalize e.f K n τ h=r at x
 cases r with
 | ok a h'=>cases a with
   | w w=>exact⟨w,h',rfl,x⟩
   | _=>exact x.elim
 | _=>exact x.elim
theorem ae0{f:Nat}{ws:List W}{Q:W->Hs->Prop}(x:wC f ws K n h Q):∃ w h',dR f ws K n h= .ok (.w w) h'/\Q w h':=by
 unfold wC at x;generalize dR f ws K n h=r at x
 cases r with
 | ok a h'=>cases a with
   | w w=>exact⟨w,h',rfl,x⟩
   | _=>exact x.elim
 | _=>exact x.elim
theorem aac{s:List S}{Q:Fl->Hs->Prop}(x:wS s K n τ h Q):∃ w h',jo s K n τ h= .ok (.fl w) h'/\Q w h':=by
 unfold wS at x;generalize jo s K n τ h=r at x
 cases r with
 | ok a h'=>cases a with
   | fl w=>exact⟨w,h',rfl,x⟩
   | _=>exact x.elim
 | _=>exact x.elim
theorem adD{i:Nat}{w:W}{Q:W->Hs->Prop}(e:cD τ i=some w):wX (.var i) K n τ h Q ↔ Q w h:=by
 show okQ (Option.rec (motive:=fun _=>R A) .no (fun w=>.ok (.w w) h) (cD τ i)) _ ↔ _;rw[e];exact Iff.rfl
theorem t7{w:W}{Q:W->Hs->Prop}:wX (.cst w) K n τ h Q ↔ Q w h:=Iff.rfl
theorem cu{Q:List W->Hs->Prop}:wA [] K n τ h Q ↔ Q [] h:=Iff.rfl
theorem aQ{e:X}{es:List X}{Q:List W->Hs->Prop}:wA (e::es) K n τ h Q ↔ wX e K n τ h fun w h=>wA es K n τ h fun ws h=>Q (w::ws) h:=by
 show okQ (R.rec (motive:=fun _=>R A) (fun r h=>A.rec (motive:=fun _=>R A) (fun w=>R.rec (motive:=fun _=>R A) (fun r h=>A.rec (motive:=fun _=>R A) (fun _=>.no) (fun ws=>.ok (.ws (w::ws)) h) (fun _=>.no) (fun _=>.no) .no r) (fun C fs h=>.ex C fs h) .no (goA es K n τ h)) (fun _=>.no) (fun _=>.no) (fun _=>.no) .no r) (fun C fs h=>.ex C fs h) .no (e.f K n τ h)) _ ↔ okQ (e.f K n τ h) _;generalize e.f K n τ h=r
 cases r with
 | ok a h1=>cases a with
   | w w=>
     show okQ (R.rec (motive:=fun _=>R A) (fun r h=>A.rec (motive:=fun _=>R A) (fun _=>.no) (fun ws=>.ok (.ws (w::ws)) h) (fun _=>.no) (fun _=>.no) .no r) (fun C fs h=>.ex C fs h) .no (goA es K n τ h1)) _ ↔ okQ (goA es K n τ h1) _;generalize goA es K n τ h1=r
     cases r with
     | ok a h2=>cases a <;> exact Iff.rfl
     | _=>exact Iff.rfl
   | _=>exact Iff.rfl
 | _=>exact Iff.rfl
theorem dZ{p:Pr}{es:List X}{Q:W->Hs->Prop}:wX (.pr p es) K n τ h Q ↔ wA es K n τ h fun ws h=>wP p ws h Q:=by
 show okQ (R.rec (motive:=fun _=>R A) (fun r h=>A.rec (motive:=fun _=>R A) (fun _=>.no) (fun ws=>R.rec (motive:=fun _=>R A) (fun w h=>.ok (.w w) h) (fun C f h=>.ex C f h) .no (p.f ws h)) (fun _=>.no) (fun _=>.no) .no r) (fun C fs h=>.ex C fs h) .no (goA es K n τ h)) _ ↔ okQ (goA es K n τ h) _;generalize goA es K n τ h=r
 cases r with
 | ok a h1=>cases a with
   | ws ws=>
     show okQ (R.rec (motive:=fun _=>R A) (fun w h=>.ok (.w w) h) (fun C f h=>.ex C f h) .no (p.f ws h1)) _ ↔ okQ (p.f ws h1) Q;generalize p.f ws h1=r
     cases r <;> exact Iff.rfl
   | _=>exact Iff.rfl
 | _=>exact Iff.rfl
theorem yo{f:Nat}{es:List X}{Q:W->Hs->Prop}:wX (.call f es) K n τ h Q ↔ wA es K n τ h fun ws h=>wC f ws K n h Q:=by
 show okQ ((goA es K n τ h).bind fun a h=>a.toL fun ws=>dR f ws K n h) _ ↔ okQ (goA es K n τ h) _;generalize goA es K n τ h=r
 cases r with
 | ok a h1=>cases a <;> exact Iff.rfl
 | _=>exact Iff.rfl
theorem GQ{c a b:X}{Q:W->Hs->Prop}:wX (.ite c a b) K n τ h Q ↔ wX c K n τ h fun w h=>bW w (wX a K n τ h Q) (wX b K n τ h Q):=by
 show okQ ((c.f K n τ h).bind fun r h=>r.toW fun w=>w.onB (b.f K n τ h) (a.f K n τ h)) _ ↔ okQ (c.f K n τ h) _;generalize c.f K n τ h=r
 cases r with
 | ok x h1=>cases x with
   | w w=>cases w with
     | bl k=>cases k <;> exact Iff.rfl
     | _=>exact Iff.rfl
   | _=>exact Iff.rfl
 | _=>exact Iff.rfl
theorem Az{a b:X}{Q:W->Hs->Prop}:wX (.and a b) K n τ h Q ↔ wX a K n τ h fun w h=>bW w (wX b K n τ h Q) (Q (.bl false) h):=by
 show okQ ((a.f K n τ h).bind fun r h=>r.toW fun w=>w.onB (.ok (.w (.bl false)) h) (b.f K n τ h)) _ ↔ okQ (a.f K n τ h) _;generalize a.f K n τ h=r
 cases r with
 | ok x h1=>cases x with
   | w w=>cases w with
     | bl k=>cases k <;> exact Iff.rfl
     | _=>exact Iff.rfl
   | _=>exact Iff.rfl
 | _=>exact Iff.rfl
theorem GR{a b:X}{Q:W->Hs->Prop}:wX (.or a b) K n τ h Q ↔ wX a K n τ h fun w h=>bW w (Q (.bl true) h) (wX b K n τ h Q):=by
 show okQ ((a.f K n τ h).bind fun r h=>r.toW fun w=>w.onB (b.f K n τ h) (.ok (.w (.bl true)) h)) _ ↔ okQ (a.f K n τ h) _;generalize a.f K n τ h=r
 cases r with
 | ok x h1=>cases x with
   | w w=>cases w with
     | bl k=>cases k <;> exact Iff.rfl
     | _=>exact Iff.rfl
   | _=>exact Iff.rfl
 | _=>exact Iff.rfl
theorem bR{Q:Fl->Hs->Prop}:wS [] K n τ h Q ↔ Q (.nx τ) h:=Iff.rfl
theorem aA{s:S}{ss:List S}{Q:Fl->Hs->Prop}:wS (s::ss) K n τ h Q ↔ w1 s K n τ h fun f h=>Ma ss K n h Q f:=by
 show okQ ((s.f K n τ h).bind fun r h=>r.toF fun f=>Fl.rec (motive:=fun _=>R A) (fun τ=>jo ss K n τ h) (fun w=>.ok (.fl (.rt w)) h) (fun τ=>.ok (.fl (.bk τ)) h) (fun τ=>.ok (.fl (.ct τ)) h) f) _ ↔ okQ (s.f K n τ h) _;generalize s.f K n τ h=r
 cases r with
 | ok x h1=>cases x with
   | fl f=>cases f <;> exact Iff.rfl
   | _=>exact Iff.rfl
 | _=>exact Iff.rfl
theorem dG{i:Nat}{e:X}{Q:Fl->Hs->Prop}:w1 (.asg (.nm i) e) K n τ h Q ↔ wX e K n τ h fun w h=>Q (.nx (setAt τ (some w) i)) h:=by
 show okQ ((e.f K n τ h).bind fun r h=>r.toW fun w=>R.ok (A.fl (.nx (setAt τ (some w) i))) h) (aF Q) ↔ okQ (e.f K n τ h) _;generalize e.f K n τ h=r
 cases r with
 | ok x h1=>cases x <;> exact Iff.rfl
 | _=>exact Iff.rfl
theorem kY{e:X}{Q:Fl->Hs->Prop}:w1 (.ret e) K n τ h Q ↔ wX e K n τ h fun w h=>Q (.rt w) h:=by
 show okQ ((e.f K n τ h).bind fun r h=>r.toW fun w=>R.ok (A.fl (.rt w)) h) (aF Q) ↔ okQ (e.f K n τ h) _;generalize e.f K n τ h=r
 cases r with
 | ok x h1=>cases x <;> exact Iff.rfl
 | _=>exact Iff.rfl
theorem oV{e:X}{Q:Fl->Hs->Prop}:w1 (.expr e) K n τ h Q ↔ wX e K n τ h fun w h=>Q (.nx τ) h:=by
 show okQ ((e.f K n τ h).bind fun r h=>r.toW fun w=>R.ok (A.fl (.nx τ)) h) (aF Q) ↔ okQ (e.f K n τ h) _;generalize e.f K n τ h=r
 cases r with
 | ok x h1=>cases x <;> exact Iff.rfl
 | _=>exact Iff.rfl
theorem mJ{c:X}{a b:List S}{Q:Fl->Hs->Prop}:w1 (.ife c a b) K n τ h Q ↔ wX c K n τ h fun w h=>bW w (wS a K n τ h Q) (wS b K n τ h Q):=by
 show okQ ((c.f K n τ h).bind fun r h=>r.toW fun w=>w.onB (jo b K n τ h) (jo a K n τ h)) _ ↔ okQ (c.f K n τ h) _;generalize c.f K n τ h=r
 cases r with
 | ok x h1=>cases x with
   | w w=>cases w with
     | bl k=>cases k <;> exact Iff.rfl
     | _=>exact Iff.rfl
   | _=>exact Iff.rfl
 | _=>exact Iff.rfl
theorem cP{Pg:List Fn}{d f np k:Nat}{b:List S}{ws:List W}{Q:W->Hs->Prop}(e:nth Pg f=some (.mk np k b))(l:Nat.beq (len ws) np=true):wC f ws (bz Pg (d+1)) (n+1) h Q ↔ wS b (bz Pg d) n (frame k ws) h (TV Q):=by
 show okQ (Opt (nth Pg f) (Z6 (bz Pg d) n h ws)) _ ↔ _;rw[e];show okQ (ifB (Nat.beq (len ws) np) ((jo b (bz Pg d) n (frame k ws) h).bind fun r h=>r.toF fun f=>Gr h f) .no) _ ↔ okQ (jo b (bz Pg d) n (frame k ws) h) _;rw[l];generalize jo b (bz Pg d) n (frame k ws) h=r
 cases r with
 | ok x h1=>cases x with
   | fl f=>cases f <;> exact Iff.rfl
   | _=>exact Iff.rfl
 | _=>exact Iff.rfl
end
def Ext(h h':Hs):Prop:=h.n<=h'.n/\∀ k,k<h.n->h'.get k=h.get k
theorem Ext.refl{h:Hs}:Ext h h:=⟨az _,fun _ _=>rfl⟩
theorem Ext.trans{a b c:Hs}(x:Ext a b)(y:Ext b c):Ext a c:=⟨Nat.le_trans x.1 y.1,fun k l=>(y.2 k (aY l x.1)).trans (x.2 k l)⟩
theorem Ext.push{h:Hs}{o:O}:Ext h (h.push o):=⟨by rw[Hs.iw];omega,fun k l=>by rw[Hs.n6,if_neg (by omega)]⟩
theorem Ext.set{h h':Hs}{k:Nat}{o:O}(x:Ext h h')(l:h.n<=k):Ext h (h'.set k o):=⟨by rw[Hs.dh];exact x.1,fun j g=>by rw[Hs.get_set,if_neg (by omega)];exact x.2 j g⟩
theorem Ext.get{h h':Hs}{k:Nat}{o:O}(x:Ext h h')(l:k<h.n)(e:h.get k=some o):h'.get k=some o:=(x.2 k l).trans e
theorem aO{h:Hs}{o:O}:(h.push o).get h.n=some o:=by rw[Hs.n6,if_pos rfl]
theorem bN{h:Hs}{o:O}:h.n<(h.push o).n:=by rw[Hs.iw];omega
mutual
def Rd(h:Hs)(A:Nat->Prop):D->W->Prop
 | .non,w=>w= .non
 | .bl b,w=>w= .bl b
 | .int i,w=>w= .int i
 | .str c,w=>w= .str c
 | .lst ds,w=>∃ p ws,w= .ref p/\p<h.n/\A p/\h.get p=some (.lst ws)/\Rds h A ds ws
 | .tup ds,w=>∃ p ws,w= .ref p/\p<h.n/\A p/\h.get p=some (.tup ws)/\Rds h A ds ws
def Rds(h:Hs)(A:Nat->Prop):List D->List W->Prop
 | [],ws=>ws= []
 | d::ds,ws=>∃ w r,ws=w::r/\Rd h A d w/\Rds h A ds r
end
mutual
theorem Rd.to{h h':Hs}{A A':Nat->Prop}(n:h.n<=h'.n)(x:∀ k,k<h.n->A k->h'.get k=h.get k/\A' k):∀(d:D) (w:W),Rd h A d w->Rd h' A' d w
 | .non,_,z | .bl _,_,z | .int _,_,z | .str _,_,z=>by simpa [Rd] using z
 | .lst ds,w,z=>by
   simp only[Rd]at z ⊢;obtain⟨p,ws,e,l,a,g,r⟩:=z
   exact⟨p,ws,e,aY l n,(x p l a).2,(x p l a).1.trans g,Rds.to n x ds ws r⟩
 | .tup ds,w,z=>by
   simp only[Rd]at z ⊢;obtain⟨p,ws,e,l,a,g,r⟩:=z;exact⟨p,ws,e,aY l n,(x p l a).2,(x p l a).1.trans g,Rds.to n x ds ws r⟩
theorem Rds.to{h h':Hs}{A A':Nat->Prop}(n:h.n<=h'.n)(x:∀ k,k<h.n->A k->h'.get k=h.get k/\A' k):∀(ds:List D) (ws:List W),Rds h A ds ws->Rds h' A' ds ws
 | [],_,z=>by simpa [Rds] using z
 | d::ds,ws,z=>by
   simp only[Rds]at z ⊢;obtain⟨w,r,e,a,b⟩:=z;exact⟨w,r,e,Rd.to n x d w a,Rds.to n x ds r b⟩
end
theorem Rds.ext{h h':Hs}{A:Nat->Prop}{d:List D}{w:List W}(z:Rds h A d w)(x:Ext h h'):Rds h' A d w:=Rds.to x.1 (fun k l a=>⟨x.2 k l,a⟩) d w z
theorem Rd.imp{h:Hs}{A A':Nat->Prop}{d:D}{w:W}(z:Rd h A d w)(x:∀ k,k<h.n->A k->A' k):Rd h A' d w:=Rd.to (az _) (fun k l a=>⟨rfl,x k l a⟩) d w z
theorem Rds.imp{h:Hs}{A A':Nat->Prop}{d:List D}{w:List W}(z:Rds h A d w)(x:∀ k,k<h.n->A k->A' k):Rds h A' d w:=Rds.to (az _) (fun k l a=>⟨rfl,x k l a⟩) d w z
theorem Rds.length{h:Hs}{A:Nat->Prop}:∀ {ds:List D} {ws:List W},Rds h A ds ws->ws.length=ds.length
 | [],_,z=>by simp only[Rds]at z;subst z;rfl
 | d::ds,ws,z=>by
   simp only[Rds]at z;obtain⟨w,r,rfl,a,b⟩:=z;simp[Rds.length b]
theorem Rds.get{h:Hs}{A:Nat->Prop}:∀ {ds:List D} {ws:List W} {i:Nat} {d:D},Rds h A ds ws->ds[i]? =some d->∃ w,ws[i]? =some w/\Rd h A d w
 | [],_,i,d,z,e=>by simp at e
 | d::ds,ws,i,d',z,e=>by
   simp only[Rds]at z;obtain⟨w,r,rfl,a,b⟩:=z
   cases i with
   | zero=>simp at e;subst e;exact⟨w,rfl,a⟩
   | succ i=>simpa using Rds.get b (by simpa using e)
theorem Rds.snoc{h:Hs}{A:Nat->Prop}:∀ {ds:List D} {ws:List W} {d:D} {w:W},Rds h A ds ws->Rd h A d w->Rds h A (ds ++ [d]) (ws ++ [w])
 | [],_,d,w,z,e=>by simp only[Rds]at z;subst z;simp only[List.nil_append,Rds];exact⟨w,[],rfl,e,rfl⟩
 | d::ds,ws,d',w',z,e=>by
   simp only[Rds]at z;obtain⟨w,r,rfl,a,b⟩:=z;simp only[List.cons_append,Rds];exact⟨w,r ++ [w'],rfl,a,b.snoc e⟩
theorem Rds.ints{h:Hs}{A:Nat->Prop}:∀ {ns:List Int} {ws:List W},Rds h A (ns.map D.int) ws ↔ ws=ns.map W.int
 | [],ws=>by simp only[List.map_nil,Rds]
 | n::ns,ws=>by
   simp only[List.map_cons,Rds,Rd]
   constructor
   · rintro⟨w,r,rfl,rfl,b⟩;rw[Rds.ints.mp b]
   · rintro rfl;exact⟨_,_,rfl,rfl,Rds.ints.mpr rfl⟩
abbrev Dis(ns:List Int):D:=.lst (ns.map D.int)
theorem Ja{h:Hs}{A:Nat->Prop}{ns:List Int}{w:W}:Rd h A (Dis ns) w ↔ ∃ p,w= .ref p/\p<h.n/\A p/\h.get p=some (.lst (ns.map W.int)):=by
 simp only[Dis,Rd,Rds.ints]
 constructor
 · rintro⟨p,ws,e,l,a,g,rfl⟩;exact⟨p,e,l,a,g⟩
 · rintro⟨p,e,l,a,g⟩;exact⟨p,_,e,l,a,g,rfl⟩
mutual
def kZ:D->Nat
 | .lst ds | .tup ds=>uL ds+1
 | _=>1
def uL:List D->Nat
 | []=>0
 | d::ds=>max (kZ d) (uL ds)
end
section
mutual
def okD:D->Bool
 | .str c=>okC c
 | .lst ds | .tup ds=>yW ds
 | _=>true
def yW:List D->Bool
 | []=>true
 | d::ds=>okD d&&yW ds
end
end
mutual
theorem Wz{h:Hs}{A:Nat->Prop}:∀(d:D) (w:W) (k:Nat),Rd h A d w->kZ d<=k->okD d=true->toD h k w=some d
 | .non,w,0,z,l,_ | .bl _,w,0,z,l,_ | .int _,w,0,z,l,_ | .str _,w,0,z,l,_=>by simp[kZ]at l
 | .lst _,w,0,z,l,_ | .tup _,w,0,z,l,_=>by simp[kZ]at l
 | .non,w,k+1,z,_,_=>by simp only[Rd]at z;subst z;rfl
 | .bl _,w,k+1,z,_,_=>by simp only[Rd]at z;subst z;rfl
 | .int _,w,k+1,z,_,_=>by simp only[Rd]at z;subst z;rfl
 | .str c,w,k+1,z,_,o=>by
   simp only[Rd]at z;subst z;have o:okC c=true:=by simpa [okD] using o
   show ifB (okC c) (some (D.str c)) none=_
   rw[o];rfl
 | .lst ds,w,k+1,z,l,o=>by
   simp only[Rd]at z;obtain⟨p,ws,rfl,_,_,g,r⟩:=z;have e:=Jb ds ws k r (by simpa [kZ] using l) (by simpa [okD] using o);show Option.rec (motive:=fun _=>Option D) none (fun o=>O.rec (motive:=fun _=>Option D) (fun xs=>Option.rec (motive:=fun _=>Option D) none (fun ds=>some (D.tup ds)) (m_ (toD h k) xs)) (fun xs=>Option.rec (motive:=fun _=>Option D) none (fun ds=>some (D.lst ds)) (m_ (toD h k) xs)) (fun _ _=>none) (fun _=>none) (fun _=>none) (fun _=>none) o) (h.get p)=_;rw[g];show Option.rec (motive:=fun _=>Option D) none (fun ds=>some (D.lst ds)) (m_ (toD h k) ws)=_
   rw[e]
 | .tup ds,w,k+1,z,l,o=>by
   simp only[Rd]at z;obtain⟨p,ws,rfl,_,_,g,r⟩:=z;have e:=Jb ds ws k r (by simpa [kZ] using l) (by simpa [okD] using o);show Option.rec (motive:=fun _=>Option D) none (fun o=>O.rec (motive:=fun _=>Option D) (fun xs=>Option.rec (motive:=fun _=>Option D) none (fun ds=>some (D.tup ds)) (m_ (toD h k) xs)) (fun xs=>Option.rec (motive:=fun _=>Option D) none (fun ds=>some (D.lst ds)) (m_ (toD h k) xs)) (fun _ _=>none) (fun _=>none) (fun _=>none) (fun _=>none) o) (h.get p)=_;rw[g];show Option.rec (motive:=fun _=>Option D) none (fun ds=>some (D.tup ds)) (m_ (toD h k) ws)=_;rw[e]
theorem Jb{h:Hs}{A:Nat->Prop}:∀(ds:List D) (ws:List W) (k:Nat),Rds h A ds ws->uL ds<=k->yW ds=true->m_ (toD h k) ws=some ds
 | [],ws,k,z,_,_=>by simp only[Rds]at z;subst z;rfl
 | d::ds,ws,k,z,l,o=>by
   simp only[Rds]at z;obtain⟨w,r,rfl,a,b⟩:=z;simp only[uL,yW,Bool.and_eq_true]at l o;have e1:=Wz d w k a (by omega) o.1;have e2:=Jb ds r k b (by omega) o.2;show Option.rec (motive:=fun _=>Option (List D)) none (fun d=>Option.rec (motive:=fun _=>Option (List D)) none (fun ds=>some (d::ds)) (m_ (toD h k) r)) (toD h k w)=_;rw[e1];show Option.rec (motive:=fun _=>Option (List D)) none (fun ds=>some (d::ds)) (m_ (toD h k) r)=_;rw[e2]
end
mutual
theorem J9:∀ d:D,eV d d=true
 | .non=>by simp[eV]
 | .bl b=>by simp[eV]
 | .int i=>by simp[eV,eX]
 | .str c=>by simp[eV,cT.mpr]
 | .lst ds=>by simp[eV,A_ ds]
 | .tup ds=>by simp[eV,A_ ds]
theorem A_:∀ ds:List D,vB ds ds=true
 | []=>by simp[vB]
 | d::ds=>by simp[vB,J9 d,A_ ds]
end
mutual
theorem TX:∀ d:D,kh d d=true
 | .non=>by simp[kh]
 | .bl b=>by simp[kh]
 | .int i=>by simp[kh,eX]
 | .str c=>by simp[kh,cT.mpr]
 | .lst ds=>by simp[kh,w6 ds]
 | .tup ds=>by simp[kh,w6 ds]
theorem w6:∀ ds:List D,pM ds ds=true
 | []=>by simp[pM]
 | d::ds=>by simp[pM,TX d,w6 ds]
end
section
variable{K:Ks}{n:Nat}{τ:Sg}{h:Hs}
def Its(v:Iv)(ws:List W)(h:Hs):Prop:=(∃ p,v= .lst p/\h.get p=some (.lst ws))\/(∃ p,v= .tup p/\h.get p=some (.tup ws))\/(∃ lo:Int,v= .rng lo ws.length/\∀ i,i<ws.length->ws[i]? =some (.int (lo+Int.ofNat i)))
theorem Its.next{v:Iv}{ws:List W}{β:Type}{i:Nat}{fin:R β}{go:W->Hs->R β}(x:Its v ws h):v.next i h fin go=Option.rec fin (fun w=>go w h) (ws[i]?):=by
 rcases x with ⟨p,rfl,g⟩ | ⟨p,rfl,g⟩ | ⟨lo,rfl,g⟩
 · show Opt (h.get p) (fun o=>o.onS fun xs=>Option.rec fin (fun w=>go w h) (nth xs i))=_;rw[g,<- mF];rfl
 · show Opt (h.get p) (fun o=>o.onT fun xs=>Option.rec fin (fun w=>go w h) (nth xs i))=_;rw[g,<- mF];rfl
 · show Bool.rec (motive:=fun _=>R β) fin (go (.int (lo + .ofNat i)) h) (Nat.ble (i+1) ws.length)=_
   by_cases l:i<ws.length
   · rw[g i l,ble_eq,decide_eq_true (show i+1<=ws.length from l)]
   · rw[List.getElem?_eq_none (by omega),ble_eq,decide_eq_false (show ¬ i+1<=ws.length from by omega)]
def lpQ(I:Sg->Hs->Prop)(Q:Fl->Hs->Prop)(f:Fl)(h:Hs):Prop:=Fl.rec (fun τ=>I τ h) (fun w=>Q (.rt w) h) (fun τ=>Q (.nx τ) h) (fun τ=>I τ h) f
theorem TY{v:Iv}{t:Tg}{b:List S}{ws:List W}{Q:Fl->Hs->Prop}(I:Nat->Sg->Hs->Prop)(its:∀ i τ h,I i τ h->Its v ws h)
 (turn:∀ i w τ h m,ws[i]? =some w->n<=m+ws.length->I i τ h->∃ τ1,bf h 9 t w τ=some τ1/\wS b K m τ1 h (lpQ (I (i+1)) Q)) (fin:∀ τ h,I ws.length τ h->Q (.nx τ) h):
 ∀(k i m:Nat) (τ:Sg) (h:Hs),i+k=ws.length->k<m->n+i<=m+ws.length+i->n<=m+i->I i τ h->okQ (nZ v t b K m i τ h) (aF Q)
 | k,i,0,τ,h,e,l,_,_,x=>absurd l (by omega)
 | k,i,m+1,τ,h,e,l,l1,l2,x=>by
   have u:nZ v t b K (m+1) i τ h=v.next i h (.ok (.fl (.nx τ)) h) fun w h=>Opt (bf h 9 t w τ) fun τ=>(jo b K m τ h).bind fun r h=>r.toF fun f=>pZ h f fun τ=>nZ v t b K m (i+1) τ h:=rfl;rw[u,(its i τ h x).next]
   cases k with
   | zero=>
     rw[List.getElem?_eq_none (by omega)];rw[Nat.add_zero]at e;subst e
     exact fin τ h x
   | succ k=>
     have li:i<ws.length:=by omega
     rw[List.getElem?_eq_getElem li];obtain⟨τ1,e1,y⟩:=turn i ws[i] τ h m (List.getElem?_eq_getElem li) (by omega) x;show okQ (Opt (bf h 9 t ws[i] τ) fun τ=>(jo b K m τ h).bind fun r h=>r.toF fun f=>pZ h f fun τ=>nZ v t b K m (i+1) τ h) (aF Q);rw[e1];show okQ ((jo b K m τ1 h).bind fun r h=>r.toF fun f=>pZ h f fun τ=>nZ v t b K m (i+1) τ h) (aF Q);obtain⟨f,h',z,q⟩:=aac y;rw[z]
     cases f with
     | nx τ2=>exact TY I its turn fin k (i+1) m τ2 h' (by omega) (by omega) (by omega) (by omega) q
     | ct τ2=>exact TY I its turn fin k (i+1) m τ2 h' (by omega) (by omega) (by omega) (by omega) q
     | rt w=>exact q
     | bk τ2=>exact q
theorem n_{i:I}{t:Tg}{b:List S}{Q:Fl->Hs->Prop}(x:wI i K n τ h fun v h1=>∃(ws:List W) (J:Nat->Sg->Hs->Prop),(∀ i τ h,J i τ h->Its v ws h)/\ws.length<n/\J 0 τ h1/\
 (∀ i w τ h m,ws[i]? =some w->n<=m+ws.length->J i τ h->∃ τ1,bf h 9 t w τ=some τ1/\wS b K m τ1 h (lpQ (J (i+1)) Q))/\∀ τ h,J ws.length τ h->Q (.nx τ) h):w1 (.for_ i t b) K n τ h Q:=by
 show okQ ((i.f K n τ h).bind fun r h=>r.toV fun v=>nZ v t b K n 0 τ h) (aF Q);unfold wI at x;generalize i.f K n τ h=r at x
 cases r with
 | ok a h1=>cases a with
   | iv v=>
     obtain⟨ws,J,its,l,s,turn,fin⟩:=x
     exact TY J its turn fin ws.length 0 n τ h1 (by omega) l (by omega) (by omega) s
   | _=>exact x.elim
 | _=>exact x.elim
theorem aa8{D:Nat}{w:W}{acc:List W}{k:Hs->R A}(g:h.get D=some (.lst acc))(l:acc.length<=16777215):emit h D w k=k (h.set D (.lst (acc ++ [w]))):=by
 show R.bind (Opt (h.get D) fun o=>o.onL fun xs=>size xs (.ok W.non (h.set D (.lst (app xs [w]))))) (fun _ h=>k h)=_;rw[g];show R.bind (ifB (Nat.ble (len acc) 16777215) (.ok W.non (h.set D (.lst (app acc [w])))) .no) (fun _ h=>k h)=_;rw[len_eq,ble_eq,decide_eq_true l,iW];rfl
def aad(c:Option X)(e:X)(K:Ks)(m:Nat)(τ:Sg)(h:Hs)(no:Hs->Prop)(yes:W->Hs->Prop):Prop:=Option.rec (wX e K m τ h yes) (fun c=>wX c K m τ h fun w h=>bW w (wX e K m τ h yes) (no h)) c
theorem Mf{v:Iv}{t:Tg}{c:Option X}{e:X}{D:Nat}{ws:List W}{Q:A->Hs->Prop}(b:Nat)(J:Nat->List W->Hs->Prop)(its:∀ i acc h,J i acc h->Its v ws h/\h.get D=some (.lst acc)/\acc.length<=b+i)(lw:b+ws.length<=16777215)
 (turn:∀ i w acc h m,ws[i]? =some w->n<=m+ws.length->J i acc h->∃ τ1,bf h 9 t w τ=some τ1/\aad c e K m τ1 h (fun h=>J (i+1) acc h) (fun w h=>h.get D=some (.lst acc)/\J (i+1) (acc ++ [w]) (h.set D (.lst (acc ++ [w]))))) (fin:∀ acc h,J ws.length acc h->Q .u h):
 ∀(k i m:Nat) (acc:List W) (h:Hs),i+k=ws.length->k<m->n<=m+i->J i acc h->okQ (fC v t c none e D K m i τ h) Q
 | k,i,0,acc,h,_,l,_,_=>absurd l (by omega)
 | k,i,m+1,acc,h,ek,l,l2,x=>by
   have u:fC v t c none e D K (m+1) i τ h=v.next i h (.ok .u h) fun w h=>Opt (bf h 9 t w τ) fun τ1=>test K m τ1 h c (fun h=>fC v t c none e D K m (i+1) τ h) (fun h=>inner K m τ1 h e D none fun h=>fC v t c none e D K m (i+1) τ h):=rfl;obtain⟨it,gD,la⟩:=its i acc h x;rw[u,it.next]
   cases k with
   | zero=>
     rw[List.getElem?_eq_none (by omega)];rw[Nat.add_zero]at ek;subst ek
     exact fin acc h x
   | succ k=>
     have li:i<ws.length:=by omega
     rw[List.getElem?_eq_getElem li];obtain⟨τ1,e1,y⟩:=turn i ws[i] acc h m (List.getElem?_eq_getElem li) (by omega) x;show okQ (Opt (bf h 9 t ws[i] τ) fun τ1=>test K m τ1 h c (fun h=>fC v t c none e D K m (i+1) τ h) (fun h=>inner K m τ1 h e D none fun h=>fC v t c none e D K m (i+1) τ h)) Q;rw[e1]
     have yes:∀ h2,wX e K m τ1 h2 (fun w h=>h.get D=some (.lst acc)/\J (i+1) (acc ++ [w]) (h.set D (.lst (acc ++ [w]))))->okQ (inner K m τ1 h2 e D none fun h=>fC v t c none e D K m (i+1) τ h) Q:=fun h2 z=>by
      obtain⟨w,h3,ez,g3,j3⟩:=jh z;show okQ ((e.f K m τ1 h2).bind fun r h=>r.toW fun w=>emit h D w fun h=>fC v t c none e D K m (i+1) τ h) Q;rw[ez];show okQ (emit h3 D w fun h=>fC v t c none e D K m (i+1) τ h) Q;rw[aa8 g3 (by omega)];exact Mf b J its lw turn fin k (i+1) m (acc ++ [w]) _ (by omega) (by omega) (by omega) j3
     cases c with
     | none=>exact yes h y
     | some c=>
       obtain⟨w,h2,ez,q⟩:=jh (show wX c K m τ1 h _ from y);show okQ ((c.f K m τ1 h).bind fun r h=>r.toW fun w=>w.onB (fC v t (some c) none e D K m (i+1) τ h) (inner K m τ1 h e D none fun h=>fC v t (some c) none e D K m (i+1) τ h)) Q;rw[ez]
       cases w with
       | bl bb=>cases bb with
         | false=>exact Mf b J its lw turn fin k (i+1) m acc h2 (by omega) (by omega) (by omega) q
         | true=>exact yes h2 q
       | _=>exact q.elim
theorem Jc{nt:Nat}{idx:List Nat}{it:I}{t:Tg}{c:Option X}{e:X}{Q:W->Hs->Prop}(x:wI it K n τ h fun v h1=>∃(ws:List W) (J:Nat->List W->Hs->Prop),(∀ i acc h,J i acc h->Its v ws h/\h.get h1.n=some (.lst acc)/\acc.length<=i)/\ws.length<=16777215/\ws.length<n/\J 0 [] (h1.push (.lst []))/\
 (∀ i w acc h m,ws[i]? =some w->n<=m+ws.length->J i acc h->∃ τ1,bf h 9 t w (nA nt idx τ)=some τ1/\aad c e K m τ1 h (fun h=>J (i+1) acc h) (fun w h=>h.get h1.n=some (.lst acc)/\J (i+1) (acc ++ [w]) (h.set h1.n (.lst (acc ++ [w])))))/\∀ acc h,J ws.length acc h->Q (.ref h1.n) h):wX (.comp nt idx it t c none e) K n τ h Q:=by
 show okQ ((it.f K n τ h).bind fun r h=>r.toV fun v=>(fC v t c none e h.n K n 0 (nA nt idx τ) (h.push (.lst []))).nox.bind fun _ h'=>.ok (.w (.ref h.n)) h') (aW Q);unfold wI at x;generalize it.f K n τ h=r at x
 cases r with
 | ok a h1=>cases a with
   | iv v=>
     obtain⟨ws,J,its,lw,l,s,turn,fin⟩:=x;have z:=Mf (Q:=fun a h=>a= .u/\Q (.ref h1.n) h) 0 J (fun i acc h j=>by rw[Nat.zero_add];exact its i acc h j) (by rw[Nat.zero_add];exact lw) turn (fun acc h j=>⟨rfl,fin acc h j⟩) ws.length 0 n [] (h1.push (.lst [])) (by omega) l (by omega) s;show okQ ((fC v t c none e h1.n K n 0 (nA nt idx τ) (h1.push (.lst []))).nox.bind fun _ h'=>.ok (.w (.ref h1.n)) h') (aW Q);generalize fC v t c none e h1.n K n 0 (nA nt idx τ) (h1.push (.lst []))=r at z
     cases r with
     | ok a h'=>exact z.2
     | _=>exact z.elim
   | _=>exact x.elim
 | _=>exact x.elim
theorem comp_map{nt:Nat}{idx:List Nat}{it:I}{t:Tg}{e:X}{Q:W->Hs->Prop}(x:wI it K n τ h fun v h1=>Ext h h1/\∃(ws:List W) (ds:List D) (B:Nat->Prop),(∀ h2,Ext h1 h2->Its v ws h2)/\(∀ p,B p->p<h1.n)/\ws.length=ds.length/\ws.length<=16777215/\ws.length<n/\
 (∀(i:Nat) w d h2 m,ws[i]? =some w->ds[i]? =some d->n<=m+ws.length->Ext h1 h2->h1.n<h2.n->∃ τ1,bf h2 9 t w (nA nt idx τ)=some τ1/\wX e K m τ1 h2 (fun w h3=>Ext h2 h3/\Rd h3 (fun p=>B p\/h2.n<=p) d w))/\
 ∀ h3,Ext h1 h3->Rd h3 (fun p=>B p\/h1.n<=p) (.lst ds) (.ref h1.n)->Q (.ref h1.n) h3):wX (.comp nt idx it t none none e) K n τ h Q:=by
 refine Jc ?_;refine sE x fun a h1 z=>?_
 cases a with
 | iv v=>
   obtain⟨x1,ws,ds,B,its,hB,le,l1,l2,turn,fin⟩:=z;refine⟨ws,fun i acc h2=>Ext h1 h2/\h1.n<h2.n/\h2.get h1.n=some (.lst acc)/\acc.length=i/\Rds h2 (fun p=>p ≠ h1.n/\(B p\/h1.n<=p)) (ds.take i) acc,fun i acc h2 j=>⟨its h2 j.1,j.2.2.1,by omega⟩,l1,l2,⟨.push,bN,aO,rfl,by simp[Rds]⟩,?_,?_⟩
   · rintro i w acc h2 m ei lm ⟨j1,j2,j3,j4,j5⟩;have li:i<ws.length:=(a_ ei).1;have ed:ds[i]? =some (ds[i]'(by omega)):=List.getElem?_eq_getElem (by omega);obtain⟨τ1,eb,y⟩:=turn i w _ h2 m ei ed lm j1 j2;refine⟨τ1,eb,?_⟩;refine oU y fun w' h3 ⟨y1,y2⟩=>?_;have g3:h3.get h1.n=some (.lst acc):=y1.get j2 j3;refine⟨g3,(j1.trans y1).set (az _),by rw[Hs.dh];exact aY j2 y1.1,by rw[Hs.get_set,if_pos rfl],by simp[j4],?_⟩;rw[List.take_add_one,ed]
     have z1:Rds h3 (fun p=>p ≠ h1.n/\(B p\/h1.n<=p)) (ds.take i++(some (ds[i]'(by omega))).toList) (acc ++ [w']):=(j5.ext y1).snoc (y2.imp fun p _ q=>by
      rcases q with q | q
      · have:=hB p q;exact⟨by omega,.inl q⟩
      · exact⟨by omega,.inr (by omega)⟩)
     exact Rds.to (by rw[Hs.dh];exact az _) (fun k _ a=>⟨by rw[Hs.get_set,if_neg a.1],a⟩) _ _ z1
   · rintro acc h2 ⟨j1,j2,j3,j4,j5⟩;refine fin h2 j1 ?_;rw[le,List.take_length]at j5;simp only[Rd]
     exact⟨_,acc,rfl,j2,.inr (az _),j3,j5.imp fun p _ q=>q.2⟩
 | _=>exact z.elim
theorem Qf{nt:Nat}{idx:List Nat}{it:I}{t:Tg}{c e:X}{Q:W->Hs->Prop}(x:wI it K n τ h fun v h1=>Ext h h1/\∃(ws:List W) (P:W->Bool),(∀ h2,Ext h1 h2->Its v ws h2)/\ws.length<=16777215/\ws.length<n/\
 (∀(i:Nat) w h2 m,ws[i]? =some w->n<=m+ws.length->Ext h1 h2->h1.n<h2.n->∃ τ1,bf h2 9 t w (nA nt idx τ)=some τ1/\wX c K m τ1 h2 (fun u h3=>u= .bl (P w)/\Ext h2 h3/\(P w=true->wX e K m τ1 h3 fun w' h4=>w'=w/\Ext h3 h4)))/\
 ∀ h3,Ext h1 h3->h1.n<h3.n->h3.get h1.n=some (.lst (ws.filter P))->Q (.ref h1.n) h3):wX (.comp nt idx it t (some c) none e) K n τ h Q:=by
 refine Jc ?_;refine sE x fun a h1 z=>?_
 cases a with
 | iv v=>
   obtain⟨x1,ws,P,its,l1,l2,turn,fin⟩:=z;refine⟨ws,fun i acc h2=>Ext h1 h2/\h1.n<h2.n/\h2.get h1.n=some (.lst acc)/\acc=(ws.take i).filter P,fun i acc h2 j=>⟨its h2 j.1,j.2.2.1,by rw[j.2.2.2];exact Nat.le_trans (List.length_filter_le _ _) (by rw[List.length_take];omega)⟩,l1,l2,⟨.push,bN,aO,by simp⟩,?_,?_⟩
   · rintro i w acc h2 m ei lm ⟨j1,j2,j3,j4⟩;obtain⟨τ1,eb,y⟩:=turn i w h2 m ei lm j1 j2;refine⟨τ1,eb,?_⟩;refine oU y fun u h3 ⟨y0,y1,y2⟩=>?_;subst y0
     have tk:(ws.take (i+1)).filter P=(ws.take i).filter P++if P w then [w] else []:=by
      rw[List.take_add_one,ei,List.filter_append];simp only[Option.toList,List.filter_cons,List.filter_nil]
     cases hp:P w with
     | false=>exact⟨j1.trans y1,aY j2 y1.1,y1.get j2 j3,by rw[tk,hp,j4];simp⟩
     | true=>
       refine oU (y2 hp) fun w' h4 ⟨e4,x4⟩=>?_;subst e4;have x24:=y1.trans x4;refine⟨x24.get j2 j3,(j1.trans x24).set (az _),by rw[Hs.dh];exact aY j2 x24.1,by rw[Hs.get_set,if_pos rfl],by rw[tk,hp,j4];simp⟩
   · rintro acc h2 ⟨j1,j2,j3,j4⟩
     exact fin h2 j1 j2 (by rw[j3,j4,List.take_length])
 | _=>exact z.elim
end
end Ev
namespace Ev
open PySem PySem.Spec PySem.SeqAt PyProof.Rows L2
section
def sumZ(xs:List Int):Int:=List.rec 0 (fun x _ r=>rY x r) xs
def adE(h:Hs)(a:W):R W:=h.at a fun _ o=>o.onL fun xs=>Opt (jd xs) fun ns=>.ok (.int (sumZ ns)) h
def Pr.sum:Pr:=⟨fun ws h=>gO ws (adE h)⟩
def aae(h:Hs)(a:W):R W:=h.at a fun _ o=>o.onL fun xs=>.alloc h (.lst (rev xs []))
def Pr.T3:Pr:=⟨fun ws h=>gO ws (aae h)⟩
end
section
variable{X:Cx}
theorem WD(hc:X.calm=true):lV X (.builtin "sum") (fun xs H Q=>∃(p:Addr) (ns:List Int),xs= [.ref p]/\SqL X.K H p (ns.map V.int)/\Q (.int ns.sum) H):=by
 intro pins s σ H xs us Q I r h;obtain⟨p,ns,rfl,hq,q⟩:=h;obtain⟨u,rfl,rx⟩:=vals1 r;cases rx;obtain⟨its,r',pl,hz⟩:=I.list hq;have hi:=Aw r';obtain⟨xs,hx⟩:=hi.allInts.items;have hl':s.heap.IsList p (intItems xs):=hx ▸ pl.isList;refine sum_intListG (I.ok.hd hc) hl' fun h' tk t' hk=>?_
 have e1:ns=xs.toList.map (·.1):=by
  rw[<- nums_intItems,<- hx];exact(show numsOf its.toArray.toList=ns from hi.numsOf).symm
 have e2:preSum (numAt xs) xs.size=ns.sum:=by rw[preSum_eq,List.take_of_length_le (by simp),e1]
 rw[e2];exact⟨.int ns.sum,H,I.kept (h':=h') (t':=tk) hk,⟨t',rfl⟩,q⟩
def adF(K:aq)(te:TE):TE:=fun σ H Q=>te σ H fun x H1=>∃ a xs,x= .ref a/\SqL K H1 a xs/\∀ p,H1 p=none->Q (.ref p) (upd H1 p (.lst xs.reverse))
theorem adG{e:Expr}{te:TE}{j}{p0 p1 p2 pos:Pos}(he:PE X e te):PE X (.Subscript e (.Slice none none (some (.UnaryOp .USub (.Constant (.int 1) j p0) p1)) p2) pos) (adF X.K te):=by
 intro pins s σ H Q I h;refine Subscript_ (thn (he pins s σ H _ I h) fun v s1 ⟨x,H1,I1,r1,q1⟩=>?_);obtain⟨a,xs,rfl,hx,q⟩:=q1;cases r1;have st:PO X (some (.UnaryOp .USub (.Constant (.int 1) j p0) p1)) (Sy (tUn _ (tC (.int 1)))):=Cm (ZP FT dz);refine wpAny_Slice ?_;rw[evalPart_none];refine wpAny_pure (wpAny_pure ?_);refine thn (st pins s1 σ H1 (fun o H'=>H'=H1/\o=some (-1)) I1 ⟨1,rfl,_,rfl,rfl,rfl⟩) fun vk s3 ⟨o,H3,I3,pk,e1,e2⟩=>?_;subst e1 e2;have I4:Inv X pins σ H3 { s3 with heap:=s3.heap.push { cls:=.type "slice",data:=.fields #[.none,.none,vk] } }:=I3.kept (t':=s3.toks) fun b ob q=>Heap.get?_push_of_some _ q;obtain⟨its,r,ht,hz⟩:=I4.list hx;refine tail_any (ops:=[.ref a,.ref s3.heap.objs.size]) ht.isList.typeIs slot_list_getitem.lookup ?_ (by with_unfolding_all rfl);refine wpAny_getItem_list_slice ht.isList (Heap.IsSliceOf.new ..) .none .none pk (by decide) ?_ (by rw[List.size_toArray,<- r.length];exact hz);rw[PySem.W.krv_pick];refine⟨.ref _,_,I4.laid (t':=s3.toks) (o:=.lst xs.reverse) (fun b ob q=>Heap.get?_push_of_some _ q) (az _) ?_,rfl,q _ (I4.hok.fresh (az _))⟩;exact⟨by rw[List.length_reverse];exact hz,_,0,r.reverse,Heap.get?_push_size _ rfl⟩
theorem Jd:∀ xs:List Int,sumZ xs=xs.sum
 | []=>rfl
 | x::xs=>by
   show rY x (sumZ xs)=_;rw[yj,Jd xs,List.sum_cons]
variable{Pg:List Fn}{cl:Cn}{E:XK}{d:Nat}{σ:L2.St}{H:Hp}
theorem ae1{K:aq}:OpN cl .sum (fun xs H Q=>∃(p:Addr) (ns:List Int),xs= [.ref p]/\SqL K H p (ns.map V.int)/\Q (.int ns.sum) H):=fun E ρ h H ws vs Q s r p=>by
 obtain⟨w,v,rfl,rfl,r1,p⟩:=Gx r (show Post cl ρ H E (ofW (gO ws (adE h))) (VP Q) from p);obtain⟨n,o,a,rfl,rfl,e1,g1,x1,p⟩:=oAt s r1 p;obtain⟨xs,rfl,p2⟩:=oL p;obtain⟨ns,hn,p3⟩:=pD p2;obtain⟨us,ru,q⟩:=x1;rw[E_ ru hn]at q;rw[Jd]at p3;exact⟨a,ns,rfl,SqL.of q,Post.gF s p3 (.int _)⟩
theorem adH{K:aq}{x:Ev.X}{Q:VK}(q:tE Pg cl E d (.pr .T3 [x]) σ H Q):adF K (tE Pg cl E d x) σ H Q:=by
 refine pN (r:=fun x H1 Q=>∃ a xs,x= .ref a/\SqL K H1 a xs/\∀ p,H1 p=none->Q (.ref p) (upd H1 p (.lst xs.reverse))) (fun E ρ h H w v Q s r p=>?_) q;obtain⟨n,o,a,rfl,rfl,e1,g1,x1,p⟩:=oAt s r (show Post cl ρ H E (ofW (aae h w)) (VP Q) from p);obtain⟨xs,rfl,p2⟩:=oL p;obtain⟨us,ru,q⟩:=x1;rw[rev_eq,List.append_nil]at p2;exact⟨a,us,rfl,SqL.of q,fun l hl=>Post.newL s p2 hl ru.reverse⟩
theorem adI{e:Expr}{x:Ev.X}{j}{p0 p1 p2 pos:Pos}(he:PE X e (tE Pg cl E d x)):PE X (.Subscript e (.Slice none none (some (.UnaryOp .USub (.Constant (.int 1) j p0) p1)) p2) pos) (tE Pg cl E d (.pr .T3 [x])):=PE.of (adG he) fun _ _ _ q=>adH q
end
end Ev
namespace Ev
section
variable{K:Ks}{n:Nat}{τ:Sg}{h:Hs}{Q:W->Hs->Prop}{i j:Int}{p q:Nat}{xs ys:List W}{ns:List Int}{A B:Nat->Prop}{d d':D}{w w':W}
theorem p_add(z:Q (.int (i+j)) h):wP .add [.int i,.int j] h Q:=by show Q (.int (rY i j)) h;rw[yj];exact z
theorem ae2(z:Q (.int (i - j)) h):wP .sub [.int i,.int j] h Q:=by show Q (.int (Tc i j)) h;rw[Q0];exact z
theorem ae3(z:Q (.int (-i)) h):wP .neg [.int i] h Q:=z
theorem jJ{β:Type}{b:Bool}{t f:β}(e:b=true):ifB b t f=t:=by subst e;rfl
theorem NK(l:i.natAbs<2 ^ 64):Sml i=true:=by
 have b:(2:Nat) ^ 64<=2 ^ 4000:=Nat.pow_le_pow_right (by decide) (by decide)
 cases i with
 | ofNat a=>
   show Nat.ble (a+1) (2 ^ 4000)=true;have:a<2 ^ 64:=l
   exact Nat.ble_eq_true_of_le (Nat.le_trans this b)
 | negSucc a=>
   show Nat.ble (a+2) (2 ^ 4000)=true;have:a+1<2 ^ 64:=l;exact Nat.ble_eq_true_of_le (Nat.le_trans (by omega) b)
theorem aaf(a:i.natAbs<2 ^ 64)(b:j.natAbs<2 ^ 64)(z:Q (.int (i*j)) h):wP .mul [.int i,.int j] h Q:=by
 show okQ (ifB (Sml i) (ifB (Sml j) (.ok (.int (i*j)) h) .no) .no) Q;rw[jJ (NK a),jJ (NK b)];exact z
theorem ae4(a:0<j)(z:Q (.int (i % j)) h):wP .mod [.int i,.int j] h Q:=by
 show okQ (ifB (ilt 0 j) (.ok (.int (fmod i j)) h) .no) Q;rw[jJ (by rw[cN];exact decide_eq_true a),fmod_eq];exact z
theorem WK(a:0<j)(b:j.natAbs<2 ^ 64)(z:Q (.int (i.fdiv j)) h):wP .fdiv [.int i,.int j] h Q:=by
 show okQ (ifB (ilt 0 j) (ifB (Sml j) (.ok (.int (i.fdiv j)) h) .no) .no) Q;rw[jJ (by rw[cN];exact decide_eq_true a),jJ (NK b)];exact z
theorem af4(z:Q (.bl (decide (i<j))) h):wP .lt [.int i,.int j] h Q:=by show Q (.bl (ilt i j)) h;rw[cN];exact z
theorem adJ(z:Q (.bl (decide (j<=i))) h):wP .ge [.int i,.int j] h Q:=by
 show Q (.bl (!ilt i j)) h;rw[cN,show(!decide (i<j))=decide (j<=i) by rw[Bool.eq_iff_iff];simp];exact z
theorem ae5(z:Q (.bl (decide (i=j))) h):wP .eq [.int i,.int j] h Q:=by
 show Q (.bl (eV (.int i) (.int j))) h;rw[show eV (.int i) (.int j)=decide (i=j) by simp[eV,eX]];exact z
theorem ae6(z:Q (.bl (!decide (i=j))) h):wP .ne [.int i,.int j] h Q:=by
 show Q (.bl (!eV (.int i) (.int j))) h;rw[show eV (.int i) (.int j)=decide (i=j) by simp[eV,eX]];exact z
theorem Mg{f:D->R W}(a:Rd h A d w)(l:kZ d<=12:=by decide)(o:okD d=true:=by rfl):wD h w f=f d:=by
 show Opt (toD h 12 w) f=_;rw[Wz d w 12 a l o];rfl
theorem aag(a:Rd h A d w)(b:Rd h B d' w')(l:kZ d<=12)(l':kZ d'<=12)(o:okD d=true)(o':okD d'=true)(z:Q (.bl (eV d d')) h):wP .eq [w,w'] h Q:=by
 show okQ (wD h w fun x=>wD h w' fun y=>.yes (id (eV x y)) h) Q;rw[Mg a l o,Mg b l' o'];exact z
theorem aah(a:Rd h A d w)(b:Rd h B d' w')(l:kZ d<=12)(l':kZ d'<=12)(o:okD d=true)(o':okD d'=true)(z:Q (.bl (!eV d d')) h):wP .ne [w,w'] h Q:=by
 show okQ (wD h w fun x=>wD h w' fun y=>.yes (not (eV x y)) h) Q;rw[Mg a l o,Mg b l' o'];exact z
theorem dm{β:Type}{f:Nat->O->R β}{o:O}(e:h.get p=some o):h.at (.ref p) f=f p o:=by
 show Opt (h.get p) (f p)=_;rw[e];rfl
theorem wK(e:h.get p=some (.lst xs))(z:Q (.int xs.length) h):wP .len [.ref p] h Q:=by
 show okQ (h.at (.ref p) fun _ o=>o.items fun xs=>.ok (.int (.ofNat (len xs))) h) Q;rw[dm e,show len=List.length from funext fun _=>len_eq _]at *;exact z
theorem Je(e:h.get p=some (.lst xs))(e2:xs[q]? =some w)(z:Q w h):wP .ix [.ref p,.int (Int.ofNat q)] h Q:=by
 show okQ (h.at (.ref p) fun _ o=>o.items fun xs=>Opt (nth xs q) fun w=>.ok w h) Q;rw[dm e];show okQ (Opt (nth xs q) fun w=>.ok w h) Q;rw[mF,e2];exact z
theorem aai(e:h.get p=some (.lst xs))(l:0<=i)(e2:xs[i.toNat]? =some w)(z:Q w h):wP .ix [.ref p,.int i] h Q:=by
 rw[show i=Int.ofNat i.toNat by show i=((i.toNat:Nat):Int);omega];exact Je e e2 z
theorem Mh(e:h.get p=some (.tup xs))(e2:xs[q]? =some w)(z:Q w h):wP .ix [.ref p,.int (Int.ofNat q)] h Q:=by
 show okQ (h.at (.ref p) fun _ o=>o.items fun xs=>Opt (nth xs q) fun w=>.ok w h) Q;rw[dm e];show okQ (Opt (nth xs q) fun w=>.ok w h) Q;rw[mF,e2];exact z
theorem aaj(l:xs.length<=16777215)(z:Q (.ref h.n) (h.push (.lst xs))):wP .lst xs h Q:=by
 show okQ (ifB (Nat.ble (len xs) 16777215) (.alloc h (.lst xs)) .no) Q;rw[len_eq,ble_eq,jJ (decide_eq_true l)];exact z
theorem ae7(l:xs.length<=16777215)(z:Q (.ref h.n) (h.push (.tup xs))):wP .tup xs h Q:=by
 show okQ (ifB (Nat.ble (len xs) 16777215) (.alloc h (.tup xs)) .no) Q;rw[len_eq,ble_eq,jJ (decide_eq_true l)];exact z
theorem adK(e:h.get p=some (.lst xs))(z:Q (.ref h.n) (h.push (.lst xs))):wP .list [.ref p] h Q:=by
 show okQ (h.at (.ref p) fun _ o=>o.items fun xs=>.alloc h (.lst xs)) Q;rw[dm e];exact z
theorem adL(e:h.get p=some (.lst xs))(z:Q (.ref h.n) (h.push (.lst xs.reverse))):wP .T3 [.ref p] h Q:=by
 show okQ (h.at (.ref p) fun _ o=>o.onL fun xs=>.alloc h (.lst (rev xs []))) Q;rw[dm e];show Q (.ref h.n) (h.push (.lst (rev xs [])));rw[rev_eq,List.append_nil];exact z
theorem wL:∀ ns:List Int,jd (ns.map W.int)=some ns
 | []=>rfl
 | n::ns=>by
   show Option.rec (motive:=fun _=>Option (List Int)) none (fun r=>some (n::r)) (jd (ns.map W.int))=_;rw[wL ns]
theorem ae8(e:h.get p=some (.lst (ns.map W.int)))(z:Q (.int ns.sum) h):wP .sum [.ref p] h Q:=by
 show okQ (h.at (.ref p) fun _ o=>o.onL fun xs=>Opt (jd xs) fun ns=>.ok (.int (sumZ ns)) h) Q;rw[dm e];show okQ (Opt (jd (ns.map W.int)) fun ns=>.ok (.int (sumZ ns)) h) Q;rw[wL];show Q (.int (sumZ ns)) h;rw[Jd];exact z
theorem adM{b:Bool}(z:Q (.bl (!b)) h):wP .yP [.bl b] h Q:=by cases b <;> exact z
theorem Y7{b:Bool}(z:Q (.bl b) h):wP .truth [.bl b] h Q:=z
theorem yX{a e:X}(x:wX a K n τ h fun w h1=>∃ p xs,w= .ref p/\h1.get p=some (.lst xs)/\wX e K n τ h1 fun u h2=>∃ ys,h2.get p=some (.lst ys)/\ys.length<=16777215/\Q .non (h2.set p (.lst (ys ++ [u])))):wX (.lm .append a [e]) K n τ h Q:=by
 show okQ ((a.f K n τ h).bind fun r h=>r.toW fun w=>h.at w fun _ o=>o.onL fun _=>(goA [e] K n τ h).bind fun r h=>r.toL fun ws=>ofW (lX .append (w::ws) h)) (aW Q);obtain⟨w,h1,ea,p,xs,rfl,g,y⟩:=jh x;rw[ea];show okQ (h1.at (.ref p) fun _ o=>o.onL fun _=>(goA [e] K n τ h1).bind fun r h=>r.toL fun ws=>ofW (lX .append (.ref p::ws) h)) (aW Q);rw[dm g];show okQ ((goA [e] K n τ h1).bind fun r h=>r.toL fun ws=>ofW (lX .append (.ref p::ws) h)) (aW Q);obtain⟨u,h2,eb,ys,g2,l2,q⟩:=jh y
 have:goA [e] K n τ h1= .ok (.ws [u]) h2:=by
  show R.rec (motive:=fun _=>R Ev.A) (fun r h=>A.rec (motive:=fun _=>R Ev.A) (fun w=>R.rec (motive:=fun _=>R Ev.A) (fun r h=>A.rec (motive:=fun _=>R Ev.A) (fun _=>.no) (fun ws=>.ok (.ws (w::ws)) h) (fun _=>.no) (fun _=>.no) .no r) (fun C fs h=>.ex C fs h) .no (goA [] K n τ h)) (fun _=>.no) (fun _=>.no) (fun _=>.no) .no r) (fun C fs h=>.ex C fs h) .no (e.f K n τ h1)=_;rw[eb];rfl
 rw[this];show okQ (ofW (h2.at (.ref p) fun n o=>o.onL fun xs=>ifB (Nat.ble (len xs) 16777215) (.ok W.non (h2.set n (.lst (app xs [u])))) .no)) (aW Q);rw[dm g2];show okQ (ofW (ifB (Nat.ble (len ys) 16777215) (.ok W.non (h2.set p (.lst (app ys [u])))) .no)) (aW Q);rw[len_eq,ble_eq,jJ (decide_eq_true l2),iW];exact q
theorem GX{e:X}{Q:Iv->Hs->Prop}(x:wX e K n τ h fun w h1=>∃ p ws,w= .ref p/\((h1.get p=some (.lst ws)/\Q (.lst p) h1)\/(h1.get p=some (.tup ws)/\Q (.tup p) h1))):wI (.seq e) K n τ h Q:=by
 show okQ ((e.f K n τ h).bind fun r h=>r.toW fun w=>h.at w fun n o=>O.casesOn o (fun _=>.ok (.iv (.tup n)) h) (fun _=>.ok (.iv (.lst n)) h) (fun _ _=>.no) (fun _=>.no) (fun _=>.no) (fun _=>.no)) (aV Q);obtain⟨w,h1,ea,p,ws,rfl,g⟩:=jh x;rw[ea];show okQ (h1.at (.ref p) fun n o=>O.casesOn o (fun _=>.ok (.iv (.tup n)) h1) (fun _=>.ok (.iv (.lst n)) h1) (fun _ _=>.no) (fun _=>.no) (fun _=>.no) (fun _=>.no)) (aV Q)
 rcases g with ⟨g,q⟩ | ⟨g,q⟩ <;> rw[dm g] <;> exact q
theorem WL{k:R Ev.A}(a:j<1000000000)(b: -1000000000<j):within j k=k:=by
 show ifB (ilt j 1000000000) (ifB (ilt (-1000000000) j) k .no) .no=_;rw[cN,cN,jJ (decide_eq_true a),jJ (decide_eq_true b)]
theorem k_{e:X}{Q:Iv->Hs->Prop}(x:wX e K n τ h fun w h1=>∃ j:Int,w= .int j/\j<1000000000/\-1000000000<j/\Q (.rng 0 j.toNat) h1):wI (.fD [e]) K n τ h Q:=by
 show okQ ((goA [e] K n τ h).bind fun r h=>r.toL fun ws=>Ep ws fun w=>w.onI fun j=>within j (.ok (.iv (.rng 0 j.toNat)) h)) (aV Q);obtain⟨w,h1,ea,j,rfl,l1,l2,q⟩:=jh x
 have:goA [e] K n τ h= .ok (.ws [.int j]) h1:=by
  show R.rec (motive:=fun _=>R Ev.A) (fun r h=>A.rec (motive:=fun _=>R Ev.A) (fun w=>R.rec (motive:=fun _=>R Ev.A) (fun r h=>A.rec (motive:=fun _=>R Ev.A) (fun _=>.no) (fun ws=>.ok (.ws (w::ws)) h) (fun _=>.no) (fun _=>.no) .no r) (fun C fs h=>.ex C fs h) .no (goA [] K n τ h)) (fun _=>.no) (fun _=>.no) (fun _=>.no) .no r) (fun C fs h=>.ex C fs h) .no (e.f K n τ h)=_;rw[ea];rfl
 rw[this];show okQ (within j (.ok (.iv (.rng 0 j.toNat)) h1)) (aV Q);rw[WL l1 l2];exact q
def j6(lo:Int)(m:Nat):List W:=(List.range m).map fun k=>.int (lo+Int.ofNat k)
theorem aH{lo:Int}{m:Nat}:(j6 lo m).length=m:=by simp[j6]
theorem f9{lo:Int}{m k:Nat}(l:k<m):(j6 lo m)[k]? =some (.int (lo+Int.ofNat k)):=by simp[j6,l]
theorem jl{lo:Int}{m:Nat}{h:Hs}:Its (.rng lo m) (j6 lo m) h:=.inr (.inr ⟨lo,by rw[aH],fun i l=>f9 (by rw[aH]at l;exact l)⟩)
theorem Rn{h1 h2:Hs}(e:h1.get p=some (.lst xs))(l:p<h1.n)(x:Ext h1 h2):Its (.lst p) xs h2:=.inl ⟨p,rfl,x.get l e⟩
end
section
variable{K:Ks}{n:Nat}{τ:Sg}{h:Hs}{ss:List S}
theorem aR{i:Nat}{w:W}{Q:W->Hs->Prop}(e:cD τ i=some w)(q:Q w h):wX (.var i) K n τ h Q:=(adD e).mpr q
theorem yp{A:Nat->Prop}{i:Int}:Rd h A (.int i) (.int i):=by simp only[Rd]
theorem aC{Q:Fl->Hs->Prop}(x:wS ss K n τ h Q):Ma ss K n h Q (.nx τ):=x
theorem aa9{w:W}{Q:Fl->Hs->Prop}(x:Q (.rt w) h):Ma ss K n h Q (.rt w):=x
theorem adN{w:W}{Q:W->Hs->Prop}(x:Q w h):TV Q (.rt w) h:=x
theorem adO{Q:W->Hs->Prop}(x:Q .non h):TV Q (.nx τ) h:=x
theorem jC{J:Sg->Hs->Prop}{Q:Fl->Hs->Prop}(x:J τ h):lpQ J Q (.nx τ) h:=x
theorem xg{t f:Prop}(x:t):bW (.bl true) t f:=x
theorem qw{t f:Prop}(x:f):bW (.bl false) t f:=x
theorem T4{t f:Prop}(x:f):bW (.bl (!true)) t f:=x
theorem T6{t f:Prop}(x:t):bW (.bl (!false)) t f:=x
theorem Y8{c:Prop}[Decidable c]{t f:Prop}(x:c->t)(y:¬ c->f):bW (.bl (decide c)) t f:=by
 by_cases z:c
 · rw[decide_eq_true z];exact x z
 · rw[decide_eq_false z];exact y z
theorem CP{b:Bool}{t f:Prop}(e:b=false)(y:f):bW (.bl b) t f:=by subst e;exact y
theorem Ro{l:List Int}{k:Nat}(z:k<l.length):(l.map W.int)[k]? =some (.int (l.getD k 0)):=by
 rw[List.getElem?_map,List.getElem?_eq_getElem z];simp[List.getD,List.getElem?_eq_getElem z]
theorem NP:∀ ns:List Int,uL (ns.map D.int)<=1
 | []=>by simp[uL]
 | n::ns=>by simp only[List.map_cons,uL,kZ];have:=NP ns;omega
theorem Rp:∀ ns:List Int,yW (ns.map D.int)=true
 | []=>by simp[yW]
 | n::ns=>by simp[yW,okD,Rp ns]
theorem WM(ns:List Int):kZ (Dis ns)<=12:=by simp only[Dis,kZ];have:=NP ns;omega
theorem aak(ns:List Int):okD (Dis ns)=true:=by simp only[Dis,okD];exact Rp ns
theorem J_:∀ {row ls:List Int},L2.Drawn row ls->row.length=ls.length
 | _,_,.nil=>rfl
 | _,_,.cons _ t=>by simp[J_ t]
theorem NQ:∀ {row ls:List Int} {k:Nat},L2.Drawn row ls->k<ls.length->0<=row.getD k 0/\row.getD k 0<ls.getD k 0
 | _,_,k,.nil,l=>by simp at l
 | _,_,0,.cons a _,_=>by simpa using a
 | _,_,k+1,.cons _ t,l=>by simpa using NQ (k:=k) t (by simpa using l)
end
section
variable{K:Ks}{n:Nat}{τ:Sg}{h:Hs}{Q:W->Hs->Prop}{i j:Int}{p q:Nat}{xs ys:List W}{A B:Nat->Prop}
theorem aa_(z:Q (.bl true) h):wP (.isi 0) [.int i] h Q:=z
theorem aba(z:Q (.bl false) h):wP (.isi 1) [.int i] h Q:=z
abbrev Dp(a b:Int):D:=.tup [.int a,.int b]
theorem adP{a b:Int}{w:W}:Rd h A (Dp a b) w ↔ ∃ p,w= .ref p/\p<h.n/\A p/\h.get p=some (.tup [.int a,.int b]):=by
 have e:[D.int a,D.int b] = [a,b].map D.int:=rfl;simp only[Dp,Rd,e,Rds.ints]
 constructor
 · rintro⟨p,ws,e,l,a,g,rfl⟩;exact⟨p,e,l,a,g⟩
 · rintro⟨p,e,l,a,g⟩;exact⟨p,_,e,l,a,g,rfl⟩
theorem vH{ds:List D}{w:W}:Rd h A (.lst ds) w ↔ ∃ p ws,w= .ref p/\p<h.n/\A p/\h.get p=some (.lst ws)/\Rds h A ds ws:=by simp only[Rd]
end
section
variable{K:Ks}{n:Nat}{τ:Sg}{h:Hs}{Q:W->Hs->Prop}{i j:Int}{p q:Nat}{xs ys:List W}{ns:List Int}{A B:Nat->Prop}
def adQ(v:Iv)(it:List (Hs->W × Hs))(h:Hs):Prop:=∀(i:Nat) (fin:R Ev.A) (go:W->Hs->R Ev.A),v.next i h fin go=Option.rec fin (fun f=>go (f h).1 (f h).2) (it[i]?)
theorem Its.two{v:Iv}{ws:List W}(x:Its v ws h):adQ v (ws.map fun w h=>(w,h)) h:=fun i fin go=>by
 rw[x.next,List.getElem?_map];cases ws[i]? <;> rfl
theorem WN{v:Iv}{t:Tg}{g:I}{t2:Tg}{e:X}{D:Nat}{it:List (Hs->W × Hs)}{Q:Ev.A->Hs->Prop}(J:Nat->Hs->Prop)(its:∀ i h,J i h->adQ v it h)
 (turn:∀ i f h m,it[i]? =some f->n<=m+it.length->J i h->∃ τ1,bf (f h).2 9 t (f h).1 τ=some τ1/\wI g K m τ1 (f h).2 fun v2 h2=>okQ (fC v2 t2 none none e D K m 0 τ1 h2) fun _ h3=>J (i+1) h3) (fin:∀ h,J it.length h->Q .u h):
 ∀(k i m:Nat) (h:Hs),i+k=it.length->k<m->n<=m+i->J i h->okQ (fC v t none (some (.mk g t2 none)) e D K m i τ h) Q
 | k,i,0,h,_,l,_,_=>absurd l (by omega)
 | k,i,m+1,h,ek,l,l2,x=>by
   have u:fC v t none (some (.mk g t2 none)) e D K (m+1) i τ h=v.next i h (.ok .u h) fun w h=>Opt (bf h 9 t w τ) fun τ1=>(g.f K m τ1 h).bind fun r h=>r.toV fun v2=>(fC v2 t2 none none e D K m 0 τ1 h).bind fun _ h=>fC v t none (some (.mk g t2 none)) e D K m (i+1) τ h:=rfl;rw[u,its i h x]
   cases k with
   | zero=>
     rw[List.getElem?_eq_none (by omega)];rw[Nat.add_zero]at ek;subst ek
     exact fin h x
   | succ k=>
     have li:i<it.length:=by omega
     rw[List.getElem?_eq_getElem li];obtain⟨τ1,e1,y⟩:=turn i it[i] h m (List.getElem?_eq_getElem li) (by omega) x;show okQ (Opt (bf (it[i] h).2 9 t (it[i] h).1 τ) fun τ1=>(g.f K m τ1 (it[i] h).2).bind fun r h=>r.toV fun v2=>(fC v2 t2 none none e D K m 0 τ1 h).bind fun _ h=>fC v t none (some (.mk g t2 none)) e D K m (i+1) τ h) Q;rw[e1];show okQ ((g.f K m τ1 (it[i] h).2).bind fun r h=>r.toV fun v2=>(fC v2 t2 none none e D K m 0 τ1 h).bind fun _ h=>fC v t none (some (.mk g t2 none)) e D K m (i+1) τ h) Q;unfold wI at y;generalize g.f K m τ1 (it[i] h).2=r at y
     cases r with
     | ok a h2=>cases a with
       | iv v2=>
         show okQ ((fC v2 t2 none none e D K m 0 τ1 h2).bind fun _ h=>fC v t none (some (.mk g t2 none)) e D K m (i+1) τ h) Q;refine Y6.mpr (sE (show okQ (fC v2 t2 none none e D K m 0 τ1 h2) (fun _ h3=>J (i+1) h3) from y) fun _ h3 j3=>?_)
         exact WN J its turn fin k (i+1) m h3 (by omega) (by omega) (by omega) j3
       | _=>exact y.elim
     | _=>exact y.elim
def vI(D:Nat)(h h':Hs):Prop:=h.n<=h'.n/\∀ k,k<h.n->k ≠ D->h'.get k=h.get k
theorem vI.refl{D:Nat}:vI D h h:=⟨az _,fun _ _ _=>rfl⟩
theorem vI.trans{D:Nat}{a b c:Hs}(x:vI D a b)(y:vI D b c):vI D a c:=⟨Nat.le_trans x.1 y.1,fun k l ne=>(y.2 k (aY l x.1) ne).trans (x.2 k l ne)⟩
theorem Ext.D{D:Nat}{a b:Hs}(x:Ext a b):vI D a b:=⟨x.1,fun k l _=>x.2 k l⟩
theorem vI.set{D:Nat}{a b:Hs}{o:O}(x:vI D a b):vI D a (b.set D o):=⟨by rw[Hs.dh];exact x.1,fun k l ne=>by rw[Hs.get_set,if_neg ne];exact x.2 k l ne⟩
theorem Y9(e:h.get p=some (.lst (ns.map W.int)))(l:ns.length<=1000)(z:Q (.int (len (dd ns []):Nat)) h):wP .yf [.ref p] h Q:=by
 show okQ (h.at (.ref p) fun _ o=>o.onL fun xs=>ifB (Nat.ble (len xs) 1000) (Opt (jd xs) fun ns=>.ok (.int (.ofNat (len (dd ns [])))) h) .no) Q;rw[dm e];show okQ (ifB (Nat.ble (len (ns.map W.int)) 1000) (Opt (jd (ns.map W.int)) fun ns=>.ok (.int (.ofNat (len (dd ns [])))) h) .no) Q;rw[len_eq,List.length_map,ble_eq,jJ (decide_eq_true l),wL];exact z
theorem Ba(i:Int):∀ ns:List Int,w5 (.int i) (ns.map W.int)=some (decide (i ∈ ns))
 | []=>rfl
 | n::ns=>by
   show Option.rec (motive:=fun _=>Option Bool) none (fun b=>Option.rec (motive:=fun _=>Option Bool) none (fun r=>some (ifB b true r)) (w5 (.int i) (ns.map W.int))) (some (ieq n i))=_;rw[Ba i ns,eX];show some (ifB (decide (n=i)) true (decide (i ∈ ns)))=_
   by_cases c:n=i
   · subst c;simp[ifB]
   · have c':¬ i=n:=fun z=>c z.symm;rw[decide_eq_false c];simp[ifB,c']
theorem T7(e:h.get p=some (.lst (ns.map W.int)))(z:Q (.bl (decide (i ∈ ns))) h):wP .in_ [.int i,.ref p] h Q:=by
 show okQ (h.at (.ref p) fun _ o=>o.items fun xs=>Opt (some (ieq i i)) fun _=>Opt (w5 (.int i) xs) fun c=>.yes (id c) h) Q;rw[dm e];show okQ (Opt (w5 (.int i) (ns.map W.int)) fun c=>.yes (id c) h) Q;rw[Ba];exact z
theorem abb(e:h.get p=some (.lst (ns.map W.int)))(z:Q (.bl (!decide (i ∈ ns))) h):wP .wJ [.int i,.ref p] h Q:=by
 show okQ (h.at (.ref p) fun _ o=>o.items fun xs=>Opt (some (ieq i i)) fun _=>Opt (w5 (.int i) xs) fun c=>.yes (not c) h) Q;rw[dm e];show okQ (Opt (w5 (.int i) (ns.map W.int)) fun c=>.yes (not c) h) Q;rw[Ba];exact z
theorem ae9{w:W}(z:Q (.bl (wH w)) h):wP .isN [w] h Q:=z
end
section
variable{K:Ks}{n:Nat}{τ:Sg}{h:Hs}{Q:W->Hs->Prop}
theorem T_{es:List X}{Q:List W->Hs->Prop}(x:wA es K n τ h Q):∃ w h',goA es K n τ h= .ok (.ws w) h'/\Q w h':=by
 unfold wA at x;generalize goA es K n τ h=r at x
 cases r with
 | ok a h'=>cases a with
   | ws w=>exact⟨w,h',rfl,x⟩
   | _=>exact x.elim
 | _=>exact x.elim
theorem CQ{i j:Nat}{e:X}{Q:Fl->Hs->Prop}(x:wX e K n τ h fun w h1=>∃ p u v,w= .ref p/\h1.get p=some (.tup [u,v])/\Q (.nx (setAt (setAt τ (some u) i) (some v) j)) h1):w1 (.asg (.tup [.nm i,.nm j]) e) K n τ h Q:=by
 obtain⟨w,h1,e1,p,u,v,rfl,g,q⟩:=jh x;show okQ ((e.f K n τ h).bind fun r h=>r.toW fun w=>Opt (bf h 9 (.tup [.nm i,.nm j]) w τ) fun τ=>.ok (.fl (.nx τ)) h) (aF Q);rw[e1];show okQ (Opt (Option.rec (motive:=fun _=>Option Sg) none (fun o=>O.rec (motive:=fun _=>Option Sg) (fun xs=>bindL (bf h1 8) [.nm i,.nm j] xs τ) (fun _=>none) (fun _ _=>none) (fun _=>none) (fun _=>none) (fun _=>none) o) (h1.get p)) fun τ=>.ok (.fl (.nx τ)) h1) (aF Q);rw[g];exact q
end
section
variable{K:Ks}{n:Nat}{τ:Sg}{h:Hs}{Q:W->Hs->Prop}{i j:Int}{p q:Nat}{xs ys:List W}{ns:List Int}{A B:Nat->Prop}
def sG(lo:Int)(m:Nat):List Int:=(List.range m).map fun k=>lo+Int.ofNat k
end
section
variable{K:Ks}{n:Nat}{τ:Sg}{h:Hs}{Q:W->Hs->Prop}{p q:Nat}{xs ys:List W}{A B:Nat->Prop}
theorem Rds.at{ds:List D}{ws:List W}{i:Nat}{w:W}(r:Rds h A ds ws)(e:ws[i]? =some w):∃ d,ds[i]? =some d/\Rd h A d w:=by
 have l:i<ds.length:=by have:=(a_ e).1;rw[r.length]at this;exact this
 obtain⟨w',e',x⟩:=r.get (List.getElem?_eq_getElem l);rw[e]at e';cases e';exact⟨_,List.getElem?_eq_getElem l,x⟩
end
end Ev
namespace Ev
open PySem PySem.Spec PySem.SeqAt PyProof.Rows L2
section
def gH(ws:List W):Bool:=List.rec true (fun w _ r=>ifB (iT w) r false) ws
def lZ(a:List W):List W->Bool:=List.rec (fun b=>List.rec true (fun _ _ _=>false) b) (fun x _ ih b=>List.rec false (fun y r _=>ifB (keq x y) (ih r) false) b) a
def O.uo{β:Type}(o:O)(f:List (List W × W)->R β):R β:=O.rec (fun _=>.no) (fun _=>.no) (fun _ _=>.no) (fun _=>.no) f (fun _=>.no) o
def bU(kvs:List (List W × W))(k:List W):Option W:=List.rec none (fun p _ r=>ifB (lZ p.1 k) (some p.2) r) kvs
def nP(kvs:List (List W × W))(k:List W)(v:W):List (List W × W):=List.rec [] (fun p _ r=>ifB (lZ p.1 k) (p.1,v) p::r) kvs
def d7(kvs:List (List W × W))(k:List W)(v:W):List (List W × W):=ifB (isS (bU kvs k)) (nP kvs k v) (app kvs [(k,v)])
def Ua(f:Bool->Bool)(h:Hs)(b a:W):R W:=h.at a fun _ o=>o.uo fun kvs=>h.at b fun _ o=>o.onT fun ks=>ifB (gH ks) (.yes (f (isS (bU kvs ks))) h) .no
def WQ(h:Hs)(a b:W):R W:=h.at a fun _ o=>o.uo fun kvs=>h.at b fun _ o=>o.onT fun ks=>ifB (gH ks) (Opt (bU kvs ks) fun w=>.ok w h) .no
def adR(h:Hs)(ws:List W):R W:=List.rec (.alloc h (.dt [])) (fun _ _ _=>.no) ws
def Pr.Ub:Pr:=⟨fun ws h=>fZ ws (Ua id h)⟩
def Pr.yZ:Pr:=⟨fun ws h=>fZ ws (WQ h)⟩
def Pr.Uc:Pr:=⟨fun ws h=>adR h ws⟩
def S.GZ(o k v:X):S:=⟨fun K n τ h=>(v.f K n τ h).bind fun r h=>r.toW fun w=>(o.f K n τ h).bind fun r h=>r.toW fun a=>(k.f K n τ h).bind fun r h=>r.toW fun b=>h.at a fun n o=>o.uo fun kvs=>h.at b fun _ o=>o.onT fun ks=>ifB (gH ks) (ifB (Nat.ble (len kvs) 1000000) (.ok (.fl (.nx τ)) (h.set n (.dt (d7 kvs ks w)))) .no) .no⟩
end
section
variable{ρ:List Addr}
abbrev KTs(ρ:List Addr):List (List W × W)->List (List Key × V)->Prop:=Paired fun p q=>Paired KW p.1 q.1/\RW ρ p.2 q.2
theorem G3:∀ {ks:List W} {vs:List V},gH ks=true->RWs ρ ks vs->∃ k,Paired KW ks k/\vs=k.map kV
 | [],_,_,.nil=>⟨[],.nil,rfl⟩
 | w::ks,_,e,.cons r t=>by
   obtain⟨e1,e2⟩:=aeY (show ifB (iT w) (gH ks) false=true from e);obtain⟨k,h1,rfl⟩:=L_ e1 r;obtain⟨l,h2,rfl⟩:=G3 e2 t;exact⟨k::l,.cons h1 h2,rfl⟩
theorem Jf:∀ {a b:List W} {k l:List Key},Paired KW a k->Paired KW b l->lZ a b=decide (k=l)
 | _,_,_,_,.nil,.nil=>rfl
 | _,_,_,_,.nil,.cons _ _=>by simp[lZ]
 | _,_,_,_,.cons _ _,.nil=>by simp[lZ]
 | x::a,y::b,k::ks,l::ls,.cons r t,.cons r' t'=>by
   show ifB (keq x y) (lZ a b) false=_;rw[Nu r r',Jf t t']
   by_cases c:k=l
   · subst c;by_cases c2:ks=ls <;> simp[ifB,c2]
   · rw[decide_eq_false c];simp[ifB,c]
theorem y_{b:List W}{k:List Key}(hb:Paired KW b k):∀ {kvs:List (List W × W)} {gs:List (List Key × V)},KTs ρ kvs gs->(∀ w,bU kvs b=some w->∃ v,m9 gs k=some v/\RW ρ w v)/\isS (bU kvs b)=(m9 gs k).isSome
 | _,_,.nil=>⟨fun w e=>(by have e:(none:Option W)=some w:=e;cases e),rfl⟩
 | p::kvs,q::gs,.cons r t=>by
   obtain⟨ih1,ih2⟩:=y_ hb t;have e:bU (p::kvs) b=ifB (lZ p.1 b) (some p.2) (bU kvs b):=rfl;rw[e,Jf r.1 hb]
   by_cases z:q.1=k
   · rw[decide_eq_true z,vq z];exact⟨fun w h=>(by have h:some p.2=some w:=h;cases h;exact⟨_,rfl,r.2⟩),rfl⟩
   · rw[decide_eq_false z,vz z];exact⟨ih1,ih2⟩
theorem NT{b:List W}{w:W}{k:List Key}{v:V}(hb:Paired KW b k)(rw':RW ρ w v):∀ {kvs:List (List W × W)} {gs:List (List Key × V)},KTs ρ kvs gs->KTs ρ (nP kvs b w) (gs.map fun kv=>if kv.1=k then(kv.1,v) else kv)
 | _,_,.nil=>.nil
 | p::kvs,q::gs,.cons r t=>by
   have e:nP (p::kvs) b w=ifB (lZ p.1 b) (p.1,w) p::nP kvs b w:=rfl;rw[e,Jf r.1 hb,List.map_cons];refine .cons ?_ (NT hb rw' t)
   by_cases z:q.1=k
   · rw[decide_eq_true z,if_pos z];exact⟨r.1,rw'⟩
   · rw[decide_eq_false z,if_neg z];exact r
theorem KTs.snoc{p:List W × W}{q:List Key × V}(r:Paired KW p.1 q.1/\RW ρ p.2 q.2):∀ {kvs:List (List W × W)} {gs:List (List Key × V)},KTs ρ kvs gs->KTs ρ (kvs ++ [p]) (gs ++ [q])
 | _,_,.nil=>.cons r .nil
 | _,_,.cons h t=>.cons h (KTs.snoc r t)
theorem Y_{b:List W}{w:W}{k:List Key}{v:V}(hb:Paired KW b k)(rw':RW ρ w v){kvs:List (List W × W)}{gs:List (List Key × V)}(h:KTs ρ kvs gs):KTs ρ (d7 kvs b w) (putK gs k v):=by
 unfold d7 putK;rw[(y_ hb h).2,yL]
 cases (m9 gs k).isSome with
 | true=>rw[if_pos rfl];exact NT hb rw' h
 | false=>rw[if_neg (by simp),iW];exact KTs.snoc ⟨hb,rw'⟩ h
end
section
variable{Pg:List Fn}{cl:Cn}{E:XK}{d:Nat}{X:Cx}{σ σ0:L2.St}{H:Hp}
theorem oDT{ρ:List Addr}{o:O}{f:List (List W × W)->R W}{P:A->Hs->List Addr->Hp->Prop}(p:Post cl ρ H E (ofW (o.uo f)) P):∃ xs,o= .dt xs/\Post cl ρ H E (ofW (f xs)) P:=by
 cases o with
 | dt xs=>exact⟨xs,rfl,p⟩
 | _=>exact p.elim
theorem oTu{ρ:List Addr}{o:O}{f:List W->R W}{P:A->Hs->List Addr->Hp->Prop}(p:Post cl ρ H E (ofW (o.onT f)) P):∃ xs,o= .tup xs/\Post cl ρ H E (ofW (f xs)) P:=by
 cases o with
 | tup xs=>exact⟨xs,rfl,p⟩
 | _=>exact p.elim
theorem abd{ρ:List Addr}{β:Type}{o:O}{f:List (List W × W)->R β}{P:β->Hs->List Addr->Hp->Prop}(p:Post cl ρ H E (o.uo f) P):∃ xs,o= .dt xs/\Post cl ρ H E (f xs) P:=by
 cases o with
 | dt xs=>exact⟨xs,rfl,p⟩
 | _=>exact p.elim
theorem abe(f:Bool->Bool){p:Pr}(hp:∀ ws h,lX p ws h=fZ ws (Ua f h)):Op2 cl p (rDI f):=fun E ρ h H w1 w2 v1 v2 Q s r1 r2 q=>by
 rw[hp]at q;obtain⟨n,o,a,rfl,rfl,e1,g1,x1,p⟩:=oAt s r2 (show Post cl ρ H E (ofW (Ua f h w1 w2)) (VP Q) from q);obtain⟨kvs,rfl,p2⟩:=oDT p;obtain⟨m,o2,b,rfl,rfl,e2,g2,x2,p3⟩:=oAt s r1 p2;obtain⟨ks,rfl,p4⟩:=oTu p3;obtain⟨c,p5⟩:=oIf p4;obtain⟨gs,kr,hH⟩:=x1;obtain⟨us,ru,hB⟩:=x2;obtain⟨k,kw,rfl⟩:=G3 c ru;obtain⟨_,f2⟩:=y_ kw kr;rw[f2]at p5;exact⟨a,_,rfl,rT.t hH hB,Post.gF s p5 (.bl _)⟩
theorem WR:Op2 cl .Ub (rDI id):=abe id fun _ _=>rfl
theorem abf:Op2 cl .yZ rDG:=fun E ρ h H w1 w2 v1 v2 Q s r1 r2 q=>by
 obtain⟨n,o,a,rfl,rfl,e1,g1,x1,p⟩:=oAt s r1 (show Post cl ρ H E (ofW (WQ h w1 w2)) (VP Q) from q);obtain⟨kvs,rfl,p2⟩:=oDT p;obtain⟨m,o2,b,rfl,rfl,e2,g2,x2,p3⟩:=oAt s r2 p2;obtain⟨ks,rfl,p4⟩:=oTu p3;obtain⟨c,p5⟩:=oIf p4;obtain⟨w,ew,p6⟩:=pD p5;obtain⟨gs,kr,hH⟩:=x1;obtain⟨us,ru,hB⟩:=x2;obtain⟨k,kw,rfl⟩:=G3 c ru;obtain⟨v,ev,rv⟩:=(y_ kw kr).1 w ew;exact⟨a,v,rfl,ev ▸ rT.t hH hB,Post.gF s p6 rv⟩
theorem zc{a b:Expr}{x y:Ev.X}{pos:Pos}(hu:X.A.units+1<cLine)(ha:PE X a (tE Pg cl E d x))(hb:PE X b (tE Pg cl E d y))(hs:xZ b:=by exact fun _ _=>rfl):PE X (.Subscript a b pos) (tE Pg cl E d (.pr .yZ [x,y])):=
 PE.of (yI (Iz hu) ha hb hs) fun _ _ _ q=>t6 abf q
theorem Za{pos:Pos}:PE X (.Dict [] [] pos) (tE Pg cl E d (.pr .Uc [])):=PE.of Yj fun σ H Q x=>by
 obtain⟨ρ,τ,h,n,s,rs,q⟩:=x.step;intro p hp;have q:Post cl ρ H E (ofW (.alloc h (.dt []))) (VP Q):=q;exact q.new s hp ⟨[],.nil,aG⟩
theorem Zb{o k v:Ev.X}{D:Ends}(x:tS Pg cl E d σ0 (.GZ o k v) D σ H):SQ (tE Pg cl E d o) (tE Pg cl E d k) (tE Pg cl E d v) D σ H:=by
 obtain⟨ρ,τ,h,n,s,rs,ag,q⟩:=x.step;refine ev.then s rs (show Post cl ρ H E ((evs Pg n d (.x v) τ h).bind fun r h=>r.toW fun w=>(evs Pg n d (.x o) τ h).bind fun r h=>r.toW fun a=>(evs Pg n d (.x k) τ h).bind fun r h=>r.toW fun b=>h.at a fun n o=>o.uo fun kvs=>h.at b fun _ o=>o.onT fun ks=>ifB (gH ks) (ifB (Nat.ble (len kvs) 1000000) (.ok (.fl (.nx τ)) (h.set n (.dt (d7 kvs ks w)))) .no) .no) (SPo σ0 D) from q) fun a1 h1 ρ1 H1 b1 s1 p1=>?_;obtain⟨w,rfl,p2⟩:=bK p1;refine⟨w,rfl,fun wv rwv=>?_⟩;refine ev.then s1 (rs.mono b1.1) p2 fun a2 h2 ρ2 H2 b2 s2 p3=>?_;obtain⟨a,rfl,p4⟩:=bK p3;refine⟨a,rfl,fun av rav=>?_⟩;refine ev.then s2 (rs.mono (b1.1.trans b2.1)) p4 fun a3 h3 ρ3 H3 b3 s3 p5=>?_;obtain⟨b,rfl,p6⟩:=bK p5;refine⟨b,rfl,fun bv rbv=>?_⟩;obtain⟨m,ob,ad,rfl,rfl,e1,g1,x1,p7⟩:=at_of s3 (rav.mono b3.1) p6;obtain⟨kvs,rfl,p8⟩:=abd p7;obtain⟨m2,ob2,ad2,rfl,rfl,e2,g2,x2,p9⟩:=at_of s3 rbv p8;obtain⟨ks,rfl,p10⟩:=ac2 p9;obtain⟨ck,p11⟩:=gK p10;obtain⟨cl1,p12⟩:=gK p11;obtain⟨gs,kr,hH⟩:=x1;obtain⟨us,ru,hB⟩:=x2;obtain⟨key,kw,rfl⟩:=G3 ck ru;have hl:kvs.length=gs.length:=Paired.length kr
 have hlt:gs.length<sizeLine:=by
  rw[ble_eq,len_eq]at cl1;have:=of_decide_eq_true cl1;rw[oO];omega
 have kr2:=Y_ kw ((rwv.mono b2.1).mono b3.1) kr;refine⟨ad,_,rfl,Ao.t hH hB hlt,?_⟩;obtain⟨f,ef,qf⟩:=p12 ρ3 (upd H3 ad (.dT (putK gs key wv))) (Bt.put e1) (s3.put e1 ⟨_,kr2,aG⟩);cases ef;exact qf σ (rs.mono (b1.1.trans (b2.1.trans b3.1))) ag
theorem NZ{o i value:Expr}{xo xi xv:Ev.X}{pos pos':Pos}(hu:X.A.units+1<cLine)(ho:PE X o (tE Pg cl E d xo))(hi:PE X i (tE Pg cl E d xi))(hv:PE X value (tE Pg cl E d xv))(hs:swapsWith value (some (.Subscript o i pos')) pos.line X.env=pure false:=by rfl):
 PS X (.Assign [.Subscript o i pos'] value pos) (tS Pg cl E d σ0 (.GZ xo xi xv)):=PS.of (QL hu ho hi hv hs) fun _ _ _ q=>Zb q
end
section
def W.onS{β:Type}(w:W)(f:List Nat->R β):R β:=W.rec .no (fun _=>.no) (fun _=>.no) f (fun _=>.no) w
def ae_(xs:List W):Option (List (List Nat)):=List.rec (some []) (fun x _ r=>W.elim x none (fun _=>none) (fun _=>none) (fun c=>Option.rec none (fun cs=>some (c::cs)) r) (fun _=>none)) xs
def adS(cs:List (List Nat)):Nat:=List.rec 0 (fun c _ r=>len c+r) cs
def afa(z:List Nat)(cs:List (List Nat)):List Nat:=(PySem.Txt.join (nm z) (cs.map nm)).cps.toList
def afb(z:List Nat)(h:Hs)(a:W):R W:=h.at a fun _ o=>o.onL fun xs=>Opt (ae_ xs) fun cs=>ifB (Nat.ble (adS cs+len cs*len z) 16777216) (.ok (.str (afa z cs)) h) .no
def Pr.join(z:List Nat):Pr:=⟨fun ws h=>gO ws (afb z h)⟩
end
section
variable{h:Hs}{Q:W->Hs->Prop}{K:Ks}{n:Nat}{τ:Sg}{A:Nat->Prop}
theorem N5{c:List Nat}:Rd h A (.str c) (.str c):=by simp only[Rd]
end
section
variable{K:Ks}{n:Nat}{τ:Sg}{h:Hs}{Q:W->Hs->Prop}{p q:Nat}{xs ys:List W}{A B:Nat->Prop}
theorem N6{p:Nat}{t:Tg}{b:List S}{ws:List W}{Q:Fl->Hs->Prop}(I:Nat->Sg->Hs->Prop)(its:∀ i τ h,I i τ h->h.get p=some (.lst ws))
 (turn:∀ i w τ h m,ws[i]? =some w->n<=m+ws.length->I i τ h->∃ τ1,bf (h.push (.tup [.int (.ofNat i),w])) 9 t (.ref h.n) τ=some τ1/\wS b K m τ1 (h.push (.tup [.int (.ofNat i),w])) (lpQ (I (i+1)) Q)) (fin:∀ τ h,I ws.length τ h->Q (.nx τ) h):
 ∀(k i m:Nat) (τ:Sg) (h:Hs),i+k=ws.length->k<m->n<=m+i->I i τ h->okQ (nZ (.enu p) t b K m i τ h) (aF Q)
 | k,i,0,τ,h,e,l,_,x=>absurd l (by omega)
 | k,i,m+1,τ,h,e,l,l2,x=>by
   have u:nZ (.enu p) t b K (m+1) i τ h=Iv.next (.enu p) i h (.ok (.fl (.nx τ)) h) fun w h=>Opt (bf h 9 t w τ) fun τ=>(jo b K m τ h).bind fun r h=>r.toF fun f=>pZ h f fun τ=>nZ (.enu p) t b K m (i+1) τ h:=rfl;rw[u];show okQ (Opt (h.get p) fun o=>o.onS fun xs=>Option.rec (.ok (.fl (.nx τ)) h) (fun x=>Opt (bf (h.push (.tup [.int (.ofNat i),x])) 9 t (.ref h.n) τ) fun τ=>(jo b K m τ (h.push (.tup [.int (.ofNat i),x]))).bind fun r h=>r.toF fun f=>pZ h f fun τ=>nZ (.enu p) t b K m (i+1) τ h) (nth xs i)) (aF Q);rw[its i τ h x];show okQ (Option.rec (.ok (.fl (.nx τ)) h) (fun x=>Opt (bf (h.push (.tup [.int (.ofNat i),x])) 9 t (.ref h.n) τ) fun τ=>(jo b K m τ (h.push (.tup [.int (.ofNat i),x]))).bind fun r h=>r.toF fun f=>pZ h f fun τ=>nZ (.enu p) t b K m (i+1) τ h) (nth ws i)) (aF Q);rw[mF]
   cases k with
   | zero=>
     rw[List.getElem?_eq_none (by omega)];rw[Nat.add_zero]at e;subst e
     exact fin τ h x
   | succ k=>
     have li:i<ws.length:=by omega
     rw[List.getElem?_eq_getElem li];obtain⟨τ1,e1,y⟩:=turn i ws[i] τ h m (List.getElem?_eq_getElem li) (by omega) x;show okQ (Opt (bf (h.push (.tup [.int (.ofNat i),ws[i]])) 9 t (.ref h.n) τ) fun τ=>(jo b K m τ (h.push (.tup [.int (.ofNat i),ws[i]]))).bind fun r h=>r.toF fun f=>pZ h f fun τ=>nZ (.enu p) t b K m (i+1) τ h) (aF Q);rw[e1];show okQ ((jo b K m τ1 (h.push (.tup [.int (.ofNat i),ws[i]]))).bind fun r h=>r.toF fun f=>pZ h f fun τ=>nZ (.enu p) t b K m (i+1) τ h) (aF Q);obtain⟨f,h',z,q⟩:=aac y;rw[z]
     cases f with
     | nx τ2=>exact N6 I its turn fin k (i+1) m τ2 h' (by omega) (by omega) (by omega) q
     | ct τ2=>exact N6 I its turn fin k (i+1) m τ2 h' (by omega) (by omega) (by omega) q
     | rt w=>exact q
     | bk τ2=>exact q
theorem Rq{e:X}{t:Tg}{b:List S}{Q:Fl->Hs->Prop}(x:wX e K n τ h fun w h1=>∃(p:Nat) (ws:List W) (J:Nat->Sg->Hs->Prop),w= .ref p/\h1.get p=some (.lst ws)/\(∀ i τ h,J i τ h->h.get p=some (.lst ws))/\ws.length<n/\J 0 τ h1/\
 (∀ i w τ h m,ws[i]? =some w->n<=m+ws.length->J i τ h->∃ τ1,bf (h.push (.tup [.int (.ofNat i),w])) 9 t (.ref h.n) τ=some τ1/\wS b K m τ1 (h.push (.tup [.int (.ofNat i),w])) (lpQ (J (i+1)) Q))/\∀ τ h,J ws.length τ h->Q (.nx τ) h):w1 (.for_ (.enu [e]) t b) K n τ h Q:=by
 have y:wA [e] K n τ h fun us h1=>∃(p:Nat) (ws:List W) (J:Nat->Sg->Hs->Prop),us= [.ref p]/\h1.get p=some (.lst ws)/\(∀ i τ h,J i τ h->h.get p=some (.lst ws))/\ws.length<n/\J 0 τ h1/\
  (∀ i w τ h m,ws[i]? =some w->n<=m+ws.length->J i τ h->∃ τ1,bf (h.push (.tup [.int (.ofNat i),w])) 9 t (.ref h.n) τ=some τ1/\wS b K m τ1 (h.push (.tup [.int (.ofNat i),w])) (lpQ (J (i+1)) Q))/\∀ τ h,J ws.length τ h->Q (.nx τ) h:=by
  refine aQ.mpr (oU x fun v h1 ⟨p,ws,J,e,z⟩=>?_);subst e;exact⟨p,ws,J,rfl,z⟩
 obtain⟨us,h1,e1,p,ws,J,rfl,g,its,l,s,turn,fin⟩:=T_ y;show okQ (((goA [e] K n τ h).bind fun r h=>r.toL fun ws=>Ep ws fun v=>h.at v fun n o=>o.onL fun _=>.ok (.iv (.enu n)) h).bind fun r h=>r.toV fun v=>nZ v t b K n 0 τ h) (aF Q);rw[e1];show okQ ((h1.at (.ref p) fun n o=>o.onL fun _=>(.ok (Ev.A.iv (.enu n)) h1:Ev.R Ev.A)).bind fun r h=>r.toV fun v=>nZ v t b K n 0 τ h) (aF Q);rw[dm g];exact N6 J its turn fin ws.length 0 n τ h1 (by omega) l (by omega) s
variable{kvs:List (List W × W)}{ks:List W}
theorem abg(z:Q (.ref h.n) (h.push (.dt []))):wP .Uc [] h Q:=z
theorem WT(e:h.get p=some (.dt kvs))(e2:h.get q=some (.tup ks))(k:gH ks=true)(z:Q (.bl (isS (bU kvs ks))) h):wP .Ub [.ref q,.ref p] h Q:=by
 show okQ (h.at (.ref p) fun _ o=>o.uo fun kvs=>h.at (.ref q) fun _ o=>o.onT fun ks=>ifB (gH ks) (.yes (id (isS (bU kvs ks))) h) .no) Q;rw[dm e];show okQ (h.at (.ref q) fun _ o=>o.onT fun ks=>ifB (gH ks) (.yes (id (isS (bU kvs ks))) h) .no) Q;rw[dm e2];show okQ (ifB (gH ks) (.yes (isS (bU kvs ks)) h) .no) Q;rw[k];show okQ (.yes (isS (bU kvs ks)) h) Q;generalize isS (bU kvs ks)=b at z;cases b <;> exact z
theorem N7{o k v:X}{Q:Fl->Hs->Prop}(x:wX v K n τ h fun w h1=>wX o K n τ h1 fun a h2=>wX k K n τ h2 fun b h3=>∃ p q kvs ks,a= .ref p/\b= .ref q/\h3.get p=some (.dt kvs)/\h3.get q=some (.tup ks)/\gH ks=true/\kvs.length<=1000000/\Q (.nx τ) (h3.set p (.dt (d7 kvs ks w)))):w1 (.GZ o k v) K n τ h Q:=by
 obtain⟨w,h1,e1,x⟩:=jh x;obtain⟨a,h2,e2,x⟩:=jh x;obtain⟨b,h3,e3,p,q,kvs,ks,rfl,rfl,g1,g2,kq,l,z⟩:=jh x;show okQ ((v.f K n τ h).bind fun r h=>r.toW fun w=>(o.f K n τ h).bind fun r h=>r.toW fun a=>(k.f K n τ h).bind fun r h=>r.toW fun b=>h.at a fun n o=>o.uo fun kvs=>h.at b fun _ o=>o.onT fun ks=>ifB (gH ks) (ifB (Nat.ble (len kvs) 1000000) (.ok (.fl (.nx τ)) (h.set n (.dt (d7 kvs ks w)))) .no) .no) (aF Q);rw[e1];show okQ ((o.f K n τ h1).bind fun r h=>r.toW fun a=>(k.f K n τ h).bind fun r h=>r.toW fun b=>h.at a fun n o=>o.uo fun kvs=>h.at b fun _ o=>o.onT fun ks=>ifB (gH ks) (ifB (Nat.ble (len kvs) 1000000) (.ok (.fl (.nx τ)) (h.set n (.dt (d7 kvs ks w)))) .no) .no) (aF Q);rw[e2];show okQ ((k.f K n τ h2).bind fun r h=>r.toW fun b=>h.at (.ref p) fun n o=>o.uo fun kvs=>h.at b fun _ o=>o.onT fun ks=>ifB (gH ks) (ifB (Nat.ble (len kvs) 1000000) (.ok (.fl (.nx τ)) (h.set n (.dt (d7 kvs ks w)))) .no) .no) (aF Q);rw[e3];show okQ (h3.at (.ref p) fun n o=>o.uo fun kvs=>h3.at (.ref q) fun _ o=>o.onT fun ks=>ifB (gH ks) (ifB (Nat.ble (len kvs) 1000000) (.ok (.fl (.nx τ)) (h3.set n (.dt (d7 kvs ks w)))) .no) .no) (aF Q);rw[dm g1];show okQ (h3.at (.ref q) fun _ o=>o.onT fun ks=>ifB (gH ks) (ifB (Nat.ble (len kvs) 1000000) (.ok (.fl (.nx τ)) (h3.set p (.dt (d7 kvs ks w)))) .no) .no) (aF Q);rw[dm g2];show okQ (ifB (gH ks) (ifB (Nat.ble (len kvs) 1000000) (.ok (.fl (.nx τ)) (h3.set p (.dt (d7 kvs ks w)))) .no) .no) (aF Q);rw[kq,len_eq,Nat.ble_eq_true_of_le l];exact z
end
section
theorem t8(a b c d:Int):lZ [.int a,.int b] [.int c,.int d] =decide (a=c/\b=d):=by
 show ifB (keq (.int a) (.int c)) (ifB (keq (.int b) (.int d)) true false) false=_
 have e:∀ x y:Int,keq (.int x) (.int y)=decide (x=y):=fun x y=>by
  show ieq x y=_;rw[eX]
 rw[e,e]
 by_cases h1:a=c
 · by_cases h2:b=d
   · simp[h1,h2,ifB]
   · simp[h1,h2,ifB]
 · simp[h1,ifB]
theorem lQ(a b:Int):gH [.int a,.int b] =true:=rfl
theorem oX(p:List W × W)(kvs:List (List W × W))(k:List W):bU (p::kvs) k=ifB (lZ p.1 k) (some p.2) (bU kvs k):=rfl
theorem Rr(k:List W)(w:W):∀ kvs:List (List W × W),(nP kvs k w).length=kvs.length
 | []=>rfl
 | p::kvs=>congrArg (· + 1) (Rr k w kvs)
theorem N8(k:List W)(w:W):∀ kvs:List (List W × W),(∀ p ∈ kvs,∃ a b:Int,p.1= [W.int a,.int b])->∀ p ∈ nP kvs k w,∃ a b:Int,p.1= [W.int a,.int b]
 | [],_=>fun p h=>by cases h
 | q::kvs,al=>fun p h=>by
   have h:p ∈ ifB (lZ q.1 k) (q.1,w) q::nP kvs k w:=h
   rcases List.mem_cons.mp h with rfl | h
   · have k1:(ifB (lZ q.1 k) (q.1,w) q).1=q.1:=by cases lZ q.1 k <;> rfl
     rw[k1];exact al q (List.mem_cons_self ..)
   · exact N8 k w kvs (fun r hr=>al r (List.mem_cons_of_mem _ hr)) p h
variable{h:Hs}{Q:W->Hs->Prop}{K:Ks}{n:Nat}{τ:Sg}{A:Nat->Prop}
theorem Bb{a hi:X}(x:wX a K n τ h fun w h1=>wX hi K n τ h1 fun u h3=>∃(p:Nat) (xs:List W) (j:Nat),w= .ref p/\u= .int (Int.ofNat j)/\j<xs.length/\h3.get p=some (.tup xs)/\Q (.ref h3.n) (h3.push (.tup (xs.take j)))):wX (.slice a none (some hi)) K n τ h Q:=by
 obtain⟨w,h1,e1,x⟩:=jh x;obtain⟨u,h3,e2,p,xs,j,rfl,rfl,lj,g,q⟩:=jh x
 have si:sIx (len xs) (len xs) (some (Int.ofNat j))=j:=by
  show ifB (Nat.ble j (len xs)) j (len xs)=j;rw[len_eq,ble_eq,jJ (decide_eq_true (Nat.le_of_lt lj))]
 show okQ ((a.f K n τ h).bind fun r h=>r.toW fun w=>Eo K n none τ h fun l h=>Eo K n (some hi) τ h fun u h=>h.at w fun _ o=>
  O.rec (fun xs=>ifB (ifB (Nat.beq (sIx (len xs) 0 l) 0) (Nat.beq (sIx (len xs) (len xs) u) (len xs)) false) .no (ofW (.alloc h (.tup (tak (drp xs (sIx (len xs) 0 l)) (sIx (len xs) (len xs) u - sIx (len xs) 0 l)))))) (fun xs=>ofW (.alloc h (.lst (tak (drp xs (sIx (len xs) 0 l)) (sIx (len xs) (len xs) u - sIx (len xs) 0 l))))) (fun _ _=>.no) (fun _=>.no) (fun _=>.no) (fun _=>.no) o) (aW Q)
 rw[e1]
 show okQ ((hi.f K n τ h1).bind fun r h=>r.toW fun w=>w.onI fun u=>h.at (.ref p) fun _ o=>
  O.rec (fun xs=>ifB (ifB (Nat.beq (sIx (len xs) 0 none) 0) (Nat.beq (sIx (len xs) (len xs) (some u)) (len xs)) false) .no (ofW (.alloc h (.tup (tak (drp xs (sIx (len xs) 0 none)) (sIx (len xs) (len xs) (some u) - sIx (len xs) 0 none)))))) (fun xs=>ofW (.alloc h (.lst (tak (drp xs (sIx (len xs) 0 none)) (sIx (len xs) (len xs) (some u) - sIx (len xs) 0 none))))) (fun _ _=>.no) (fun _=>.no) (fun _=>.no) (fun _=>.no) o) (aW Q)
 rw[e2];show okQ (h3.at (.ref p) fun _ o=>O.rec (fun xs=>ifB (ifB (Nat.beq (sIx (len xs) 0 none) 0) (Nat.beq (sIx (len xs) (len xs) (some (Int.ofNat j))) (len xs)) false) .no (ofW (.alloc h3 (.tup (tak (drp xs (sIx (len xs) 0 none)) (sIx (len xs) (len xs) (some (Int.ofNat j)) - sIx (len xs) 0 none)))))) (fun xs=>ofW (.alloc h3 (.lst (tak (drp xs (sIx (len xs) 0 none)) (sIx (len xs) (len xs) (some (Int.ofNat j)) - sIx (len xs) 0 none))))) (fun _ _=>.no) (fun _=>.no) (fun _=>.no) (fun _=>.no) o) (aW Q);rw[dm g];show okQ (ifB (ifB (Nat.beq 0 0) (Nat.beq (sIx (len xs) (len xs) (some (Int.ofNat j))) (len xs)) false) .no (ofW (.alloc h3 (.tup (tak (drp xs 0) (sIx (len xs) (len xs) (some (Int.ofNat j)) - 0)))))) (aW Q);rw[si]
 have nb:Nat.beq j (len xs)=false:=by rw[len_eq];cases z:Nat.beq j xs.length with
  | false=>rfl
  | true=>have:=Nat.eq_of_beq_eq_true z;omega
 show okQ (ifB (Nat.beq j (len xs)) .no (ofW (.alloc h3 (.tup (tak (drp xs 0) (j - 0)))))) (aW Q);rw[nb];show Q (.ref h3.n) (h3.push (.tup (tak (drp xs 0) (j - 0))));rw[M9,M8,List.drop_zero,Nat.sub_zero];exact q
abbrev D3(t:Int × Int × Int):D:=.tup [.int t.1,.int t.2.1,.int t.2.2]
theorem Ud{t:Int × Int × Int}{w:W}:Rd h A (D3 t) w ↔ ∃ p,w= .ref p/\p<h.n/\A p/\h.get p=some (.tup [.int t.1,.int t.2.1,.int t.2.2]):=by
 have e:[D.int t.1,D.int t.2.1,D.int t.2.2] = [t.1,t.2.1,t.2.2].map D.int:=rfl;simp only[D3,Rd,e,Rds.ints]
 constructor
 · rintro⟨p,ws,e,l,a,g,rfl⟩;exact⟨p,e,l,a,g⟩
 · rintro⟨p,e,l,a,g⟩;exact⟨p,_,e,l,a,g,rfl⟩
theorem Fe{i j k:Nat}{e:X}{Q:Fl->Hs->Prop}(x:wX e K n τ h fun w h1=>∃ p u v z,w= .ref p/\h1.get p=some (.tup [u,v,z])/\Q (.nx (setAt (setAt (setAt τ (some u) i) (some v) j) (some z) k)) h1):w1 (.asg (.tup [.nm i,.nm j,.nm k]) e) K n τ h Q:=by
 obtain⟨w,h1,e1,p,u,v,z,rfl,g,q⟩:=jh x;show okQ ((e.f K n τ h).bind fun r h=>r.toW fun w=>Opt (bf h 9 (.tup [.nm i,.nm j,.nm k]) w τ) fun τ=>.ok (.fl (.nx τ)) h) (aF Q);rw[e1]
 have eb:bf h1 9 (.tup [.nm i,.nm j,.nm k]) (.ref p) τ=some (setAt (setAt (setAt τ (some u) i) (some v) j) (some z) k):=by
  show Option.rec (motive:=fun _=>Option Sg) _ _ (h1.get p)=_;rw[g];rfl
 show okQ (Opt (bf h1 9 (.tup [.nm i,.nm j,.nm k]) (.ref p) τ) fun τ=>.ok (.fl (.nx τ)) h1) (aF Q);rw[eb];exact q
theorem abh{nt:Nat}{idx:List Nat}{it:I}{t:Tg}{c e:X}{Q:W->Hs->Prop}(x:wI it K n τ h fun v h1=>Ext h h1/\∃(ws:List W) (ds:List (Bool × D)),(∀ h2,Ext h1 h2->Its v ws h2)/\ws.length=ds.length/\ws.length<=16777215/\ws.length<n/\
 (∀(i:Nat) w b d h2 m,ws[i]? =some w->ds[i]? =some (b,d)->n<=m+ws.length->Ext h1 h2->h1.n<h2.n->∃ τ1,bf h2 9 t w (nA nt idx τ)=some τ1/\wX c K m τ1 h2 (fun u h3=>u= .bl b/\Ext h2 h3/\(b=true->wX e K m τ1 h3 fun w' h4=>Ext h3 h4/\Ev.Rd h4 (fun p=>h2.n<=p) d w')))/\
 ∀ us h3,Ext h1 h3->h1.n<h3.n->h3.get h1.n=some (.lst us)->Rds h3 (fun p=>h1.n<=p/\p ≠ h1.n) ((ds.filter fun x=>x.1).map fun x=>x.2) us->Q (.ref h1.n) h3):wX (.comp nt idx it t (some c) none e) K n τ h Q:=by
 refine Jc ?_;refine sE x fun a h1 z=>?_
 cases a with
 | iv v=>
   obtain⟨x1,ws,ds,its,le,l1,l2,turn,fin⟩:=z;refine⟨ws,fun i acc h2=>Ext h1 h2/\h1.n<h2.n/\h2.get h1.n=some (.lst acc)/\acc.length<=i/\Rds h2 (fun p=>h1.n<=p/\p ≠ h1.n) (((ds.take i).filter fun x=>x.1).map fun x=>x.2) acc,fun i acc h2 j=>⟨its h2 j.1,j.2.2.1,j.2.2.2.1⟩,l1,l2,⟨.push,bN,aO,az _,by simp[Rds]⟩,?_,?_⟩
   · rintro i w acc h2 m ei lm ⟨j1,j2,j3,j4,j5⟩;have li:i<ws.length:=(a_ ei).1;have ed:ds[i]? =some ((ds[i]'(by omega)).1,(ds[i]'(by omega)).2):=List.getElem?_eq_getElem (by omega);obtain⟨τ1,eb,y⟩:=turn i w _ _ h2 m ei ed lm j1 j2;refine⟨τ1,eb,?_⟩;refine oU y fun u h3 ⟨y0,y1,y2⟩=>?_;subst y0
     have tk:((ds.take (i+1)).filter fun x=>x.1).map (fun x=>x.2)=(((ds.take i).filter fun x=>x.1).map fun x=>x.2)++if(ds[i]'(by omega)).1 then [(ds[i]'(by omega)).2] else []:=by
      rw[List.take_add_one,ed,List.filter_append,List.map_append];congr 1
      cases hb:(ds[i]'(by omega)).1 <;> simp[hb]
     cases hp:(ds[i]'(by omega)).1 with
     | false=>
       rw[hp]at tk
       exact⟨j1.trans y1,aY j2 y1.1,y1.get j2 j3,by omega,by rw[tk];simpa using j5.ext y1⟩
     | true=>
       rw[hp]at tk;refine oU (y2 hp) fun w' h4 ⟨x4,r4⟩=>?_;have x24:=y1.trans x4;refine⟨x24.get j2 j3,(j1.trans x24).set (az _),by rw[Hs.dh];exact aY j2 x24.1,by rw[Hs.get_set,if_pos rfl],by simp;omega,?_⟩;rw[tk];have z1:=(j5.ext x24).snoc (r4.imp (A':=fun p=>h1.n<=p/\p ≠ h1.n) fun p _ q=>⟨by omega,by omega⟩);exact Rds.to (by rw[Hs.dh];exact az _) (fun k _ a=>⟨by rw[Hs.get_set,if_neg a.2],a⟩) _ _ z1
   · rintro acc h2 ⟨j1,j2,j3,j4,j5⟩;rw[le,List.take_length]at j5
     exact fin acc h2 j1 j2 j3 j5
 | _=>exact z.elim
end
section
def O.onC{β:Type}(o:O)(f:List Int->R β):R β:=O.rec (fun _=>.no) (fun _=>.no) (fun _ _=>.no) (fun _=>.no) (fun _=>.no) f o
def uM(ns:List Int)(k:Int):Int:=if k<(ns.length:Int) then ns.getD k.toNat 0 else if ns.length=0 then 7919*k else ns.getD (k % (ns.length:Int)).toNat 0+104729*k
def aal(h:Hs)(a b:W):R W:=h.at a fun _ o=>o.onC fun ns=>b.onI fun k=>ifB (ilt (-1) k) (ifB (Nat.ble (len ns) 63) (.ok (.int (uM ns k)) h) .no) .no
def Pr.cell:Pr:=⟨fun ws h=>fZ ws (aal h)⟩
def N_(s k:Int):Int:=(s*s % 2147483647*(s % 65521+3)+k*7919+131) % 2147483647
def qZ:Int->Int->Nat->List Int->List Int
 | _,_,_,[]=>[]
 | rest,seed,i,z::ls=>if 0<rest then rest % z::qZ (rest.fdiv z) seed (i+1) ls else(N_ seed i).fdiv 61 % z::qZ rest (N_ seed i) (i+1) ls
def jX(c:Int)(ls:List Int):List Int:=qZ (if(10:Int) ^ (18:Int).toNat<=c then c else 0) (((if c<0 then -c else c)*2654435+40503) % 2147483647) 0 ls
def zf(ls:List Int):Bool:=List.rec true (fun z _ r=>ifB (ilt 0 z) (ifB (ilt z 1000000) r false) false) ls
def aam(h:Hs)(a b:W):R W:=a.onI fun c=>h.at b fun _ o=>o.onL fun xs=>Opt (jd xs) fun ls=>ifB (Nat.ble (len ls) 63) (ifB (zf ls) (.alloc h (.lst ((jX c ls).map W.int))) .no) .no
def Pr.draw:Pr:=⟨fun ws h=>fZ ws (aam h)⟩
end
theorem Ff:∀ {ls:List Int},zf ls=true ↔ ∀ z ∈ ls,0<z/\z<1000000
 | []=>by simp[zf]
 | z::ls=>by
   show ifB (ilt 0 z) (ifB (ilt z 1000000) (zf ls) false) false=true ↔ _;rw[cN,cN]
   by_cases a:0<z
   · by_cases b:z<1000000
     · rw[decide_eq_true a,decide_eq_true b];show zf ls=true ↔ _;rw[Ff];simp[a,b]
     · rw[decide_eq_true a,decide_eq_false b]
       constructor
       · intro x;cases x
       · intro x;exact absurd (x z (List.mem_cons_self ..)).2 b
   · rw[decide_eq_false a]
     constructor
     · intro x;cases x
     · intro x;exact absurd (x z (List.mem_cons_self ..)).1 a
theorem Fg:∀(ls:List Int) (rest seed:Int) (i:Nat),(∀ z ∈ ls,0<z)->Drawn (qZ rest seed i ls) ls
 | [],_,_,_,_=>.nil
 | z::ls,rest,seed,i,h=>by
   have z0:=h z (List.mem_cons_self ..);have hl:∀ z ∈ ls,0<z:=fun z hz=>h z (List.mem_cons_of_mem _ hz);unfold qZ
   split
   · exact .cons ⟨Int.emod_nonneg _ (by omega),Int.emod_lt_of_pos _ z0⟩ (Fg ls _ _ _ hl)
   · exact .cons ⟨Int.emod_nonneg _ (by omega),Int.emod_lt_of_pos _ z0⟩ (Fg ls _ _ _ hl)
theorem abi(c:Int){ls:List Int}(h:∀ z ∈ ls,0<z):Drawn (jX c ls) ls:=Fg ls _ _ _ h
section
variable{Pg:List Fn}{cl:Cn}{E:XK}{d:Nat}{X:Cx}{σ:L2.St}{H:Hp}
def adT:Sp:=fun vs H Q _=>∃ a k:Int,vs= [.int a,.int k]/\0<=a/\a<2147483647/\Q (.int (N_ a k)) H
def Rt:Sp:=fun vs H Q _=>∃(c:Int) (l:Addr) (ls:List Int),vs= [.int c,.ref l]/\H l=some (.lst (ls.map V.int))/\ls.length<=63/\(∀ z ∈ ls,0<z/\L2.Sml z)/\∀(r:Addr) (H':Hp),H r=none->fQ H H'->H' r=some (.lst ((jX c ls).map V.int))->Q (.ref r) H'
def Ru(K:aq):Sp:=fun vs H Q _=>∃(a:Addr) (ns:List Int) (k:Int),vs= [.ref a,.int k]/\SqL K H a (ns.map V.int)/\ns.length<=63/\0<=k/\Q (.int (uM ns k)) H
theorem oCl{ρ:List Addr}{o:O}{f:List Int->R W}{P:A->Hs->List Addr->Hp->Prop}(p:Post cl ρ H E (ofW (o.onC f)) P):∃ xs,o= .scr xs/\Post cl ρ H E (ofW (f xs)) P:=by
 cases o with
 | scr xs=>exact⟨xs,rfl,p⟩
 | _=>exact p.elim
theorem adU{K:aq}:OpN cl .cell (fun vs H Q=>Ru K vs H Q E0):=fun E ρ h H ws vs Q s r p=>by
 obtain⟨w,v,w',v',rfl,rfl,r1,r2,p1⟩:=Gy r (show Post cl ρ H E (ofW (fZ ws (aal h))) (VP Q) from p);obtain⟨n,o,a,rfl,rfl,e1,g1,x1,p⟩:=oAt s r1 p1;obtain⟨ns,rfl,p⟩:=oCl p;obtain⟨ob,eo⟩:=x1
 cases r2 with
 | int k=>
   obtain⟨ek,p⟩:=oIf (show Post cl ρ H E (ofW (ifB (ilt (-1) k) (ifB (Nat.ble (len ns) 63) (.ok (.int (uM ns k)) h) .no) .no)) (VP Q) from p);obtain⟨el,p⟩:=oIf p;rw[cN]at ek;rw[ble_eq,len_eq]at el;have ek:=of_decide_eq_true ek
   exact⟨a,ns,k,rfl,.inl (.inr ⟨ob,eo⟩),of_decide_eq_true el,by omega,Post.gF s (show Post cl ρ H E (.ok (.w (.int (uM ns k))) h) (VP Q) from p) (.int _)⟩
 | _=>exact p.elim
theorem Ka{ρ:List Addr}:∀ {xs:List W} {vs:List V} {ls:List Int},RWs ρ xs vs->jd xs=some ls->vs=ls.map V.int/\xs=ls.map W.int
 | [],_,ls,.nil,e=>by cases e;exact⟨rfl,rfl⟩
 | x::xs,_,ls,.cons r t,e=>by
   cases x with
   | int i=>
     have e:Option.rec (motive:=fun _=>Option (List Int)) none (fun r=>some (i::r)) (jd xs)=some ls:=e
     cases q:jd xs with
     | none=>rw[q]at e;cases e
     | some l=>
       rw[q]at e;cases e;obtain⟨a,b⟩:=Ka t q
       cases r with
       | int _=>exact⟨by rw[a];rfl,by rw[b];rfl⟩
   | _=>cases e
theorem Sim.drawn{ρ:List Addr}{h:Hs}{H':Hp}{r:Addr}{ns:List Int}(s:Sim cl ρ h H)(n:H r=Option.none)(e:fQ H H')(g:H' r=some (.lst (ns.map V.int))):Sim cl (ρ ++ [r]) (h.push (.lst (ns.map W.int))) H'/\Bt cl ρ H (ρ ++ [r]) H':=by
 refine⟨(s.same e).1.adopt (s.new n) ⟨ns.map V.int,?_,g⟩,List.prefix_append _ _,fun b u q nb=>⟨fun z=>?_,fun _=>e b u q,u,e b u q⟩⟩
 · exact rw_ints _ ns
 · rcases List.mem_append.mp z with z | z
   · exact nb z
   · simp at z;rw[z,n]at q;cases q
theorem adV:OpN cl .draw (fun vs H Q=>Rt vs H Q E0):=fun E ρ h H ws vs Q s r p=>by
 obtain⟨w,v,w',v',rfl,rfl,r1,r2,p1⟩:=Gy r (show Post cl ρ H E (ofW (fZ ws (aam h))) (VP Q) from p)
 cases r1 with
 | int c=>
   obtain⟨n,o,a,rfl,rfl,e1,g1,x1,p⟩:=oAt s r2 (show Post cl ρ H E (ofW (h.at w' fun _ o=>o.onL fun xs=>Opt (jd xs) fun ls=>ifB (Nat.ble (len ls) 63) (ifB (zf ls) (.alloc h (.lst ((jX c ls).map W.int))) .no) .no)) (VP Q) from p1);obtain⟨xs,rfl,p2⟩:=oL p;obtain⟨ls,el,p3⟩:=pD p2;obtain⟨k1,p4⟩:=oIf p3;obtain⟨k2,p5⟩:=oIf p4;obtain⟨us,ru,eu⟩:=x1;obtain⟨rfl,rfl⟩:=Ka ru el;rw[ble_eq,len_eq]at k1;have k2:=Ff.mp k2;refine⟨c,a,ls,rfl,eu,of_decide_eq_true k1,fun z hz=>⟨(k2 z hz).1,Wv (by have:=k2 z hz;omega) (by have:=k2 z hz;omega)⟩,fun r H' hr sm g=>?_⟩;obtain⟨s',bt⟩:=s.drawn hr sm g;obtain⟨w',e',q⟩:=(show Post cl ρ H E (.ok (.w (.ref h.n)) (h.push (.lst ((jX c ls).map W.int)))) (VP Q) from p5) _ _ bt s';cases e'
   exact q _ (.ref (by rw[<- s.len,List.getElem?_append_right (az _),Nat.sub_self];rfl))
 | _=>exact p1.elim
theorem aan{pr:Pr}{sp:Sp}{k:Nat}{fa:Addr}{fd:FuncData}{ps:List Str}{st:Stmt}{x:Str}{e:Expr}{es:List Expr}{y:Ev.X}{ys:List Ev.X}{p pos:Pos}(z:OpN cl pr (fun vs H Q=>sp vs H Q E0))(D:Df X.K X.mg x st ps fa fd)(F:bH X.prog X.w X.K X.mg X.base CX0 k fa fd ps sp)(hr:bZ k X.A)(hg:Gl X x)(ha:PA X (e::es) (tA Pg cl E d (y::ys)))(hdb:(x==("__debug__":Str))=false:=by decide)
 (he:starEach (e::es) X.env=(false,eval e X.env)::starEach es X.env:=by rfl) (hpl:(backTo pos (starEach es X.env)).any (·.1)=false:=by rfl):
 PE X (.Call (.Name x p) (e::es) [] pos) (tE Pg cl E d (.pr pr (y::ys))):=PE.of (Gj D F hr hg ha hdb he hpl) fun σ H Q q=>by
 obtain⟨ρ,τ,h,n,s,rs,z⟩:=Ir z q;exact⟨ρ,τ,h,n,s,rs,z.mono fun a h ρ H _ _ ⟨ws,e,g⟩=>⟨ws,e,fun vs rv=>by show sp (vs ++ []) H Q E0;rw[List.append_nil];exact g vs rv⟩⟩
end
def noL(K:aq):Bool:=K.all fun p=>match p.2.cls with
 | .type n=> !(n == "list")
 | _=>true
theorem adW{K:aq}{H:Hp}{a:Addr}{xs:List V}(hO:∀ u,H a=some u->∃ o xs,u= .frz o (.lst xs))(hS:SqL K H a xs)(hl:noL K=true):∃ o,H a=some (.frz o (.lst xs)):=by
 rcases hS with (e | ⟨o,e⟩) | ⟨o,its,n,e,c,_⟩
 · obtain⟨o,xs,z⟩:=hO _ e;cases z
 · exact⟨o,e⟩
 · have m:(a,o) ∈ K:=by
    clear hl
    induction K with
    | nil=>cases e
    | cons p K ih=>
      obtain⟨b,ob⟩:=p;rw[List.lookup_cons]at e
      by_cases z:a==b
      · rw[z]at e;cases e;rw[eq_of_beq z];exact List.mem_cons_self ..
      · have z':(a==b)=false:=by simpa using z
        rw[z']at e;exact List.mem_cons_of_mem _ (ih e)
   have z:=List.all_eq_true.mp hl _ m;simp[c]at z
def Bc:Sp:=fun vs H Q _=>∃(a:Addr) (ns:List Int),vs= [.ref a]/\(∃ o,H a=some (.frz o (.lst (ns.map V.int))))/\ns.length<=63/\∀ H',Q (.bl true) H'
def Fi(ns:List Int):Hs:=(Hs.mk 0 .lf).push (.scr ns)
theorem adX{Pg:List Fn}{cl:Cn}{D i n:Nat}(off:cl.on=false)(run:∀ ns:List Int,ns.length<=63->wC i [.ref 0] (bz Pg D) n (Fi ns) fun w _=>w= .bl true):∀ vs H Q E,Bc vs H Q E->spF Pg cl D i vs H Q E:=by
 rintro vs H Q E ⟨a,ns,rfl,⟨o,e⟩,l,q⟩;obtain⟨w,h',z,rfl⟩:=ae0 (run ns l);refine⟨[a],[.ref 0],Fi ns,n,(Sim.none (adw off)).adopt (o:=.scr ns) (by simp) ⟨o,e⟩,.cons (.ref rfl) .nil,?_⟩;show Post cl [a] H E (dR i [.ref 0] (bz Pg D) n (Fi ns)) (VP Q);rw[z];exact fun ρ' H' _ _=>⟨_,rfl,fun v rv=>by cases rv;exact q H'⟩
theorem afc{l:PySem.W.OpenLaw}{q:Program}{loose:List Str}{XP:(Str->Option Value)->Heap->Prop}{YP:World->Heap->Prop}{d:DefRec}{K:Params->aq}{k:Nat}(hn:l.most=some 63)(hdf:d.params.defaults= [])(hr:bZ k callerA)
 (hY:∀(w:World) (h:Heap),YP w h->(K w.params).In h) (hL:∀ P:Params,noL (K P)=true)
 (F:∀(w:World) (mg:Str->Option Value) (fa:Addr) (h:Heap),(K w.params).In h->h.Ns mainGlobals mg->mg d.name=some (.ref fa)->
   ∃ fd:FuncData,(∀(s:Shared) (u:Value),BindsTo s fd ⟨[u],[]⟩ [("_law_script",u)])/\∀ base:Heap,(K w.params).In base->base.Ns mainGlobals mg->bH l.prog w (K w.params) mg base (CXE l.prog w) k fa fd ["_law_script"] Bc):
 PySem.W.WalkO q loose XP YP l.row.toRowW d [] (fun f vs=>PySem.call f vs):=
 L2.aaH (n:=63) (k:=k) (x:="_law_script") (CX:=fun w=>CXE l.prog w) (sp:=fun _=>Bc) hn (by decide) hdf hr hY F (fun w H a ns hl hO hS=>⟨a,ns,rfl,adW (fun u e=>(hO a).elim (fun z=>by rw[z]at e;cases e) fun⟨o,xs,z⟩=>⟨o,xs,Option.some.inj (e.symm.trans z)⟩) hS (hL w.params),hl,fun _=>rfl⟩) fun _ _ _ _ _ z=>El z
section
variable{K:Ks}{n:Nat}{τ:Sg}{h:Hs}{Q:W->Hs->Prop}{p:Nat}
theorem adY{ns:List Int}{k:Int}(e:h.get p=some (.scr ns))(l:ns.length<=63)(k0:0<=k)(z:Q (.int (uM ns k)) h):wP .cell [.ref p,.int k] h Q:=by
 show okQ (h.at (.ref p) fun _ o=>o.onC fun ns=>ifB (ilt (-1) k) (ifB (Nat.ble (len ns) 63) (.ok (.int (uM ns k)) h) .no) .no) Q;rw[dm e];show okQ (ifB (ilt (-1) k) (ifB (Nat.ble (len ns) 63) (.ok (.int (uM ns k)) h) .no) .no) Q;rw[cN,decide_eq_true (show -1<k by omega),ble_eq,len_eq,decide_eq_true l];exact z
theorem adZ{ls:List Int}{c:Int}(e:h.get p=some (.lst (ls.map W.int)))(l:ls.length<=63)(z0:∀ z ∈ ls,0<z/\z<1000000)(z:Drawn (jX c ls) ls->Q (.ref h.n) (h.push (.lst ((jX c ls).map W.int)))):wP .draw [.int c,.ref p] h Q:=by
 show okQ (h.at (.ref p) fun _ o=>o.onL fun xs=>Opt (jd xs) fun ls=>ifB (Nat.ble (len ls) 63) (ifB (zf ls) (.alloc h (.lst ((jX c ls).map W.int))) .no) .no) Q;rw[dm e];show okQ (Opt (jd (ls.map W.int)) fun ls=>ifB (Nat.ble (len ls) 63) (ifB (zf ls) (.alloc h (.lst ((jX c ls).map W.int))) .no) .no) Q;rw[wL];show okQ (ifB (Nat.ble (len ls) 63) (ifB (zf ls) (.alloc h (.lst ((jX c ls).map W.int))) .no) .no) Q;rw[ble_eq,len_eq,decide_eq_true l,Ff.mpr z0];exact z (abi c fun z hz=>(z0 z hz).1)
end
section
def shW(n:Nat)(w:W):W:=W.rec .non .bl .int .str (fun k=>.ref (n+k)) w
def shO(n:Nat)(o:O):O:=O.rec (fun xs=>.tup (xs.map (shW n))) (fun xs=>.lst (xs.map (shW n))) (fun C fs=>.ins C (fs.map fun p=>(p.1,shW n p.2))) (fun kvs=>.dk (kvs.map fun p=>(p.1,shW n p.2))) (fun kvs=>.dt (kvs.map fun p=>(p.1,shW n p.2))) (fun ns=>.scr ns) o
def Bd(h g:Hs):Nat->Hs
 | 0=>h
 | m+1=>(Bd h g m).push (shO h.n ((g.get m).getD (.lst [])))
def Hs.cat(h g:Hs):Hs:=Bd h g g.n
def vJ(ws:List W):Bool:=List.rec true (fun w _ r=>W.elim w r (fun _=>r) (fun _=>r) (fun _=>r) (fun _=>false)) ws
def X.iso(N f:Nat)(es:List X):X:=⟨fun K n τ h=>(goA es K n τ h).bind fun r h=>r.toL fun ws=>ifB (vJ ws) ((dR f ws K N (.mk 0 .lf)).nox.bind fun r g=>r.toW fun w=>.ok (.w (shW h.n w)) (h.cat g)) .no⟩
end
theorem Be{h g:Hs}:∀ m,(Bd h g m).n=h.n+m
 | 0=>rfl
 | m+1=>by rw[Bd,Hs.iw,Be m];omega
theorem Oa{h g:Hs}{k:Nat}(l:k<h.n):∀ m,(Bd h g m).get k=h.get k
 | 0=>rfl
 | m+1=>by rw[Bd,Hs.n6,if_neg (by rw[Be];omega),Oa l m]
theorem Ob{h g:Hs}{k:Nat}:∀ m,k<m->(Bd h g m).get (h.n+k)=some (shO h.n ((g.get k).getD (.lst [])))
 | 0,l=>absurd l (by omega)
 | m+1,l=>by
   rw[Bd,Hs.n6]
   by_cases e:k=m
   · subst e;rw[if_pos (by rw[Be])]
   · rw[if_neg (by rw[Be];omega)];exact Ob m (by omega)
theorem G4{h g:Hs}:(h.cat g).n=h.n+g.n:=Be g.n
theorem Jg{h g:Hs}:Ext h (h.cat g):=⟨by rw[G4];omega,fun k l=>Oa l g.n⟩
theorem Jh{h g:Hs}{k:Nat}{o:O}(l:k<g.n)(e:g.get k=some o):(h.cat g).get (h.n+k)=some (shO h.n o):=by
 have:=Ob (h:=h) (g:=g) g.n l;rw[e]at this;exact this
section
variable{Pg:List Fn}{cl:Cn}{E:XK}{d:Nat}{X:Cx}{σ:L2.St}{H:Hp}
theorem RW.sh{ρ ρ':List Addr}{w:W}{v:V}(r:RW ρ' w v):RW (ρ++ρ') (shW ρ.length w) v:=by
 cases r with
 | non=>exact .non
 | bl _=>exact .bl _
 | int _=>exact .int _
 | str _=>exact .str _
 | ref q=>exact .ref (by rw[List.getElem?_append_right (by omega),Nat.add_sub_cancel_left];exact q)
theorem RWs.sh{ρ ρ':List Addr}:∀ {ws:List W} {vs:List V},RWs ρ' ws vs->RWs (ρ++ρ') (ws.map (shW ρ.length)) vs
 | _,_,.nil=>.nil
 | _,_,.cons r t=>.cons r.sh (RWs.sh t)
theorem FR.sh{ρ ρ':List Addr}:∀ {fs:Fs} {gs:List (Str × V)},FR ρ' fs gs->FR (ρ++ρ') (fs.map fun p=>(p.1,shW ρ.length p.2)) gs
 | _,_,.nil=>.nil
 | _,_,.cons r t=>.cons ⟨r.1,r.2.sh⟩ (FR.sh t)
theorem OA.sh{ρ ρ':List Addr}{a:Addr}{o:O}(x:OA cl ρ' H a o):OA cl (ρ++ρ') H a (shO ρ.length o):=by
 cases o with
 | tup xs=>obtain⟨vs,r,q⟩:=x;exact⟨vs,r.sh,q⟩
 | lst xs=>obtain⟨vs,r,q⟩:=x;exact⟨vs,r.sh,q⟩
 | ins C fs=>obtain⟨dx,gs,r,q⟩:=x;exact⟨dx,gs,r.sh,q⟩
 | dk kvs=>
   obtain⟨gs,r,q⟩:=x;refine⟨gs,?_,q⟩;clear q
   induction r with
   | nil=>exact .nil
   | cons a _ ih=>exact .cons ⟨a.1,a.2.sh⟩ ih
 | dt kvs=>
   obtain⟨gs,r,q⟩:=x;refine⟨gs,?_,q⟩;clear q
   induction r with
   | nil=>exact .nil
   | cons a _ ih=>exact .cons ⟨a.1,a.2.sh⟩ ih
 | scr ns=>exact x
theorem Sim.cat{ρ ρ':List Addr}{h g:Hs}{H':Hp}(s:Sim cl ρ h H)(b:Bt cl [] H ρ' H')(s':Sim cl ρ' g H'):Sim cl (ρ++ρ') (h.cat g) H'/\Bt cl ρ H (ρ++ρ') H':=by
 have dj:∀ a ∈ ρ,a ∉ ρ':=fun a ha=>by
  obtain⟨u,hu⟩:=s.som ha;exact(b.2 a u hu (by simp)).1
 refine⟨⟨by rw[List.length_append,G4,s.len,s'.len],List.nodup_append.mpr ⟨s.nd,s'.nd,fun a ha c hc z=>dj a ha (by rw[z];exact hc)⟩,fun n a hn=>?_,s'.tb⟩,List.prefix_append _ _,fun c u q nc=>?_⟩
 · by_cases l:n<ρ.length
   · rw[List.getElem?_append_left l]at hn;obtain⟨o,e,x⟩:=s.obj n a hn;refine⟨o,Jg.get (by rw[<- s.len];exact l) e,x.keep (List.prefix_append _ _) ?_⟩;obtain⟨u,hu⟩:=x.som;have p:=x.pl;rw[hu]at p;exact((b.2 a u hu (by simp)).2.1 (Rh s.tb hu fun ps z=>by rw[z]at p;exact p)).trans hu.symm
   · rw[List.getElem?_append_right (by omega)]at hn;obtain⟨o,e,x⟩:=s'.obj _ a hn;have lt:=(a_ hn).1;refine⟨shO h.n o,?_,?_⟩
     · have:=Jh (h:=h) (by rw[<- s'.len];exact lt) e;rw[<- s.len]at this ⊢;rw[show ρ.length+(n - ρ.length)=n by omega]at this;exact this
     · rw[<- s.len];exact x.sh
 · obtain⟨a1,a2,a3⟩:=b.2 c u q (by simp);exact⟨fun z=>(List.mem_append.mp z).elim nc a1,a2,a3⟩
theorem vK{ρ:List Addr}:∀ {ws:List W} {vs:List V},vJ ws=true->RWs ρ ws vs->RWs [] ws vs
 | [],_,_,.nil=>.nil
 | w::ws,_,f,.cons r t=>by
   cases r with
   | non=>exact .cons .non (vK (ws:=ws) f t)
   | bl _=>exact .cons (.bl _) (vK (ws:=ws) f t)
   | int _=>exact .cons (.int _) (vK (ws:=ws) f t)
   | str _=>exact .cons (.str _) (vK (ws:=ws) f t)
   | ref _=>cases f
theorem ad0{N f:Nat}{as:List Ev.X}{Q:VK}(x:tE Pg cl E d (.iso N f as) σ H Q):Ck (spF Pg cl d f) [] E (tA Pg cl E d as) σ H Q:=by
 obtain⟨ρ,τ,h,n,s,rs,q⟩:=x.step;refine ev.then s rs (show Post cl ρ H E ((evs Pg n d (.a as) τ h).bind fun a h=>a.toL fun ws=>ifB (vJ ws) ((dR f ws (bz Pg d) N (.mk 0 .lf)).nox.bind fun r g=>r.toW fun w=>.ok (.w (shW h.n w)) (h.cat g)) .no) (VP Q) from q) fun a1 h1 ρ1 H1 b1 s1 p1=>?_;obtain⟨ws,rfl,p2⟩:=mG p1;obtain⟨fl,p3⟩:=gK p2;refine⟨ws,rfl,fun vs rv=>⟨[],ws,.mk 0 .lf,N,Sim.none s1.tb,by rw[List.append_nil];exact vK fl rv,?_⟩⟩;show Post cl [] H1 E (dR f ws (bz Pg d) N (.mk 0 .lf)) (VP Q);generalize dR f ws (bz Pg d) N (.mk 0 .lf)=r at p3
 cases r with
 | ok a g=>
   obtain⟨w,rfl,p4⟩:=bK (show Post cl ρ1 H1 E (a.toW fun w=>.ok (.w (shW h1.n w)) (h1.cat g)) (VP Q) from p3);intro ρ2 H2 b2 s2;obtain⟨s3,b3⟩:=s1.cat b2 s2;obtain⟨w',e',z⟩:=p4 _ _ b3 s3;cases e';refine⟨w,rfl,fun v r2=>z v ?_⟩;have:=r2.sh (ρ:=ρ1);rw[s1.len]at this
   exact this
 | ex C fs g=>exact p3.elim
 | no=>exact p3.elim
theorem WW{N k k' f:Nat}{fa:Addr}{fd:FuncData}{ps:List Str}{x:Str}{st:Stmt}{e:Expr}{es:List Expr}{y:Ev.X}{ys:List Ev.X}{p pos:Pos}(F:bH X.prog X.w X.K X.mg X.base (CXE X.prog X.w) k fa fd ps (spF Pg cl d f))(D:Df X.K X.mg x st ps fa fd)(hr:bZ k' X.A)
 (hx:Passes (CXE X.prog X.w) X E) (ha:PA X (e::es) (tA Pg cl E d (y::ys))) (hk:k<=k':=by omega) (hg:Gl X x:=by rfl) (hdb:(x==("__debug__":Str))=false:=by decide) (he:starEach (e::es) X.env=(false,eval e X.env)::starEach es X.env:=by rfl) (hpl:(backTo pos (starEach es X.env)).any (·.1)=false:=by rfl):
 PE X (.Call (.Name x p) (e::es) [] pos) (tE Pg cl E d (.iso N f (y::ys))):=PE.of (xY F (hr.mono hk) hg D.mg D.fn.kp D.bd .nil hx ha hdb he hpl) fun _ _ _ q=>ad0 q
end
section
variable{K:Ks}{n:Nat}{τ:Sg}{h:Hs}{Q:W->Hs->Prop}
theorem afd{N f:Nat}{es:List X}{ws:List W}{w:W}{g:Hs}(fl:vJ ws=true)(run:dR f ws K N (.mk 0 .lf)= .ok (.w w) g)(x:wA es K n τ h fun us h1=>us=ws/\Q (shW h1.n w) (h1.cat g)):wX (.iso N f es) K n τ h Q:=by
 obtain⟨us,h1,e,rfl,q⟩:=T_ x;show okQ ((goA es K n τ h).bind fun r h=>r.toL fun ws=>ifB (vJ ws) ((dR f ws K N (.mk 0 .lf)).nox.bind fun r g=>r.toW fun w=>.ok (.w (shW h.n w)) (h.cat g)) .no) (aW Q);rw[e];show okQ (ifB (vJ us) ((dR f us K N (.mk 0 .lf)).nox.bind fun r g=>r.toW fun w=>.ok (.w (shW h1.n w)) (h1.cat g)) .no) (aW Q);rw[fl,run];exact q
end
section
def uq(f:W->Option D)(xs:List W):Option (List D):=List.rec (some []) (fun x _ r=>Option.rec none (fun d=>Option.rec none (fun ds=>some (d::ds)) r) (f x)) xs
def rdD(g:Hs)(n:Nat):W->Option D:=Nat.rec (fun _=>none) (fun _ ih w=>W.elim w (some .non) (fun b=>some (.bl b)) (fun i=>some (.int i)) (fun c=>some (.str c)) fun k=>
 ifB (Nat.ble (k+1) g.n) (Option.rec none (fun o=>O.rec (fun xs=>Option.rec none (fun ds=>some (.tup ds)) (uq ih xs)) (fun xs=>Option.rec none (fun ds=>some (.lst ds)) (uq ih xs)) (fun _ _=>none) (fun _=>none) (fun _=>none) (fun _=>none) o) (g.get k)) none) n
end
theorem Ji{h g:Hs}{f:W->Option D}(hf:∀ w d,f w=some d->Rd (h.cat g) (fun p=>h.n<=p) d (shW h.n w)):∀(xs:List W) (ds:List D),uq f xs=some ds->Rds (h.cat g) (fun p=>h.n<=p) ds (xs.map (shW h.n))
 | [],ds,e=>by cases e;simp[Rds]
 | x::xs,ds,e=>by
   have e:Option.rec (motive:=fun _=>Option (List D)) none (fun d=>Option.rec (motive:=fun _=>Option (List D)) none (fun ds=>some (d::ds)) (uq f xs)) (f x)=some ds:=e
   cases e1:f x with
   | none=>rw[e1]at e;cases e
   | some d=>
     rw[e1]at e;have e:Option.rec (motive:=fun _=>Option (List D)) none (fun ds=>some (d::ds)) (uq f xs)=some ds:=e
     cases e2:uq f xs with
     | none=>rw[e2]at e;cases e
     | some ds'=>
       rw[e2]at e;cases e;simp only[List.map_cons,Rds];exact⟨_,_,rfl,hf x d e1,Ji hf xs ds' e2⟩
theorem G5{h g:Hs}:∀(n:Nat) (w:W) (d:D),rdD g n w=some d->Rd (h.cat g) (fun p=>h.n<=p) d (shW h.n w)
 | 0,w,d,e=>by cases e
 | n+1,w,d,e=>by
   cases w with
   | non=>cases e;simp[Rd,shW]
   | bl b=>cases e;simp[Rd,shW]
   | int i=>cases e;simp[Rd,shW]
   | str c=>cases e;simp[Rd,shW]
   | ref k=>
     have e:ifB (Nat.ble (k+1) g.n) (Option.rec (motive:=fun _=>Option D) none (fun o=>O.rec (motive:=fun _=>Option D) (fun xs=>Option.rec (motive:=fun _=>Option D) none (fun ds=>some (.tup ds)) (uq (rdD g n) xs)) (fun xs=>Option.rec (motive:=fun _=>Option D) none (fun ds=>some (.lst ds)) (uq (rdD g n) xs)) (fun _ _=>none) (fun _=>none) (fun _=>none) (fun _=>none) o) (g.get k)) none=some d:=e;rw[ble_eq]at e
     by_cases l:k+1<=g.n
     · rw[decide_eq_true l]at e
       cases eo:g.get k with
       | none=>rw[eo]at e;cases e
       | some o=>
         rw[eo]at e;have gc:=Jh (h:=h) l eo
         cases o with
         | tup xs=>
           have e:Option.rec (motive:=fun _=>Option D) none (fun ds=>some (.tup ds)) (uq (rdD g n) xs)=some d:=e
           cases e2:uq (rdD g n) xs with
           | none=>rw[e2]at e;cases e
           | some ds=>
             rw[e2]at e;cases e;simp only[Rd]
             exact⟨h.n+k,_,rfl,by rw[G4];omega,by omega,gc,Ji (G5 n) xs ds e2⟩
         | lst xs=>
           have e:Option.rec (motive:=fun _=>Option D) none (fun ds=>some (.lst ds)) (uq (rdD g n) xs)=some d:=e
           cases e2:uq (rdD g n) xs with
           | none=>rw[e2]at e;cases e
           | some ds=>
             rw[e2]at e;cases e;simp only[Rd]
             exact⟨h.n+k,_,rfl,by rw[G4];omega,by omega,gc,Ji (G5 n) xs ds e2⟩
         | _=>cases e
     · rw[decide_eq_false l]at e;cases e
def Ue(r:R A):Option D:=match r with
 | .ok (.w w) g=>rdD g 12 w
 | _=>none
theorem WX{K:Ks}{n:Nat}{τ:Sg}{h:Hs}{Q:W->Hs->Prop}{N f:Nat}{es:List X}{ws:List W}{d:D}(fl:vJ ws=true)(run:Ue (dR f ws K N (.mk 0 .lf))=some d)(x:wA es K n τ h fun us h1=>us=ws/\∀ w h2,Ext h1 h2->Rd h2 (fun p=>h1.n<=p) d w->Q w h2):wX (.iso N f es) K n τ h Q:=by
 unfold Ue at run
 split at run
 · rename_i w g e;refine afd fl e (sE x fun a h1 z=>?_)
   cases a with
   | ws us=>exact⟨z.1,z.2 _ _ Jg (G5 12 w d run)⟩
   | _=>exact z.elim
 · cases run
section
def afe(o:Option W):Option W:=Option.rec none (fun w=>W.elim w (some w) (fun _=>some w) (fun _=>some w) (fun _=>some w) (fun _=>none)) o
def ad1(k:Nat)(idx:List Nat):Bool:=List.rec false (fun i _ r=>ifB (Nat.beq i k) true r) idx
def wM(idx:List Nat)(τ:Sg):Nat->Sg:=List.rec (fun _=>[]) (fun o _ ih k=>ifB (ad1 k idx) (afe o) none::ih (Nat.succ k)) τ
def X.Ug(N:Nat)(idx:List Nat)(e:X):X:=⟨fun K n τ h=>(e.f K N (wM idx τ 0) (.mk 0 .lf)).nox.bind fun r g=>r.toW fun w=>.ok (.w (shW h.n w)) (h.cat g)⟩
end
section
variable{Pg:List Fn}{cl:Cn}{E:XK}{d:Nat}{X:Cx}{σ:L2.St}{H:Hp}
theorem Rv{ρ:List Addr}{idx:List Nat}:∀ {τ:Sg} {σ:L2.St} (k:Nat),RS ρ τ σ->RS [] (wM idx τ k) σ
 | [],_,k,.nil=>.nil
 | o::τ,v::σ,k,.cons r t=>by
   refine .cons ?_ (Rv (k+1) t)
   cases ad1 k idx with
   | false=>cases v <;> trivial
   | true=>
     cases o with
     | none=>cases v <;> trivial
     | some w=>cases v with
       | none=>exact(r:False).elim
       | some v=>
         have r:RW ρ w v:=r
         cases r with
         | non=>exact .non
         | bl _=>exact .bl _
         | int _=>exact .int _
         | str _=>exact .str _
         | ref _=>trivial
theorem abj{N:Nat}{idx:List Nat}{a:Ev.X}{Q:VK}(x:tE Pg cl E d (.Ug N idx a) σ H Q):tE Pg cl E d a σ H Q:=by
 obtain⟨ρ,τ,h,n,s,rs,q⟩:=x.step;refine⟨[],wM idx τ 0,.mk 0 .lf,N,Sim.none s.tb,Rv 0 rs,?_⟩;have q:Post cl ρ H E ((a.f (bz Pg d) N (wM idx τ 0) (.mk 0 .lf)).nox.bind fun r g=>r.toW fun w=>.ok (.w (shW h.n w)) (h.cat g)) (VP Q):=q;show Post cl [] H E (a.f (bz Pg d) N (wM idx τ 0) (.mk 0 .lf)) (VP Q);generalize a.f (bz Pg d) N (wM idx τ 0) (.mk 0 .lf)=r at q
 cases r with
 | ok a g=>
   obtain⟨w,rfl,p4⟩:=bK (show Post cl ρ H E (a.toW fun w=>.ok (.w (shW h.n w)) (h.cat g)) (VP Q) from q);intro ρ2 H2 b2 s2;obtain⟨s3,b3⟩:=s.cat b2 s2;obtain⟨w',e',z⟩:=p4 _ _ b3 s3;cases e';refine⟨w,rfl,fun v r2=>z v ?_⟩;have:=r2.sh (ρ:=ρ);rw[s.len]at this
   exact this
 | ex C fs g=>exact q.elim
 | no=>exact q.elim
theorem abk{N:Nat}{idx:List Nat}{e:Expr}{y:Ev.X}(h:PE X e (tE Pg cl E d y)):PE X e (tE Pg cl E d (.Ug N idx y)):=PE.of h fun _ _ _ q=>abj q
end
section
variable{K:Ks}{n:Nat}{τ:Sg}{h:Hs}{Q:W->Hs->Prop}
theorem ad3{N:Nat}{idx:List Nat}{e:X}{w:W}{g:Hs}(run:e.f K N (wM idx τ 0) (.mk 0 .lf)= .ok (.w w) g)(q:Q (shW h.n w) (h.cat g)):wX (.Ug N idx e) K n τ h Q:=by
 show okQ ((e.f K N (wM idx τ 0) (.mk 0 .lf)).nox.bind fun r g=>r.toW fun w=>.ok (.w (shW h.n w)) (h.cat g)) (aW Q);rw[run];exact q
end
end Ev
namespace Ev
theorem keq_eq:∀ {a b:W},keq a b=true->a=b:=by
 intro a b h
 cases a with
 | int i=>cases b with
   | int j=>
     have h:ieq i j=true:=h;rw[eX]at h
     simp at h;rw[h]
   | _=>cases h
 | str x=>cases b with
   | str y=>
     have h:codes x y=true:=h
     rw[cT.mp h]
   | _=>cases h
 | _=>cases h
theorem Zc{a:W}(h:iT a=true):keq a a=true:=by
 cases a with
 | int i=>show ieq i i=true;rw[eX];simp
 | str x=>show codes x x=true;exact cT.mpr rfl
 | _=>cases h
theorem ji(p:W × W)(kvs:List (W × W))(k:W):bD (p::kvs) k=ifB (keq p.1 k) (some p.2) (bD kvs k):=rfl
theorem ad4(kvs:List (W × W))(k v k':W):bD (kvs ++ [(k,v)]) k'=(bD kvs k').or (ifB (keq k k') (some v) none):=by
 induction kvs with
 | nil=>show ifB (keq k k') (some v) none=_;rfl
 | cons p kvs ih=>
   rw[List.cons_append,ji,ji,ih];cases keq p.1 k' <;> rfl
theorem Ea(k v:W):∀ kvs:List (W × W),isS (bD kvs k)=true->bD (kj kvs k v) k=some v
 | [],h=>by cases h
 | p::kvs,h=>by
   rw[ji]at h;show bD (ifB (keq p.1 k) (p.1,v) p::kj kvs k v) k=_
   cases e:keq p.1 k with
   | true=>show bD ((p.1,v)::kj kvs k v) k=_;rw[ji,e];rfl
   | false=>
     rw[e]at h;show bD (p::kj kvs k v) k=_;rw[ji,e];exact Ea k v kvs h
theorem Kc{k v k':W}(ne:k ≠ k'):∀ kvs:List (W × W),bD (kj kvs k v) k'=bD kvs k'
 | []=>rfl
 | p::kvs=>by
   show bD (ifB (keq p.1 k) (p.1,v) p::kj kvs k v) k'=_;have ih:=Kc (v:=v) ne kvs
   cases e:keq p.1 k with
   | true=>
     show bD ((p.1,v)::kj kvs k v) k'=_;have e1:=keq_eq e
     have e2:keq p.1 k'=false:=by
      cases z:keq p.1 k' with
      | false=>rfl
      | true=>exact absurd (e1.symm.trans (keq_eq z)) ne
     rw[ji,ji,e2,ih];rfl
   | false=>show bD (p::kj kvs k v) k'=_;rw[ji,ji,ih]
theorem Oc{kvs:List (W × W)}{k v k':W}(hk:iT k=true):bD (dM kvs k v) k'=if k=k' then some v else bD kvs k':=by
 unfold dM
 cases e:isS (bD kvs k) with
 | true=>
   show bD (kj kvs k v) k'=_
   by_cases z:k=k'
   · subst z;rw[if_pos rfl];exact Ea k v kvs e
   · rw[if_neg z];exact Kc z kvs
 | false=>
   show bD (app kvs [(k,v)]) k'=_;rw[iW,ad4]
   by_cases z:k=k'
   · subst z;rw[if_pos rfl,Zc hk]
     cases q:bD kvs k with
     | none=>rfl
     | some w=>rw[q]at e;cases e
   · rw[if_neg z]
     have e2:keq k k'=false:=by
      cases q:keq k k' with
      | false=>rfl
      | true=>exact absurd (keq_eq q) z
     rw[e2];cases bD kvs k' <;> rfl
theorem Kd(k v:W):∀ kvs:List (W × W),(kj kvs k v).length=kvs.length
 | []=>rfl
 | p::kvs=>by show(_::kj kvs k v).length=_;rw[List.length_cons,Kd k v kvs,List.length_cons]
theorem Bf(kvs:List (W × W))(k v:W):(dM kvs k v).length<=kvs.length+1:=by
 unfold dM
 cases isS (bD kvs k) with
 | true=>show(kj kvs k v).length<=_;rw[Kd];omega
 | false=>show(app kvs [(k,v)]).length<=_;rw[iW];simp
section
variable{K:Ks}{n:Nat}{τ:Sg}{h:Hs}{Q:W->Hs->Prop}
theorem zg{a b:List Nat}(oa:okC a=true)(ob:okC b=true)(z:Q (.bl (codes a b)) h):wP .eq [.str a,.str b] h Q:=by
 refine aag (d:=.str a) (d':=.str b) (A:=fun _=>True) (B:=fun _=>True) N5 N5 (by simp[kZ]) (by simp[kZ]) (by simp only[okD];exact oa) (by simp only[okD];exact ob) ?_;rw[show eV (.str a) (.str b)=codes a b by simp only[eV]];exact z
theorem p_{C:Nat}{o:X}{f:List Nat}(x:wX o K n τ h fun w h1=>∃ p fs v,w= .ref p/\h1.get p=some (.ins C fs)/\fget fs f=some v/\Q v h1):wX (.fld C o f) K n τ h Q:=by
 obtain⟨w,h1,e1,p,fs,v,rfl,g,ef,q⟩:=jh x;show okQ ((o.f K n τ h).bind fun r h=>r.toW fun w=>h.at w fun _ o=>o.onI fun C' fs=>ifB (Nat.beq C C') (Opt (fget fs f) fun w=>.ok (.w w) h) .no) (aW Q);rw[e1];show okQ (h1.at (.ref p) fun _ o=>o.onI fun C' fs=>ifB (Nat.beq C C') (Opt (fget fs f) fun w=>.ok (.w w) h1) .no) (aW Q);rw[dm g];show okQ (ifB (Nat.beq C C) (Opt (fget fs f) fun w=>.ok (.w w) h1) .no) (aW Q);rw[jB.mpr rfl,ef];exact q
theorem jr{C:Nat}{m:List Nat}{f:Nat}{o:X}{as:List X}(x:wX o K n τ h fun w h1=>∃ p fs,w= .ref p/\h1.get p=some (.ins C fs)/\fget fs m=none/\wA as K n τ h1 fun ws h2=>wC f (.ref p::ws) K n h2 Q):wX (.meth C m f o as) K n τ h Q:=by
 obtain⟨w,h1,e1,p,fs,rfl,g,ef,x⟩:=jh x;obtain⟨ws,h2,e2,q⟩:=T_ x;show okQ ((o.f K n τ h).bind fun r h=>r.toW fun w=>h.at w fun _ o=>o.onI fun C' fs=>ifB (Nat.beq C C') (Option.rec ((goA as K n τ h).bind fun a h=>a.toL fun ws=>dR f (w::ws) K n h) (fun _=>.no) (fget fs m)) .no) (aW Q);rw[e1];show okQ (h1.at (.ref p) fun _ o=>o.onI fun C' fs=>ifB (Nat.beq C C') (Option.rec ((goA as K n τ h1).bind fun a h=>a.toL fun ws=>dR f (.ref p::ws) K n h) (fun _=>.no) (fget fs m)) .no) (aW Q);rw[dm g];show okQ (ifB (Nat.beq C C) (Option.rec ((goA as K n τ h1).bind fun a h=>a.toL fun ws=>dR f (.ref p::ws) K n h) (fun _=>.no) (fget fs m)) .no) (aW Q);rw[jB.mpr rfl,ef,e2];exact q
theorem WY(z:Q (.ref h.n) (h.push (.dk []))):wP .Tf [] h Q:=z
theorem W0{p:Nat}{kvs:List (W × W)}{k v:W}(e:h.get p=some (.dk kvs))(hk:iT k=true)(e2:bD kvs k=some v)(z:Q v h):wP .M5 [.ref p,k] h Q:=by
 show okQ (h.at (.ref p) fun _ o=>o.onD fun kvs=>ifB (iT k) (Opt (bD kvs k) fun w=>.ok w h) .no) Q;rw[dm e];show okQ (ifB (iT k) (Opt (bD kvs k) fun w=>.ok w h) .no) Q;rw[hk,e2];exact z
theorem afg{p:Nat}{kvs:List (W × W)}{k:W}(e:h.get p=some (.dk kvs))(hk:iT k=true)(z:Q (.bl (isS (bD kvs k))) h):wP .din [k,.ref p] h Q:=by
 show okQ (h.at (.ref p) fun _ o=>o.onD fun kvs=>ifB (iT k) (.yes (id (isS (bD kvs k))) h) .no) Q;rw[dm e];show okQ (ifB (iT k) (.yes (id (isS (bD kvs k))) h) .no) Q;rw[hk];exact z
theorem Jj{o k v:X}{Q:Fl->Hs->Prop}(x:wX v K n τ h fun w h1=>wX o K n τ h1 fun a h2=>wX k K n τ h2 fun b h3=>∃ p kvs,a= .ref p/\h3.get p=some (.dk kvs)/\iT b=true/\kvs.length<=1000000/\Q (.nx τ) (h3.set p (.dk (dM kvs b w)))):w1 (.dput o k v) K n τ h Q:=by
 obtain⟨w,h1,e1,x⟩:=jh x;obtain⟨a,h2,e2,x⟩:=jh x;obtain⟨b,h3,e3,p,kvs,rfl,g,kb,l,q⟩:=jh x;show okQ ((v.f K n τ h).bind fun r h=>r.toW fun w=>(o.f K n τ h).bind fun r h=>r.toW fun a=>(k.f K n τ h).bind fun r h=>r.toW fun b=>h.at a fun n o=>o.onD fun kvs=>ifB (iT b) (ifB (Nat.ble (len kvs) 1000000) (.ok (.fl (.nx τ)) (h.set n (.dk (dM kvs b w)))) .no) .no) (aF Q);rw[e1];show okQ ((o.f K n τ h1).bind fun r h=>r.toW fun a=>(k.f K n τ h).bind fun r h=>r.toW fun b=>h.at a fun n o=>o.onD fun kvs=>ifB (iT b) (ifB (Nat.ble (len kvs) 1000000) (.ok (.fl (.nx τ)) (h.set n (.dk (dM kvs b w)))) .no) .no) (aF Q);rw[e2];show okQ ((k.f K n τ h2).bind fun r h=>r.toW fun b=>h.at (.ref p) fun n o=>o.onD fun kvs=>ifB (iT b) (ifB (Nat.ble (len kvs) 1000000) (.ok (.fl (.nx τ)) (h.set n (.dk (dM kvs b w)))) .no) .no) (aF Q);rw[e3];show okQ (h3.at (.ref p) fun n o=>o.onD fun kvs=>ifB (iT b) (ifB (Nat.ble (len kvs) 1000000) (.ok (.fl (.nx τ)) (h3.set n (.dk (dM kvs b w)))) .no) .no) (aF Q);rw[dm g];show okQ (ifB (iT b) (ifB (Nat.ble (len kvs) 1000000) (.ok (.fl (.nx τ)) (h3.set p (.dk (dM kvs b w)))) .no) .no) (aF Q);rw[kb,ble_eq,len_eq,decide_eq_true l];exact q
end
end Ev
namespace Ev
open PySem PySem.Spec PySem.SeqAt PyProof.Rows L2
section
def S.Od(i:Nat)(e:X):S:=⟨fun K n τ h=>Opt (cD τ i) fun a=>(e.f K n τ h).bind fun r h=>r.toW fun b=>a.onI fun x=>b.onI fun y=>.ok (.fl (.nx (setAt τ (some (.int (rY x y))) i))) h⟩
def ad5(h:Hs)(a b:W):R W:=h.at a fun _ o=>O.rec (fun _=>.no) (fun _=>pIx h a b) (fun _ _=>.no) (fun _=>LK h a b) (fun _=>.no) (fun _=>.no) o
def Pr.ixd:Pr:=⟨fun ws h=>fZ ws (ad5 h)⟩
def aao(h:Hs)(i j:Int):R W:=ifB (ilt i 1000000) (ifB (ilt (-1000000) i) (ifB (ilt (-1) j) (ifB (ilt j 1000) (.ok (.int (i ^ j.toNat)) h) .no) .no) .no) .no
def Pr.Zd:Pr:=⟨fun ws h=>yO ws (aao h)⟩
end
section
variable{Pg:List Fn}{cl:Cn}{E:XK}{d:Nat}{X:Cx}{σ σ0:L2.St}{H:Hp}
theorem abl{i:Nat}{e:Ev.X}{D:Ends}(x:tS Pg cl E d σ0 (.Od i e) D σ H):ab0 i (tE Pg cl E d e) (ipI fun i j=>i+j) D σ H:=by
 obtain⟨ρ,τ,h,n,s,rs,ag,q⟩:=x.step;obtain⟨a,ea,q⟩:=jU (show Post cl ρ H E (Opt (cD τ i) fun a=>(evs Pg n d (.x e) τ h).bind fun r h=>r.toW fun b=>a.onI fun x=>b.onI fun y=>.ok (.fl (.nx (setAt τ (some (.int (rY x y))) i))) h) (SPo σ0 D) from q);obtain⟨av,ev',rav⟩:=rs.get ea;refine⟨av,ev',?_⟩;refine ev.then s rs q fun a1 h1 ρ1 H1 b1 s1 p1=>?_;obtain⟨b,rfl,p2⟩:=bK p1;refine⟨b,rfl,fun bv rbv=>?_⟩;obtain⟨x,rfl,p3⟩:=qU p2;obtain⟨y,rfl,p4⟩:=qU p3;cases rav;cases rbv;refine⟨x,y,rfl,rfl,?_⟩;obtain⟨f,ef,qf⟩:=p4.now s1;cases ef;have rs1:=rs.mono b1.1;have r:RW ρ1 (.int (rY x y)) (.int (x+y)):=by rw[yj];exact .int _
 exact qf _ (rs1.set r i) (adv rs1 ag)
theorem Rw{i:Nat}{x:Str}{e:Expr}{y:Ev.X}{pos pos':Pos}(hN:X.N.Nodup)(hi:X.N[i]? =some x)(hx:Loc X.env.scope x)(he:PE X e (tE Pg cl E d y))(hf:X.fn x=true\/X.env.scope.names.lookup x=some .local:=by first | exact .inl rfl | exact .inr rfl | assumption):
 PS X (.AugAssign (.Name x pos') .Add e pos) (tS Pg cl E d σ0 (.Od i y)):=PS.of (ab1 hN hi hx he ab2 hf) fun _ _ _ q=>abl q
theorem afh{r r':R2}(a:IxR X r)(b:IxR X r'):IxR X (fun x y H Q=>r x y H Q\/r' x y H Q):=fun ea eb pins s σ H x y v u Q I rx ry q hs=>q.elim (fun z=>a ea eb pins s σ H x y v u Q I rx ry z hs) fun z=>b ea eb pins s σ H x y v u Q I rx ry z hs
theorem afi{K:aq}:Op2 cl .ixd (fun x y H Q=>rIx K x y H Q\/rDG x y H Q):=fun E ρ h H w1 w2 v1 v2 Q s r1 r2 p=>by
 obtain⟨n,o,a,rfl,rfl,e1,g1,x1,q⟩:=oAt s r1 (show Post cl ρ H E (ofW (ad5 h w1 w2)) (VP Q) from p)
 cases o with
 | lst xs=>exact .inl (ac9 (K:=K) E ρ h H (.ref n) w2 (.ref a) v2 Q s r1 r2 q)
 | dk kvs=>exact .inr (Ww E ρ h H (.ref n) w2 (.ref a) v2 Q s r1 r2 q)
 | _=>exact q.elim
theorem W2{a b:Expr}{x y:Ev.X}{pos:Pos}(hu:X.A.units+1<cLine)(ha:PE X a (tE Pg cl E d x))(hb:PE X b (tE Pg cl E d y))(hs:xZ b:=by exact fun _ _=>rfl):PE X (.Subscript a b pos) (tE Pg cl E d (.pr .ixd [x,y])):=
 PE.of (yI (afh Vs (Iz hu)) ha hb hs) fun _ _ _ q=>t6 afi q
theorem ad6:Op2 cl .Zd (rI XS fun i j=>.int (i ^ j.toNat)):=fun E ρ h H w1 w2 v1 v2 Q s r1 r2 p=>by
 obtain⟨i,rfl,p⟩:=oI (show Post cl ρ H E (ofW (w1.onI fun i=>w2.onI fun j=>aao h i j)) (VP Q) from p);obtain⟨j,rfl,p⟩:=oI p;obtain⟨c,p⟩:=oIf p;obtain⟨c2,p⟩:=oIf p;obtain⟨c3,p⟩:=oIf p;obtain⟨c4,p⟩:=oIf p;rw[cN]at c c2 c3 c4;have c:=of_decide_eq_true c;have c2:=of_decide_eq_true c2;have c3:=of_decide_eq_true c3;have c4:=of_decide_eq_true c4;cases r1;cases r2;exact⟨i,j,rfl,rfl,⟨by omega,by omega,by omega⟩,Post.gF s p (.int _)⟩
end
section
variable{K:Ks}{n:Nat}{τ:Sg}{h:Hs}{Q:W->Hs->Prop}
theorem Rx{i:Nat}{e:X}{a:Int}{Q:Fl->Hs->Prop}(t:cD τ i=some (.int a))(x:wX e K n τ h fun w h1=>∃ b,w= .int b/\Q (.nx (setAt τ (some (.int (a+b))) i)) h1):w1 (.Od i e) K n τ h Q:=by
 obtain⟨w,h1,e1,b,rfl,q⟩:=jh x;show okQ (Opt (cD τ i) fun a=>(e.f K n τ h).bind fun r h=>r.toW fun b=>a.onI fun x=>b.onI fun y=>.ok (.fl (.nx (setAt τ (some (.int (rY x y))) i))) h) (aF Q);rw[t];show okQ ((e.f K n τ h).bind fun r h=>r.toW fun b=>b.onI fun y=>.ok (.fl (.nx (setAt τ (some (.int (rY a y))) i))) h) (aF Q);rw[e1];show Q (.nx (setAt τ (some (.int (rY a b))) i)) h1;rw[yj];exact q
theorem W3{p:Nat}{xs:List W}{i:Int}{w:W}(e:h.get p=some (.lst xs))(l:0<=i)(e2:xs[i.toNat]? =some w)(z:Q w h):wP .ixd [.ref p,.int i] h Q:=by
 show okQ (h.at (.ref p) fun _ o=>O.rec (fun _=>.no) (fun _=>pIx h (.ref p) (.int i)) (fun _ _=>.no) (fun _=>LK h (.ref p) (.int i)) (fun _=>.no) (fun _=>.no) o) Q;rw[dm e];exact aai e l e2 z
theorem ad7{a b:Int}(ha: -1000000<a/\a<1000000)(hb:0<=b/\b<1000)(z:Q (.int (a ^ b.toNat)) h):wP .Zd [.int a,.int b] h Q:=by
 show okQ (ifB (ilt a 1000000) (ifB (ilt (-1000000) a) (ifB (ilt (-1) b) (ifB (ilt b 1000) (.ok (.int (a ^ b.toNat)) h) .no) .no) .no) .no) Q;rw[cN,cN,cN,cN,decide_eq_true ha.1,decide_eq_true ha.2,decide_eq_true (show -1<b by omega),decide_eq_true hb.2];exact z
end
end Ev
namespace My
open PySem L2 PyProof.Rows
def top(i:Nat):Stmt:=PySem.Challenge.pw_byestand_k23_unevenness_told.main.body.getD i (.Pass ⟨0,0,0,0⟩)
section
open Ev
abbrev zj:Stmt:=top 11
theorem pO:aD ["plan","at","found","table","first","second"] ["plan","at"] (au zj):=fsc
abbrev Bg:Stmt:=top 12
theorem l_:aD ["plan","at","pair","table","side","first","second","number","other"] ["plan","at","pair"] (au Bg):=fsc
abbrev CV:Stmt:=top 13
theorem Ze:aD ["plan","pair"] ["plan","pair"] (au CV):=fsc
abbrev ur:Stmt:=top 15
theorem yq:aD ["plan","turned","at"] ["plan","turned"] (au ur):=fsc
abbrev Jk:Stmt:=top 16
theorem fG:aD ["guides","one","other","had","at","table","side","across","number","found","other_at","other_side"] ["guides","one","other"] (au Jk):=fsc
abbrev CW:Stmt:=top 17
theorem Zf:aD ["linked","turned"] ["linked","turned"] (au CW):=fsc
abbrev Oe:Stmt:=top 18
theorem abm:aD ["linked","turned"] ["linked","turned"] (au Oe):=fsc
abbrev pP:Stmt:=top 19
theorem Bh:aD ["plan","guides"] ["plan"] (au pP):=fsc
abbrev zm:Stmt:=top 20
theorem W4:aD ["all_linked","turned"] ["all_linked","turned"] (au zm):=fsc
abbrev vL:Stmt:=top 21
theorem Ko:aD ["plan","turned"] ["plan","turned"] (au vL):=fsc
abbrev xj:Stmt:=top 25
theorem Og:aD ["m"] ["m"] (au xj):=fsc
abbrev vM:Stmt:=top 26
theorem Kq:aD ["numbers"] ["numbers"] (au vM):=fsc
abbrev vN:Stmt:=top 27
theorem Ke:aD ["m","pairs","ways"] ["m","pairs"] (au vN):=fsc
abbrev uN:Stmt:=top 28
theorem pQ:aD ["numbers","found","partner","others","rest"] ["numbers"] (au uN):=fsc
abbrev uO:Stmt:=top 29
theorem Qg:aD ["m"] ["m"] (au uO):=fsc
abbrev G6:Stmt:=top 30
theorem Ry:aD ["m","pairs","adds","places"] ["m","pairs","adds"] (au G6):=fsc
abbrev vO:Stmt:=top 31
theorem qd:aD ["m","pairs","adds","b","longer","found"] ["m","pairs","adds"] (au vO):=fsc
abbrev uv:Stmt:=top 32
theorem Jl:aD ["m","pairs"] ["m","pairs"] (au uv):=fsc
abbrev Bj:Stmt:=top 33
theorem zp:aD ["m","pairs","adds"] ["m"] (au Bj):=fsc
abbrev uP:Stmt:=top 36
theorem xm:aD ["kind","tables","pairs","adds"] ["kind","tables"] (au uP):=fsc
abbrev vP:Stmt:=top 39
theorem zL:aD ["_law_seed","_law_k","_law_square"] ["_law_seed","_law_k"] (au vP):=fsc
abbrev xq:Stmt:=top 40
theorem jt:aD ["_law_cell_here","_law_limits","_law_rest","_law_seed","_law_found","_law_limit"] ["_law_cell_here","_law_limits"] (au xq):=fsc
abbrev xr:Stmt:=top 41
theorem Oh:aD ["_law_script","_law_k"] ["_law_script","_law_k"] (au xr):=fsc
abbrev zq:Stmt:=top 42
theorem Qh:aD ["_law_found"] ["_law_found"] (au zq):=fsc
abbrev tu:Stmt:=top 43
theorem Oi:aD ["_law_found","_law_due"] ["_law_found","_law_due"] (au tu):=fsc
abbrev xu:Stmt:=top 44
theorem Oj:aD ["_law_m","_law_x","_law_y"] ["_law_m","_law_x","_law_y"] (au xu):=fsc
abbrev gh:Stmt:=top 45
theorem cz:aD ["_law_m","_law_rows_here","_law_turn","_law_fresh","_law_row","_law_used","_law_left","_law_other","_law_steps"] ["_law_m"] (au gh):=fsc
abbrev q_:Stmt:=top 46
theorem jK:aD ["_law_m","_law_pairs","_law_rows_here","_law_row","_law_found","_law_k"] ["_law_m","_law_pairs"] (au q_):=fsc
abbrev sH:Stmt:=top 47
theorem rm:aD ["_law_m","_law_pairs","_law_adds"] ["_law_m"] (au sH):=fsc
abbrev bT:Stmt:=top 48
theorem pF:aD ["_law_number","_law_some"] ["_law_number"] (au bT):=fsc
abbrev qx:Stmt:=top 49
theorem cW:aD ["_law_t","_law_m","_law_pairs","_law_adds","_law_rows_here","_law_at","_law_row","_law_k"] ["_law_t"] (au qx):=fsc
abbrev xx:Stmt:=top 50
theorem ju:aD ["_law_kind","_law_t","_law_rows_here","_law_at","_law_back","_law_row","_law_table","_law_more"] ["_law_kind","_law_t"] (au xx):=fsc
abbrev qy:Stmt:=top 51
theorem kE:aD ["_law_number","_law_many","_law_found","_law_at"] ["_law_number","_law_many"] (au qy):=fsc
abbrev vQ:Stmt:=top 52
theorem bO:aD ["_law_rows_here","_law_pairs","_law_had","_law_at","_law_table","_law_first","_law_second","_law_own","_law_found","_law_other","_law_one","_law_some","_law_mine","_law_theirs"] ["_law_rows_here","_law_pairs"] (au vQ):=fsc
abbrev uw:Stmt:=top 53
theorem dN:aD ["_law_marks","_law_turned","_law_found","_law_some","_law_more","_law_at","_law_to","_law_sign"] ["_law_marks","_law_turned"] (au uw):=fsc
abbrev tD:Stmt:=top 54
theorem oh:aD ["_law_script","_law_k","_law_row","_law_kind","_law_t","_law_plan","_law_rows_here","_law_turned","_law_rest","_law_due","_law_handed"] ["_law_script"] (au tD):=fsc
abbrev qz:Stmt:=inClass (top 37) 0
theorem Dq:aD ["self","kind","tables"] ["self","kind","tables"] (au qz):=fsc
abbrev sI:Stmt:=inClass (top 37) 1
theorem G7:aD ["self"] ["self"] (au sI):=fsc
abbrev vR:Stmt:=inClass (top 37) 2
theorem Kr:aD ["self"] ["self"] (au vR):=fsc
abbrev ux:Stmt:=inClass (top 37) 3
theorem Jm:aD ["self"] ["self"] (au ux):=fsc
abbrev ou:Stmt:=inClass (top 37) 4
theorem zX:aD ["self","at"] ["self","at"] (au ou):=fsc
abbrev oA:Stmt:=inClass (top 37) 5
theorem zY:aD ["self","table"] ["self","table"] (au oA):=fsc
abbrev pG:Stmt:=inClass (top 37) 6
theorem Bk:aD ["self","pair"] ["self","pair"] (au pG):=fsc
abbrev vU:Stmt:=inClass (top 37) 9
theorem Ku:aD ["self","at","table"] ["self","at","table"] (au vU):=fsc
abbrev j7:Stmt:=inClass (top 37) 10
theorem dU:aD ["self","at","table","m","x","y","b"] ["self","at","table"] (au j7):=fsc
abbrev j8:Stmt:=inClass (top 37) 11
theorem dW:aD ["self","at","table","t","half","back","ahead"] ["self","at","table"] (au j8):=fsc
abbrev j9:Stmt:=inClass (top 2) 0
theorem v_:aD ["self","word"] ["self","word"] (au j9):=fsc
abbrev nG:Stmt:=inClass (top 3) 0
theorem zu:aD ["self"] ["self"] (au nG):=fsc
abbrev nH:Stmt:=inClass (top 5) 0
theorem zx:aD ["self"] ["self"] (au nH):=fsc
abbrev nJ:Stmt:=inClass (top 6) 0
theorem zy:aD ["self"] ["self"] (au nJ):=fsc
abbrev nM:Stmt:=inClass (top 7) 0
theorem zA:aD ["self"] ["self"] (au nM):=fsc
abbrev oE:Stmt:=inClass (top 8) 0
theorem zZ:aD ["self"] ["self"] (au oE):=fsc
abbrev pH:Stmt:=inClass (top 9) 0
theorem Bl:aD ["self"] ["self"] (au pH):=fsc
abbrev vV:List (List Nat × List Int):=[([115,116,114,97,105,103,104,116],[3,5,7,9]),([115,107,105,112],[4,6,8]),([115,104,97,114,101,100],[4,6,8]),([114,105,110,103],[2,3,4,5,6])]
def G8:List S:=[(.asg (.nm 2) (.pr .Tf [])),
    (.for_ (.fD [(.fld 50 (.var 0) [116,97,98,108,101,115])]) (.nm 3) [(.asg (.tup [(.nm 4),(.nm 5)]) (.slice (.meth 50 [115,101,97,116] 24 (.var 0) [(.var 1),(.var 3)]) none (some (.cst (.int 2))))),
    (.dput (.var 2) (.var 4) (.pr .tup [(.var 3),(.cst (.str [102,105,114,115,116]))])),
    (.dput (.var 2) (.var 5) (.pr .tup [(.var 3),(.cst (.str [115,101,99,111,110,100]))]))]),
    (.ret (.var 2))]
def Kf:List S:=[(.asg (.tup [(.nm 3),(.nm 4)]) (.pr .M5 [(.call 0 [(.var 0),(.var 1)]),(.var 2)])),
    (.asg (.tup [(.nm 5),(.nm 6),(.nm 7)]) (.meth 50 [115,101,97,116] 24 (.var 0) [(.var 1),(.var 3)])),
    (.asg (.nm 8) (.ite (.pr .eq [(.var 4),(.cst (.str [102,105,114,115,116]))]) (.var 6) (.var 5))),
    (.ret (.pr .tup [(.var 3),(.var 4),(.var 8),(.var 7)]))]
def Rz:List S:=[(.expr (.meth 50 [110,101,101,100,95,112,97,105,114] 23 (.var 0) [(.var 1)])),
    (.ret (.comp 1 [0,1] (.fD [(.meth 50 [114,111,117,110,100,115] 18 (.var 0) [])]) (.nm 0) none none (.call 1 [(.var 1),(.var 0),(.var 2)])))]
def zM:List S:=[(.for_ (.seq (.var 1)) (.nm 2) [(.expr (.meth 50 [110,101,101,100,95,114,111,117,110,100] 21 (.var 0) [(.var 2)]))]),
    (.ife (.pr .ne [(.pr .yf [(.var 1)]),(.pr .len [(.var 1)])]) [(.raise 5 [116,111,108,100,32,116,119,105,99,101])] [])]
def RB:List S:=[(.asg (.nm 3) (.pr .Tf [])),
    (.for_ (.enu [(.pr .ixd [(.var 0),(.var 2)])]) (.tup [(.nm 4),(.tup [(.nm 5),(.nm 6),(.nm 7),(.nm 8)])]) [(.dput (.var 3) (.var 8) (.pr .tup [(.var 4),(.var 6)]))]),
    (.asg (.nm 9) (.pr .lst [])),
    (.for_ (.enu [(.pr .ixd [(.var 0),(.var 1)])]) (.tup [(.nm 4),(.tup [(.nm 5),(.nm 6),(.nm 7),(.nm 8)])]) [(.ife (.and (.pr .din [(.var 8),(.var 3)]) (.pr .ne [(.var 7),(.var 2)])) [(.asg (.tup [(.nm 10),(.nm 11)]) (.pr .M5 [(.var 3),(.var 8)])),
    (.expr (.lm .append (.var 9) [(.pr .tup [(.var 4),(.var 10),(.pr .eq [(.var 6),(.var 11)])])]))] [])]),
    (.ret (.var 9))]
def RC:List S:=[(.ret (.pr .len [(.comp 3 [1] (.seq (.var 0)) (.tup [(.nm 0),(.nm 1),(.nm 2)]) (some (.pr .eq [(.var 2),(.pr .eq [(.pr .in_ [(.var 0),(.var 3)]),(.pr .in_ [(.var 1),(.var 3)])])])) none (.var 2))]))]
def W5:List S:=[(.ret (.pr .sub [(.pr .mul [(.cst (.int 2)),(.call 5 [(.var 0),(.var 1)])]),(.pr .len [(.var 0)])]))]
def Eb:List S:=[(.asg (.nm 1) (.comp 1 [0] (.fD [(.meth 50 [112,97,105,114,115] 20 (.var 0) [])]) (.nm 0) none none (.call 2 [(.var 1),(.var 0)]))),
    (.ret (.comp 2 [1] (.fD [(.meth 50 [112,97,105,114,115] 20 (.var 0) [])]) (.nm 0) none (some (.mk (.fD [(.var 0)]) (.nm 1) none)) (.call 4 [(.var 2),(.var 1),(.var 0)])))]
def Ol:List S:=[(.ret (.pr .sum [(.comp 1 [1] (.seq (.var 0)) (.nm 0) none none (.pr .Zd [(.call 6 [(.var 0),(.var 1)]),(.cst (.int 2))]))]))]
def Bm:List S:=[(.expr (.call 3 [(.var 0),(.var 1)])),
    (.ret (.call 8 [(.call 7 [(.var 0)]),(.var 1)]))]
def Qi:List S:=[(.ife (.or (.pr .lt [(.var 0),(.cst (.int 3))]) (.or (.pr .gt [(.var 0),(.cst (.int 11))]) (.pr .eq [(.pr .mod [(.var 0),(.cst (.int 2))]),(.cst (.int 0))]))) [(.raise 0 [98,97,100,32,114,105,110,103])] [])]
def Om:List S:=[(.ret (.pr .eq [(.pr .yf [(.var 0)]),(.pr .len [(.var 0)])]))]
def Zg:List S:=[(.asg (.nm 2) (.pr .add [(.comp 2 [0] (.seq (.var 1)) (.tup [(.nm 0),(.nm 1)]) none none (.pr .mod [(.pr .sub [(.var 0),(.var 1)]),(.var 2)])),(.comp 2 [0] (.seq (.var 1)) (.tup [(.nm 0),(.nm 1)]) none none (.pr .mod [(.pr .sub [(.var 1),(.var 0)]),(.var 2)]))])),
    (.ret (.call 11 [(.var 2)]))]
def ad8:List S:=[(.asg (.nm 3) (.comp 3 [0] (.zip [(.var 1),(.var 2)]) (.tup [(.nm 0),(.nm 1)]) none (some (.mk (.seq (.var 0)) (.nm 2) none)) (.pr .mod [(.pr .sub [(.var 1),(.var 2)]),(.var 3)]))),
    (.ret (.and (.call 11 [(.var 2)]) (.and (.call 11 [(.var 3)]) (.pr .wJ [(.cst (.int 0)),(.var 3)]))))]
def Oo:List S:=[(.ife (.pr .eq [(.pr .len [(.var 2)]),(.pr .len [(.var 1)])]) [(.ret (.var 2))] []),
    (.for_ (.YD [(.cst (.int 1)),(.var 0)]) (.nm 3) [(.asg (.nm 4) (.pr .add [(.var 2),(.pr .lst [(.var 3)])])),
    (.ife (.pr .truth [(.call 13 [(.var 0),(.var 1),(.var 4)])]) [(.asg (.nm 5) (.call 14 [(.var 0),(.var 1),(.var 4)])),
    (.ife (.pr .Te [(.var 5)]) [(.ret (.var 5))] [])] [])]),
    (.ret (.cst .non))]
def Kv:List S:=[(.expr (.call 10 [(.var 0)])),
    (.ret (.call 14 [(.var 0),(.var 1),(.pr .lst [])]))]
def Uh:List S:=[(.ife (.pr .ne [(.var 0),(.cst (.str [114,105,110,103]))]) [(.ret (.pr .lst []))] []),
    (.asg (.tup [(.nm 2),(.nm 3)]) (.pr (.plan TQ) [(.pr .sub [(.pr .mul [(.cst (.int 2)),(.var 1)]),(.cst (.int 1))])])),
    (.ret (.comp 3 [] (.zip [(.var 2),(.var 3)]) (.tup [(.tup [(.nm 1),(.nm 2)]),(.nm 0)]) none none (.pr .tup [(.var 1),(.var 2),(.var 0)])))]
def Fj:List S:=[(.ife (.pr (.tab vV) [(.var 2),(.var 1)]) [(.raise 1 [98,97,100,32,112,108,97,110])] []),
    (.Th 50 (.var 0) [107,105,110,100] (.var 1)),
    (.Th 50 (.var 0) [116,97,98,108,101,115] (.var 2)),
    (.Th 50 (.var 0) [116,114,105,111,115] (.call 16 [(.var 1),(.var 2)]))]
def yr:List S:=[(.ife (.pr .eq [(.fld 50 (.var 0) [107,105,110,100]),(.cst (.str [115,107,105,112]))]) [(.ret (.pr .sub [(.fld 50 (.var 0) [116,97,98,108,101,115]),(.cst (.int 1))]))] []),
    (.ret (.meth 50 [115,101,116,115] 19 (.var 0) []))]
def Bo:List S:=[(.ife (.pr .eq [(.fld 50 (.var 0) [107,105,110,100]),(.cst (.str [114,105,110,103]))]) [(.ret (.pr .sub [(.pr .mul [(.cst (.int 2)),(.fld 50 (.var 0) [116,97,98,108,101,115])]),(.cst (.int 1))]))] []),
    (.ret (.fld 50 (.var 0) [116,97,98,108,101,115]))]
def zN:List S:=[(.ret (.pr .mul [(.cst (.int 2)),(.fld 50 (.var 0) [116,97,98,108,101,115])]))]
def t_:List S:=[(.ife (.or (.pr .lt [(.var 1),(.cst (.int 0))]) (.pr .ge [(.var 1),(.meth 50 [114,111,117,110,100,115] 18 (.var 0) [])])) [(.raise 2 [110,111,32,114,111,117,110,100])] [])]
def uc:List S:=[(.ife (.or (.pr .lt [(.var 1),(.cst (.int 0))]) (.pr .ge [(.var 1),(.fld 50 (.var 0) [116,97,98,108,101,115])])) [(.raise 3 [110,111,32,116,97,98,108,101])] [])]
def uE:List S:=[(.ife (.or (.pr .lt [(.var 1),(.cst (.int 0))]) (.pr .ge [(.var 1),(.meth 50 [112,97,105,114,115] 20 (.var 0) [])])) [(.raise 4 [110,111,32,112,97,105,114])] [])]
def Bp:List S:=[(.expr (.meth 50 [110,101,101,100,95,114,111,117,110,100] 21 (.var 0) [(.var 1)])),
    (.expr (.meth 50 [110,101,101,100,95,116,97,98,108,101] 22 (.var 0) [(.var 2)])),
    (.ife (.pr .eq [(.fld 50 (.var 0) [107,105,110,100]),(.cst (.str [114,105,110,103]))]) [(.ret (.meth 50 [111,110,101,95,102,105,101,108,100,95,115,101,97,116] 25 (.var 0) [(.var 1),(.var 2)]))] []),
    (.ret (.meth 50 [116,119,111,95,102,105,101,108,100,95,115,101,97,116] 26 (.var 0) [(.var 1),(.var 2)]))]
def pR:List S:=[(.asg (.nm 3) (.meth 50 [115,101,116,115] 19 (.var 0) [])),
    (.ife (.pr .eq [(.var 2),(.cst (.int 0))]) [(.ret (.pr .tup [(.var 3),(.var 1),(.var 1)]))] []),
    (.asg (.tup [(.nm 4),(.nm 5),(.nm 6)]) (.pr .ix [(.fld 50 (.var 0) [116,114,105,111,115]),(.pr .sub [(.var 2),(.cst (.int 1))])])),
    (.ret (.pr .tup [(.pr .mod [(.pr .add [(.var 4),(.var 1)]),(.var 3)]),(.pr .mod [(.pr .add [(.var 5),(.var 1)]),(.var 3)]),(.pr .mod [(.pr .add [(.var 6),(.var 1)]),(.var 3)])]))]
def pU:List S:=[(.asg (.nm 3) (.fld 50 (.var 0) [116,97,98,108,101,115])),
    (.asg (.nm 4) (.pr .fdiv [(.var 3),(.cst (.int 2))])),
    (.asg (.nm 5) (.ite (.and (.pr .eq [(.fld 50 (.var 0) [107,105,110,100]),(.cst (.str [115,107,105,112]))]) (.pr .ge [(.var 1),(.var 4)])) (.pr .add [(.var 1),(.cst (.int 1))]) (.var 1))),
    (.asg (.nm 6) (.ite (.and (.pr .eq [(.fld 50 (.var 0) [107,105,110,100]),(.cst (.str [115,104,97,114,101,100]))]) (.pr .ge [(.var 2),(.var 4)])) (.pr .add [(.var 1),(.cst (.int 1))]) (.var 1))),
    (.ret (.pr .tup [(.var 2),(.pr .add [(.var 3),(.pr .mod [(.pr .sub [(.var 2),(.var 5)]),(.var 3)])]),(.pr .mod [(.pr .add [(.var 2),(.var 6)]),(.var 3)])]))]
def G9:List S:=[(.ret (.and (.pr (.isi 0) [(.var 0)]) (.pr .yP [(.pr (.isi 1) [(.var 0)])])))]
def Ec:List S:=[(.ife (.pr .isN [(.var 1)]) [(.ret (.pr .isN [(.var 0)]))] []),
    (.ife (.pr .truth [(.pr (.isi 1) [(.var 1)])]) [(.ret (.and (.pr (.isi 1) [(.var 0)]) (.pr .eq [(.var 0),(.var 1)])))] []),
    (.ife (.pr .truth [(.pr (.isi 0) [(.var 1)])]) [(.ret (.and (.call 27 [(.var 0)]) (.pr .eq [(.var 0),(.var 1)])))] []),
    (.ife (.pr .truth [(.pr (.isi 2) [(.var 1)])]) [(.ret (.and (.pr (.isi 2) [(.var 0)]) (.pr .eq [(.var 0),(.var 1)])))] []),
    (.ife (.or (.and (.pr .truth [(.pr (.isi 3) [(.var 1)])]) (.pr .yP [(.pr .truth [(.pr (.isi 3) [(.var 0)])])])) (.and (.pr .truth [(.pr (.isi 4) [(.var 1)])]) (.pr .yP [(.pr .truth [(.pr (.isi 4) [(.var 0)])])]))) [(.ret (.cst (.bl false)))] []),
    (.ret (.and (.pr .eq [(.pr .len [(.var 0)]),(.pr .len [(.var 1)])]) (.pr .all [(.comp 1 [0,1] (.fD [(.pr .len [(.var 1)])]) (.nm 0) none none (.call 28 [(.pr .ix [(.var 1),(.var 0)]),(.pr .ix [(.var 2),(.var 0)])]))])))]
def Qj:List S:=[(.ret (.pr .min [(.pr .mod [(.pr .sub [(.var 2),(.var 1)]),(.var 0)]),(.pr .mod [(.pr .sub [(.var 1),(.var 2)]),(.var 0)])]))]
def G_:List S:=[(.asg (.nm 1) (.pr .lst [(.pr .lst [])])),
    (.for_ (.fD [(.pr .fdiv [(.pr .sub [(.var 0),(.cst (.int 1))]),(.cst (.int 2))])]) (.nm 2) [(.asg (.nm 3) (.pr .lst [])),
    (.for_ (.seq (.var 1)) (.nm 4) [(.asg (.nm 5) (.pr .add [(.comp 2 [] (.seq (.var 4)) (.tup [(.nm 0),(.nm 1)]) none none (.var 0)),(.comp 2 [] (.seq (.var 4)) (.tup [(.nm 0),(.nm 1)]) none none (.var 1))])),
    (.asg (.nm 6) (.comp 1 [5] (.YD [(.cst (.int 1)),(.var 0)]) (.nm 0) (some (.pr .wJ [(.var 0),(.var 1)])) none (.var 0))),
    (.for_ (.seq (.slice (.var 6) (some (.cst (.int 1))) none)) (.nm 7) [(.asg (.nm 8) (.comp 2 [0] (.seq (.var 4)) (.tup [(.nm 0),(.nm 1)]) none none (.call 29 [(.var 2),(.var 0),(.var 1)]))),
    (.ife (.pr .wJ [(.call 29 [(.var 0),(.pr .ix [(.var 6),(.cst (.int 0))]),(.var 7)]),(.var 8)]) [(.expr (.lm .append (.var 3) [(.pr .add [(.var 4),(.pr .lst [(.pr .tup [(.pr .ix [(.var 6),(.cst (.int 0))]),(.var 7)])])])]))] [])])]),
    (.asg (.nm 1) (.var 3))]),
    (.ret (.var 1))]
def Oq:List S:=[(.asg (.nm 2) (.pr .lst [(.pr .lst [])])),
    (.M7 (.pr .gt [(.pr .len [(.var 2)]),(.cst (.int 0))]) [(.asg (.nm 3) (.lm .pop (.var 2) [])),
    (.asg (.nm 4) (.pr .lst [])),
    (.for_ (.fD [(.pr .len [(.var 3)])]) (.nm 5) [(.asg (.nm 4) (.pr .add [(.var 4),(.pr .lst [(.pr .mod [(.pr .sub [(.pr .ix [(.var 3),(.var 5)]),(.pr .ix [(.pr .ix [(.var 1),(.var 5)]),(.cst (.int 0))])]),(.var 0)]),(.pr .mod [(.pr .sub [(.pr .ix [(.var 3),(.var 5)]),(.pr .ix [(.pr .ix [(.var 1),(.var 5)]),(.cst (.int 1))])]),(.var 0)])])]))]),
    (.ife (.or (.pr .in_ [(.cst (.int 0)),(.var 4)]) (.pr .ne [(.pr .yf [(.var 4)]),(.pr .len [(.var 4)])])) [.ct] []),
    (.ife (.pr .eq [(.pr .len [(.var 3)]),(.pr .len [(.var 1)])]) [(.ret (.var 3))] []),
    (.expr (.lm .extend (.var 2) [(.comp 1 [3] (.acZ [(.pr .sub [(.var 0),(.cst (.int 1))]),(.cst (.int 0)),(.pr .neg [(.cst (.int 1))])]) (.nm 0) (some (.pr .wJ [(.var 0),(.var 1)])) none (.pr .add [(.var 1),(.pr .lst [(.var 0)])]))]))]),
    (.ret (.cst .non))]
def Jo:List S:=[(.for_ (.seq (.call 30 [(.var 0)])) (.nm 1) [(.asg (.nm 2) (.call 31 [(.var 0),(.var 1)])),
    (.ife (.pr .Te [(.var 2)]) [(.ret (.pr .tup [(.var 1),(.var 2)]))] [])]),
    (.ret (.cst .non))]
def vW:List S:=[(.asg (.nm 1) (.pr .lst [(.pr .tup [(.cst (.str [115,116,114,97,105,103,104,116])),(.cst (.int 3))]),(.pr .tup [(.cst (.str [115,107,105,112])),(.cst (.int 4))]),(.pr .tup [(.cst (.str [115,104,97,114,101,100])),(.cst (.int 4))]),(.pr .tup [(.cst (.str [115,116,114,97,105,103,104,116])),(.cst (.int 5))]),(.pr .tup [(.cst (.str [114,105,110,103])),(.cst (.int 4))]),(.pr .tup [(.cst (.str [115,107,105,112])),(.cst (.int 6))]),(.pr .tup [(.cst (.str [115,104,97,114,101,100])),(.cst (.int 6))])])),
    (.asg (.nm 1) (.pr .add [(.var 1),(.pr .lst [(.pr .tup [(.cst (.str [115,116,114,97,105,103,104,116])),(.cst (.int 7))]),(.pr .tup [(.cst (.str [114,105,110,103])),(.cst (.int 5))]),(.pr .tup [(.cst (.str [115,107,105,112])),(.cst (.int 8))]),(.pr .tup [(.cst (.str [115,104,97,114,101,100])),(.cst (.int 8))]),(.pr .tup [(.cst (.str [115,116,114,97,105,103,104,116])),(.cst (.int 9))]),(.pr .tup [(.cst (.str [114,105,110,103])),(.cst (.int 6))])])])),
    (.ret (.pr .ix [(.var 1),(.pr .mod [(.var 0),(.cst (.int 13))])]))]
def Fo:List S:=[(.asg (.nm 1) (.pr .sub [(.pr .mul [(.cst (.int 2)),(.var 0)]),(.cst (.int 1))])),
    (.asg (.tup [(.nm 2),(.nm 3)]) (.call 32 [(.var 1)])),
    (.asg (.nm 4) (.pr .lst [])),
    (.for_ (.fD [(.var 1)]) (.nm 5) [(.asg (.nm 6) (.pr .lst [(.pr .tup [(.var 1),(.var 5),(.var 5)])])),
    (.for_ (.fD [(.pr .sub [(.var 0),(.cst (.int 1))])]) (.nm 7) [(.expr (.lm .append (.var 6) [(.pr .tup [(.pr .mod [(.pr .add [(.pr .ix [(.pr .ix [(.var 2),(.var 7)]),(.cst (.int 0))]),(.var 5)]),(.var 1)]),(.pr .mod [(.pr .add [(.pr .ix [(.pr .ix [(.var 2),(.var 7)]),(.cst (.int 1))]),(.var 5)]),(.var 1)]),(.pr .mod [(.pr .add [(.pr .ix [(.var 3),(.var 7)]),(.var 5)]),(.var 1)])])]))]),
    (.expr (.lm .append (.var 4) [(.var 6)]))]),
    (.ret (.var 4))]
def Qk:List S:=[(.ife (.pr .eq [(.var 0),(.cst (.str [114,105,110,103]))]) [(.ret (.call 34 [(.var 1)]))] []),
    (.asg (.nm 2) (.pr .lst [])),
    (.for_ (.fD [(.ite (.pr .eq [(.var 0),(.cst (.str [115,107,105,112]))]) (.pr .sub [(.var 1),(.cst (.int 1))]) (.var 1))]) (.nm 3) [(.asg (.nm 4) (.ite (.and (.pr .eq [(.var 0),(.cst (.str [115,107,105,112]))]) (.pr .ge [(.pr .mul [(.cst (.int 2)),(.var 3)]),(.var 1)])) (.pr .add [(.var 3),(.cst (.int 1))]) (.var 3))),
    (.asg (.nm 5) (.pr .lst [])),
    (.for_ (.fD [(.var 1)]) (.nm 6) [(.asg (.nm 7) (.ite (.and (.pr .eq [(.var 0),(.cst (.str [115,104,97,114,101,100]))]) (.pr .ge [(.pr .mul [(.cst (.int 2)),(.var 6)]),(.var 1)])) (.cst (.int 1)) (.cst (.int 0)))),
    (.expr (.lm .append (.var 5) [(.pr .tup [(.var 6),(.pr .add [(.var 1),(.pr .mod [(.pr .sub [(.var 6),(.var 4)]),(.var 1)])]),(.pr .mod [(.pr .add [(.pr .add [(.var 6),(.var 3)]),(.var 7)]),(.var 1)])])]))]),
    (.expr (.lm .append (.var 2) [(.var 5)]))]),
    (.ret (.var 2))]
def vX:List S:=[(.asg (.nm 2) (.pr .lst [])),
    (.for_ (.fD [(.var 1)]) (.nm 3) [(.ife (.pr .eq [(.pr .mod [(.var 0),(.cst (.int 2))]),(.cst (.int 1))]) [(.expr (.lm .append (.var 2) [(.var 3)]))] []),
    (.asg (.nm 0) (.pr .fdiv [(.var 0),(.cst (.int 2))]))]),
    (.ret (.var 2))]
def Bq:List S:=[(.asg (.nm 2) (.pr .Uc [])),
    (.for_ (.fD [(.pr .len [(.var 0)])]) (.nm 3) [(.for_ (.fD [(.pr .len [(.pr .ix [(.var 0),(.var 3)])])]) (.nm 4) [(.asg (.tup [(.nm 5),(.nm 6),(.nm 7)]) (.pr .ix [(.pr .ix [(.var 0),(.var 3)]),(.var 4)])),
    (.GZ (.var 2) (.pr .tup [(.var 5),(.var 7)]) (.pr .tup [(.var 3),(.var 4),(.cst (.int 1))])),
    (.GZ (.var 2) (.pr .tup [(.var 6),(.var 7)]) (.pr .tup [(.var 3),(.var 4),(.pr .neg [(.cst (.int 1))])]))])]),
    (.asg (.nm 8) (.pr .lst [])),
    (.for_ (.fD [(.var 1)]) (.nm 9) [(.for_ (.fD [(.var 9)]) (.nm 10) [(.asg (.nm 11) (.pr .lst [])),
    (.for_ (.fD [(.pr .add [(.pr .len [(.var 0)]),(.cst (.int 3))])]) (.nm 7) [(.ife (.and (.pr .Ub [(.pr .tup [(.var 10),(.var 7)]),(.var 2)]) (.and (.pr .Ub [(.pr .tup [(.var 9),(.var 7)]),(.var 2)]) (.pr .ne [(.slice (.pr .yZ [(.var 2),(.pr .tup [(.var 10),(.var 7)])]) none (some (.cst (.int 2)))),(.slice (.pr .yZ [(.var 2),(.pr .tup [(.var 9),(.var 7)])]) none (some (.cst (.int 2))))]))) [(.asg (.nm 12) (.pr .yZ [(.var 2),(.pr .tup [(.var 10),(.var 7)])])),
    (.asg (.nm 13) (.pr .yZ [(.var 2),(.pr .tup [(.var 9),(.var 7)])])),
    (.expr (.lm .append (.var 11) [(.pr .tup [(.pr .ix [(.var 12),(.cst (.int 0))]),(.pr .ix [(.var 13),(.cst (.int 0))]),(.pr .mul [(.pr .ix [(.var 12),(.cst (.int 2))]),(.pr .ix [(.var 13),(.cst (.int 2))])])])]))] [])]),
    (.expr (.lm .append (.var 8) [(.var 11)]))])]),
    (.ret (.var 8))]
def zO:List S:=[(.asg (.nm 2) (.cst (.int 0))),
    (.for_ (.seq (.var 0)) (.nm 3) [(.asg (.nm 4) (.cst (.int 0))),
    (.for_ (.seq (.var 3)) (.tup [(.nm 5),(.nm 6),(.nm 7)]) [(.Od 4 (.ite (.pr .eq [(.pr .in_ [(.var 5),(.var 1)]),(.pr .in_ [(.var 6),(.var 1)])]) (.var 7) (.pr .neg [(.var 7)])))]),
    (.Od 2 (.pr .mul [(.var 4),(.var 4)]))]),
    (.ret (.var 2))]
def aap:List S:=[(.for_ (.fD [(.cst (.int 2))]) (.nm 1) [(.asg (.nm 2) (.pr .draw [(.pr .cell [(.var 0),(.var 1)]),(.pr .lst [(.cst (.int 13)),(.cst (.int 2048))])])),
    (.asg (.tup [(.nm 3),(.nm 4)]) (.iso 100 33 [(.pr .ix [(.var 2),(.cst (.int 0))])])),
    (.asg (.nm 5) (.Ug 20000 [3,4] (.make 50 17 [(.var 3),(.var 4)]))),
    (.asg (.nm 6) (.iso 20000 35 [(.var 3),(.var 4)])),
    (.asg (.nm 7) (.call 36 [(.pr .ix [(.var 2),(.cst (.int 1))]),(.pr .len [(.var 6)])])),
    (.asg (.nm 8) (.comp 1 [7] (.fD [(.pr .len [(.var 6)])]) (.nm 0) (some (.pr .wJ [(.var 0),(.var 1)])) none (.var 0))),
    (.asg (.nm 9) (.call 38 [(.call 37 [(.var 6),(.pr .mul [(.cst (.int 2)),(.var 4)])]),(.var 7)])),
    (.asg (.nm 10) (.pr .list [(.var 7)])),
    (.ife (.or (.pr .yP [(.pr .truth [(.call 28 [(.call 9 [(.var 5),(.var 10)]),(.var 9)])])]) (.pr .yP [(.pr .truth [(.call 28 [(.call 9 [(.var 5),(.pr .T3 [(.var 8)])]),(.var 9)])])])) [(.ret (.cst (.bl false)))] []),
    (.ife (.or (.pr .ne [(.var 10),(.var 7)]) (.pr .ne [(.call 9 [(.var 5),(.var 10)]),(.var 9)])) [(.ret (.cst (.bl false)))] []),
    (.ife (.pr .ne [(.call 9 [(.var 5),(.pr .lst [])]),(.call 38 [(.call 37 [(.var 6),(.pr .mul [(.cst (.int 2)),(.var 4)])]),(.pr .lst [])])]) [(.ret (.cst (.bl false)))] [])]),
    (.ret (.cst (.bl true)))]
def Pg:List Fn:=[.mk 2 6 G8,.mk 3 9 Kf,.mk 2 2 Rz,.mk 2 3 zM,.mk 3 12 RB,.mk 2 2 RC,.mk 2 2 W5,.mk 1 2 Eb,.mk 2 2 Ol,.mk 2 2 Bm,.mk 1 1 Qi,.mk 1 1 Om,.mk 2 3 Zg,.mk 3 4 ad8,.mk 3 6 Oo,.mk 2 2 Kv,.mk 2 4 Uh,.mk 3 3 Fj,.mk 1 1 yr,.mk 1 1 Bo,.mk 1 1 zN,.mk 2 2 t_,.mk 2 2 uc,.mk 2 2 uE,.mk 3 3 Bp,.mk 3 7 pR,.mk 3 7 pU,.mk 1 1 G9,.mk 2 2 Ec,.mk 3 3 Qj,.mk 1 9 G_,.mk 2 6 Oq,.mk 1 3 Jo,.mk 1 2 vW,.mk 1 8 Fo,.mk 2 8 Qk,.mk 2 4 vX,.mk 2 14 Bq,.mk 2 8 zO,.mk 1 11 aap]
set_option genInjectivity false in
set_option genSizeOf false in
structure Adr where
 oY:Addr
 uQ:FuncData
 qF:Addr
 wN:FuncData
 u_:Addr
 CZ:FuncData
 jL:Addr
 qe:FuncData
 vd:Addr
 C_:FuncData
 vf:Addr
 Dc:FuncData
 f_lean:Addr
 Hf:FuncData
 mR:Addr
 tH:FuncData
 sJ:Addr
 zB:FuncData
 lA:Addr
 rz:FuncData
 mU:Addr
 tK:FuncData
 lC:Addr
 rA:FuncData
 sO:Addr
 zE:FuncData
 mj:Addr
 rB:FuncData
 rC:Addr
 zF:FuncData
 yt:Addr
 Hg:FuncData
 lE:Addr
 rD:FuncData
 jM:Addr
 qg:FuncData
 qG:Addr
 wO:FuncData
 oZ:Addr
 uR:FuncData
 oF:Addr
 vY:FuncData
 pW:Addr
 xJ:FuncData
 pX:Addr
 xK:FuncData
 o4:Addr
 uU:FuncData
 mV:Addr
 tL:FuncData
 mW:Addr
 tM:FuncData
 iQ:Addr
 nQ:FuncData
 lF:Addr
 rE:FuncData
 jm:Addr
 o5:FuncData
 cA:Addr
 mq:FuncData
 gR:Addr
 mz:FuncData
 mY:Addr
 tQ:FuncData
 gU:Addr
 mC:FuncData
 lH:Addr
 rF:FuncData
 jN:Addr
 qi:FuncData
 wQ:Addr
 Mi:FuncData
 fH:Addr
 jw:FuncData
 gW:Addr
 lJ:FuncData
 jx:Addr
 oG:FuncData
 iU:Addr
 mK:FuncData
 dH:Addr
 iy:FuncData
 dI:Addr
 iz:FuncData
 dX:Addr
 iY:FuncData
 jy:Addr
 oH:FuncData
 cB:Addr
 eZ:FuncData
 cC:Addr
 e_:FuncData
 bL:Addr
 ig:FuncData
 d9:Addr
 jD:FuncData
 d_:Addr
 jE:FuncData
 eE:Addr
 jF:FuncData
 eF:Addr
 jG:FuncData
 fL:Addr
 jY:FuncData
 gw:Addr
 kI:FuncData
 bu:Addr
 qH:Addr
 qI:Addr
 qJ:Addr
 qK:Addr
 sS:Addr
 vg:Addr
 dJ:Addr
 jk:Addr
 nR:Tok
 rG:Tok
def cn(a:Adr):Cn where
 c:=fun k=>match k with | 0=>a.qH | 1=>a.qI | 2=>a.qJ | 3=>a.qK | 4=>a.sS | 5=>a.vg | 50=>a.dJ | _=>0
 P:=0
 q:="law" ++ ".<locals>." ++ "<lambda>"
 on:=false
structure Txt (w:World)(K:aq)(mg:Str->Option Value)(a:Adr):Prop where
 o6:Df K mg "seats_in" zj ["plan","at"] a.oY a.uQ
 lR:Df K mg "meeting" Bg ["plan","at","pair"] a.qF a.wN
 qL:Df K mg "guide" CV ["plan","pair"] a.u_ a.CZ
 jO:Df K mg "need_turned" ur ["plan","turned"] a.jL a.qe
 qM:Df K mg "links" Jk ["guides","one","other"] a.vd a.C_
 vh:Df K mg "likes" CW ["linked","turned"] a.vf a.Dc
 ud:Df K mg "lean" Oe ["linked","turned"] a.f_lean a.Hf
 mZ:Df K mg "all_links" pP ["plan"] a.mR a.tH
 sU:Df K mg "uneven" zm ["all_linked","turned"] a.sJ a.zB
 gj:Df K mg "unevenness" vL ["plan","turned"] a.lA a.rz
 j_:Df K mg "need_ring" xj ["m"] a.mU a.tK
 iB:Df K mg "all_unlike" vM ["numbers"] a.lC a.rA
 sV:Df K mg "differ" vN ["m","pairs"] a.sO a.zE
 mD:Df K mg "pairings" uN ["numbers"] a.mj a.rB
 o7:Df K mg "starters" uO ["m"] a.rC a.zF
 yu:Df K mg "fits" G6 ["m","pairs","adds"] a.yt a.Hg
 jz:Df K mg "first_from" vO ["m","pairs","adds"] a.lE a.rD
 jP:Df K mg "first_adder" uv ["m","pairs"] a.jM a.qg
 lU:Df K mg "planned" Bj ["m"] a.qG a.wO
 o8:Df K mg "trios_of" uP ["kind","tables"] a.oZ a.uR
 lK:Df K mg "_law_mixed" vP ["_law_seed","_law_k"] a.oF a.vY
 m5:Df K mg "_law_draw" xq ["_law_cell_here","_law_limits"] a.pW a.xJ
 m6:Df K mg "_law_cell" xr ["_law_script","_law_k"] a.pX a.xK
 o9:Df K mg "_law_num" zq ["_law_found"] a.o4 a.uU
 fV:Df K mg "_law_same" tu ["_law_found","_law_due"] a.mV a.tL
 ir:Df K mg "_law_step" xu ["_law_m","_law_x","_law_y"] a.mW a.tM
 iR:Df K mg "_law_starters" gh ["_law_m"] a.iQ a.nQ
 lN:Df K mg "_law_adder" q_ ["_law_m","_law_pairs"] a.lF a.rE
 jn:Df K mg "_law_planned" sH ["_law_m"] a.jm a.o5
 gY:Df K mg "_law_some_plan" bT ["_law_number"] a.cA a.mq
 gZ:Df K mg "_law_ring_rows" qx ["_law_t"] a.gR a.mz
 m7:Df K mg "_law_rows" xx ["_law_kind","_law_t"] a.mY a.tQ
 g_:Df K mg "_law_rounds_of" qy ["_law_number","_law_many"] a.gU a.mC
 jA:Df K mg "_law_signs" vQ ["_law_rows_here","_law_pairs"] a.lH a.rF
 iV:Df K mg "_law_uneven" uw ["_law_marks","_law_turned"] a.jN a.qi
 afj:Df K mg "law" tD ["_law_script"] a.wQ a.Mi
 Fp:Fun K "__init__" "Plan.__init__" qz a.fH a.jw
 Ft:Binds K a.jw ["self","kind","tables"] []
 Jp:Fun K "rounds" "Plan.rounds" sI a.gW a.lJ
 yw:Binds K a.lJ ["self"] []
 wR:Meth K ((cn a).c 50) "rounds" a.gW
 Ot:Fun K "sets" "Plan.sets" vR a.jx a.oG
 Br:Binds K a.oG ["self"] []
 zP:Meth K ((cn a).c 50) "sets" a.jx
 Kw:Fun K "pairs" "Plan.pairs" ux a.iU a.mK
 uy:Binds K a.mK ["self"] []
 sW:Meth K ((cn a).c 50) "pairs" a.iU
 Bs:Fun K "need_round" "Plan.need_round" ou a.dH a.iy
 ue:Binds K a.iy ["self","at"] []
 rO:Meth K ((cn a).c 50) "need_round" a.dH
 Bu:Fun K "need_table" "Plan.need_table" oA a.dI a.iz
 Bv:Binds K a.iz ["self","table"] []
 z6:Meth K ((cn a).c 50) "need_table" a.dI
 Dr:Fun K "need_pair" "Plan.need_pair" pG a.dX a.iY
 Ds:Binds K a.iY ["self","pair"] []
 Bw:Meth K ((cn a).c 50) "need_pair" a.dX
 Ou:Fun K "seat" "Plan.seat" vU a.jy a.oH
 Bx:Binds K a.oH ["self","at","table"] []
 zQ:Meth K ((cn a).c 50) "seat" a.jy
 xM:Fun K "one_field_seat" "Plan.one_field_seat" j7 a.cB a.eZ
 xN:Binds K a.eZ ["self","at","table"] []
 wg:Meth K ((cn a).c 50) "one_field_seat" a.cB
 xO:Fun K "two_field_seat" "Plan.two_field_seat" j8 a.cC a.e_
 xP:Binds K a.e_ ["self","at","table"] []
 wj:Meth K ((cn a).c 50) "two_field_seat" a.cC
 xQ:Fun K "__init__" "StandError.__init__" j9 a.bL a.ig
 cU:Binds K a.ig ["self","word"] []
 z7:Fun K "__init__" "BadRing.__init__" nG a.d9 a.jD
 z8:Binds K a.jD ["self"] []
 z9:Fun K "__init__" "BadPlan.__init__" nH a.d_ a.jE
 z_:Binds K a.jE ["self"] []
 Aa:Fun K "__init__" "NoRound.__init__" nJ a.eE a.jF
 Ab:Binds K a.jF ["self"] []
 Ac:Fun K "__init__" "NoTable.__init__" nM a.eF a.jG
 Ad:Binds K a.jG ["self"] []
 By:Fun K "__init__" "NoPair.__init__" oE a.fL a.jY
 BJ:Binds K a.jY ["self"] []
 Dt:Fun K "__init__" "Twice.__init__" pH a.gw a.kI
 Du:Binds K a.kI ["self"] []
 bB:Cls K ((cn a).c 50)
 iC:dO K ((cn a).c 50) "kind"
 cV:dO K ((cn a).c 50) "tables"
 qj:dO K ((cn a).c 50) "trios"
 Jq:Mk K ((cn a).c 50) a.fH
 abn:mg "Plan" =some (.ref ((cn a).c 50))
 Hh:XMk K ((cn a).c 0) a.d9
 afk:En K ((cn a).c 0) a.bu
 Ui:dO K ((cn a).c 0) "word"
 Uj:mg "BadRing" =some (.ref ((cn a).c 0))
 Hi:XMk K ((cn a).c 1) a.d_
 afl:En K ((cn a).c 1) a.bu
 Uk:dO K ((cn a).c 1) "word"
 Ul:mg "BadPlan" =some (.ref ((cn a).c 1))
 Hj:XMk K ((cn a).c 2) a.eE
 afm:En K ((cn a).c 2) a.bu
 Um:dO K ((cn a).c 2) "word"
 Uo:mg "NoRound" =some (.ref ((cn a).c 2))
 Hl:XMk K ((cn a).c 3) a.eF
 afn:En K ((cn a).c 3) a.bu
 Up:dO K ((cn a).c 3) "word"
 Uq:mg "NoTable" =some (.ref ((cn a).c 3))
 Kg:XMk K ((cn a).c 4) a.fL
 aft:En K ((cn a).c 4) a.bu
 W6:dO K ((cn a).c 4) "word"
 W7:mg "NoPair" =some (.ref ((cn a).c 4))
 Ov:XMk K ((cn a).c 5) a.gw
 af5:En K ((cn a).c 5) a.bu
 Zh:dO K ((cn a).c 5) "word"
 Zi:mg "Twice" =some (.ref ((cn a).c 5))
 abJ:uh K a.bu
 jQ:CI K a.bu a.bL
 jR:mg "StandError" =some (.ref a.bu)
 ql:Tq K w a.jk vV
 BK:mg "TABLES_OF" =some (.ref a.jk)
 Ho:mg "GREATEST_RING" =some (Value.int (11) a.nR)
 Ow:mg "LEAST_RING" =some (Value.int (3) a.rG)
 vZ:mg "ValueError" =none
 Ur:mg "abs" =none
 Us:mg "all" =none
 BL:mg "bool" =none
 tR:mg "enumerate" =none
 Mj:mg "int" =none
 cJ:mg "isinstance" =none
 dw:mg "len" =none
 yx:mg "list" =none
 Ut:mg "min" =none
 bY:mg "range" =none
 Hq:mg "set" =none
 Ml:mg "str" =none
 Uu:mg "sum" =none
 Dd:mg "tuple" =none
 Mm:mg "zip" =none
theorem De{i j:Int}(h1: -(2 ^ 64)<i)(h2:i<2 ^ 64):Ly i j:=.inl (.inl ⟨h1,h2⟩)
theorem Ox{i j:Int}(h1: -(2 ^ 64)<j)(h2:j<2 ^ 64):Ly i j:=.inl (.inr ⟨h1,h2⟩)
section
variable{P:Program}{w:World}{K:aq}{mg:Str->Option Value}{base:Heap}
theorem jT{a:Adr}(T:Txt w K mg a):bH P w K mg base CX0 1 a.bL a.ig ["self","word"] (spS K):=by
 refine T.xQ.ok v_ (fun vs H Q E h=>?_) (fun cdv A outer s H vs Q E hr h=>?_)
 · obtain⟨_,_,_,rfl,_⟩:=h;rfl
 obtain⟨e,C,y,rfl,he,c,na,q⟩:=h;refine⟨_,(cX (jH (Ys rfl T.vZ (aU (pv 0) (aU (pv 1) bG)))) (cM (aaP (pv 0) (pv 1)))),?_⟩;exact⟨_,rfl,_,rfl,e,C,none,y,rfl,he,c,y,rfl,.ref e,rfl,e,C,rfl,he,c,na,q⟩
theorem Uv{a:Adr}(T:Txt w K mg a):bH P w K mg base CX0 2 a.d9 a.jD ["self"] (spX ((cn a).c 0) [98,97,100,32,114,105,110,103]):=by
 have F:=jT (P:=P) (base:=base) T;refine T.z7.ok zu (fun vs H Q E h=>?_) (fun cdv A outer s H vs Q E hr h=>?_)
 · obtain⟨_,rfl,_⟩:=h;rfl
 obtain⟨e,rfl,he,q⟩:=h;refine⟨_,(cM (jH (rW T.jQ F (hr.mono (by omega)) rfl T.jR T.cU uG (aU (pv 0) (aU vm bG))))),?_⟩;refine⟨_,rfl,e,((cn a).c 0),_,rfl,he,T.Hh.cls,T.Ui,fun dx h1 h2=>?_⟩;have:=q dx h1 h2;rw[<- uY]at this;exact this
theorem Uw{a:Adr}(T:Txt w K mg a):bH P w K mg base CX0 2 a.d_ a.jE ["self"] (spX ((cn a).c 1) [98,97,100,32,112,108,97,110]):=by
 have F:=jT (P:=P) (base:=base) T;refine T.z9.ok zx (fun vs H Q E h=>?_) (fun cdv A outer s H vs Q E hr h=>?_)
 · obtain⟨_,rfl,_⟩:=h;rfl
 obtain⟨e,rfl,he,q⟩:=h;refine⟨_,(cM (jH (rW T.jQ F (hr.mono (by omega)) rfl T.jR T.cU uG (aU (pv 0) (aU vm bG))))),?_⟩;refine⟨_,rfl,e,((cn a).c 1),_,rfl,he,T.Hi.cls,T.Uk,fun dx h1 h2=>?_⟩;have:=q dx h1 h2;rw[<- uY]at this;exact this
theorem Ux{a:Adr}(T:Txt w K mg a):bH P w K mg base CX0 2 a.eE a.jF ["self"] (spX ((cn a).c 2) [110,111,32,114,111,117,110,100]):=by
 have F:=jT (P:=P) (base:=base) T;refine T.Aa.ok zy (fun vs H Q E h=>?_) (fun cdv A outer s H vs Q E hr h=>?_)
 · obtain⟨_,rfl,_⟩:=h;rfl
 obtain⟨e,rfl,he,q⟩:=h;refine⟨_,(cM (jH (rW T.jQ F (hr.mono (by omega)) rfl T.jR T.cU uG (aU (pv 0) (aU vm bG))))),?_⟩;refine⟨_,rfl,e,((cn a).c 2),_,rfl,he,T.Hj.cls,T.Um,fun dx h1 h2=>?_⟩;have:=q dx h1 h2;rw[<- uY]at this;exact this
theorem Uy{a:Adr}(T:Txt w K mg a):bH P w K mg base CX0 2 a.eF a.jG ["self"] (spX ((cn a).c 3) [110,111,32,116,97,98,108,101]):=by
 have F:=jT (P:=P) (base:=base) T;refine T.Ac.ok zA (fun vs H Q E h=>?_) (fun cdv A outer s H vs Q E hr h=>?_)
 · obtain⟨_,rfl,_⟩:=h;rfl
 obtain⟨e,rfl,he,q⟩:=h;refine⟨_,(cM (jH (rW T.jQ F (hr.mono (by omega)) rfl T.jR T.cU uG (aU (pv 0) (aU vm bG))))),?_⟩;refine⟨_,rfl,e,((cn a).c 3),_,rfl,he,T.Hl.cls,T.Up,fun dx h1 h2=>?_⟩;have:=q dx h1 h2;rw[<- uY]at this;exact this
theorem W8{a:Adr}(T:Txt w K mg a):bH P w K mg base CX0 2 a.fL a.jY ["self"] (spX ((cn a).c 4) [110,111,32,112,97,105,114]):=by
 have F:=jT (P:=P) (base:=base) T;refine T.By.ok zZ (fun vs H Q E h=>?_) (fun cdv A outer s H vs Q E hr h=>?_)
 · obtain⟨_,rfl,_⟩:=h;rfl
 obtain⟨e,rfl,he,q⟩:=h;refine⟨_,(cM (jH (rW T.jQ F (hr.mono (by omega)) rfl T.jR T.cU uG (aU (pv 0) (aU vm bG))))),?_⟩;refine⟨_,rfl,e,((cn a).c 4),_,rfl,he,T.Kg.cls,T.W6,fun dx h1 h2=>?_⟩;have:=q dx h1 h2;rw[<- uY]at this;exact this
theorem Zj{a:Adr}(T:Txt w K mg a):bH P w K mg base CX0 2 a.gw a.kI ["self"] (spX ((cn a).c 5) [116,111,108,100,32,116,119,105,99,101]):=by
 have F:=jT (P:=P) (base:=base) T;refine T.Dt.ok Bl (fun vs H Q E h=>?_) (fun cdv A outer s H vs Q E hr h=>?_)
 · obtain⟨_,rfl,_⟩:=h;rfl
 obtain⟨e,rfl,he,q⟩:=h;refine⟨_,(cM (jH (rW T.jQ F (hr.mono (by omega)) rfl T.jR T.cU uG (aU (pv 0) (aU vm bG))))),?_⟩;refine⟨_,rfl,e,((cn a).c 5),_,rfl,he,T.Ov.cls,T.Zh,fun dx h1 h2=>?_⟩;have:=q dx h1 h2;rw[<- uY]at this;exact this
end
end
section
variable{P:Program}{w:World}{K:aq}{mg:Str->Option Value}{base:Heap}
theorem Ky{a:Adr}(T:Txt w K mg a):bH P w K mg base CX0 1 a.oF a.vY ["_law_seed","_law_k"] Ev.adT:=by
 refine T.lK.fn.ok zL (fun vs H Q E h=>?_) (fun cdv A outer s H vs Q E hr h=>?_)
 · obtain⟨a,k,rfl,_⟩:=h;rfl
 obtain⟨x,k,rfl,h0,h1,q⟩:=h
 refine⟨_,(cX (qQ (i:=2) zL.nd rfl (Or.inl rfl) (fW cH (fW fK (pv 0) (pv 0)) dz))
  (cM (pL (fW cH (fW cG (fW cG (fW fK (pv 2) (fW cG (fW cH (pv 0) dz) dz)) (fW fK (pv 1) dz)) dz) dz)))),?_⟩
 have m31:(0:Int)<2147483647:=by decide
 refine⟨_,rfl,_,rfl,_,_,rfl,rfl,De (by omega) (by omega),_,_,rfl,rfl,m31,?_⟩;have s0:=Int.emod_nonneg (x*x) (show(2147483647:Int) ≠ 0 by decide);have s1:=Int.emod_lt_of_pos (x*x) m31;refine⟨_,rfl,_,rfl,_,_,rfl,rfl,(by show(0:Int)<65521;decide),_,_,rfl,rfl,_,_,rfl,rfl,De (by omega) (by omega),_,rfl,_,_,rfl,rfl,Ox (by decide) (by decide),_,_,rfl,rfl,_,_,rfl,rfl,_,_,rfl,rfl,m31,?_⟩;exact q
theorem Oz{a:Adr}(T:Txt w K mg a):bH P w K mg base CX0 2 a.pW a.xJ ["_law_cell_here","_law_limits"] Ev.Rt:=by
 have OD:=Ky (P:=P) (w:=w) (base:=base) T;refine T.m5.fn.ok jt (fun vs H Q E h=>?_) (fun cdv A outer s H vs Q E hr h=>?_)
 · obtain⟨_,_,_,rfl,_⟩:=h;rfl
 obtain⟨c,l,ls,rfl,hl,h63,hz,q⟩:=h
 refine⟨_,(cX (qQ (i:=2) jt.nd rfl (Or.inl rfl) (Mv (rR wF (pv 0) (fW Vl dz dz) (aZ _)) (pv 0) dz))
  (cX (qQ (i:=3) jt.nd rfl (Or.inl rfl) (fW cH (fW cG (fW fK (nU X3 rfl T.Ur boot_abs (aU (pv 0) bG)) dz) dz) dz))
  (cX (qQ (i:=4) jt.nd rfl (Or.inl rfl) (xX bG))
  (cX (Ai PassesOwn.never rfl (rQ (pv 1)) (rP (i:=5) jt.nd rfl (Or.inl rfl))
    (cM (Ci (rR R6 (pv 2) dz (aZ _)) (cX (jH (Lr PySem.F.plainAttrs_list PySem.F.slot_list_append PySem.F.type_list_append fJ (pv 4) (aU (fW cH (pv 2) (pv 5)) bG)))
      (cM (qQ (i:=2) jt.nd rfl (Or.inl rfl) (fW vA (pv 2) (pv 5))))) (cX (qQ (i:=3) jt.nd rfl (Or.inl rfl) (Gj T.lK OD (hr.mono (by omega)) rfl (aU (pv 3) (aU (nU bh rfl T.dw boot_len (aU (pv 4) bG)) bG))))
      (cM (jH (Lr PySem.F.plainAttrs_list PySem.F.slot_list_append PySem.F.type_list_append fJ (pv 4) (aU (fW cH (fW vA (pv 3) dz) (pv 5)) bG))))))))
  (cM (pL (pv 4))))))),?_⟩
 have m31:(0:Int)<2147483647:=by decide
 have s31:Sml 61:=by unfold Sml;exact aY (show(61:Int).natAbs<2 ^ 10 by decide) (Nat.pow_le_pow_right (by decide) (by decide))
 refine⟨_,rfl,_,_,rfl,rfl,(by show XS 10 18;exact⟨by decide,by decide,by decide⟩),_,_,rfl,rfl,_,rfl,?_⟩;refine SN (fun cc=>?gA) (fun cc=>?gB)
 case' gA=>
  have ec:Ev.jX c ls=Ev.qZ c (((if c<0 then -c else c)*2654435+40503) % 2147483647) 0 ls:=by
   have z:(10:Int) ^ (18:Int).toNat<=c:=of_decide_eq_true cc;unfold Ev.jX;rw[if_pos z]
  refine⟨_,rfl,?_⟩
 case' gB=>
  have ec:Ev.jX c ls=Ev.qZ 0 (((if c<0 then -c else c)*2654435+40503) % 2147483647) 0 ls:=by
   have z:¬ (10:Int) ^ (18:Int).toNat<=c:=fun z=>cc (decide_eq_true z);unfold Ev.jX;rw[if_neg z]
 all_goals
  refine⟨_,rfl,_,rfl,_,_,rfl,rfl,Ox (by decide) (by decide),_,_,rfl,rfl,_,_,rfl,rfl,m31,?_⟩;refine⟨(by show 0<=sizeLine;decide),fun r hr'=>?_⟩;have g0:fQ H (upd H r (.lst [])):=gM hr' _
  refine⟨_,rfl,l,rfl,⟨_,SqL.of (g0 _ _ hl)⟩,yH (K:=K) (a:=l) (xs:=ls.map V.int) (fun i σ H2=>∃(rest seed:Int) (ns:List Int) (v:Option V),σ= [some (.int c),some (.ref l),some (.int rest),some (.int seed),some (.ref r),v]/\
   0<=seed/\seed<2147483647/\fQ H H2/\H2 r=some (.lst (ns.map V.int))/\ns.length=i/\ns++Ev.qZ rest seed i (ls.drop i)=Ev.jX c ls)
   ⟨_,_,[],none,rfl,Int.emod_nonneg _ (by decide),Int.emod_lt_of_pos _ m31,g0,aG,rfl,ec.symm⟩ (fun i σ H2 _ ⟨_,_,_,_,_,_,_,s2,_⟩=>SqL.of (s2 _ _ hl)) ?_ ?_⟩
  · rintro i y σ H2 hi ⟨rest,seed,ns,v,rfl,s0,s1,s2,hr2,hlen,hD⟩
    obtain⟨z,hzi,rfl⟩:∃ z,ls[i]? =some z/\y=V.int z:=by
     rw[List.getElem?_map]at hi
     cases e:ls[i]? with
     | none=>rw[e]at hi;cases hi
     | some z=>rw[e]at hi;exact⟨z,rfl,(Option.some.inj hi).symm⟩
    obtain⟨z0,zS⟩:=hz z (List.mem_of_getElem? hzi);have hil:i<ls.length:=(a_ hzi).1;have hlt:(ns.map V.int).length<sizeLine:=by rw[List.length_map];exact Vy (by omega)
    have nlr:r ≠ l:=fun e=>by rw[e]at hr';rw[hl]at hr';cases hr'
    have ed:ls.drop i=z::ls.drop (i+1):=by rw[List.drop_eq_getElem_cons hil];rw[(a_ hzi).2]
    rw[ed]at hD;unfold Ev.qZ at hD;have aaq:∀ o,fQ H (upd H2 r o):=fun o b u e=>by rw[aN (cg e hr')];exact s2 _ _ e
    have em:∀ v:Int,ns.map V.int ++ [V.int v] =(ns ++ [v]).map V.int:=fun v=>by rw[List.map_append];rfl
    refine⟨_,rfl,_,_,rfl,rfl,_,rfl,?_⟩;refine SN (fun cr=>?_) (fun cr=>?_)
    · have cr':0<rest:=of_decide_eq_true cr;refine⟨_,rfl,.inl ⟨rfl,_,SqL.of hr2⟩,_,rfl,_,rfl,_,_,rfl,rfl,z0,r,_,_,rfl,rfl,hr2,hlt,?_⟩;refine⟨_,rfl,_,rfl,_,_,rfl,rfl,⟨by omega,zS⟩,?_⟩;rw[if_pos cr']at hD;refine⟨_,seed,ns ++ [rest % z],_,rfl,s0,s1,aaq _,by rw[aG,em],by rw[List.length_append,hlen];rfl,by rw[List.append_assoc];exact hD⟩
    · refine⟨_,rfl,_,rfl,r,_,rfl,.inl (SqL.of hr2),_,_,rfl,s0,s1,?_⟩;have cr':¬ 0<rest:=fun z=>cr (decide_eq_true z);rw[if_neg cr']at hD;have el:(((ns.map V.int).length:Nat):Int)=(i:Int):=by rw[List.length_map,hlen]
      refine⟨_,rfl,.inl ⟨rfl,_,SqL.of hr2⟩,_,rfl,_,_,rfl,rfl,⟨by decide,s31⟩,_,rfl,_,_,rfl,rfl,z0,r,_,_,rfl,rfl,hr2,hlt,?_⟩;rw[el];refine⟨rest,Ev.N_ seed i,ns ++ [((Ev.N_ seed i).fdiv 61) % z],_,rfl,Int.emod_nonneg _ (by decide),Int.emod_lt_of_pos _ m31,aaq _,by rw[aG,em],by rw[List.length_append,hlen];rfl,by rw[List.append_assoc];exact hD⟩
  · rintro σ H2 ⟨rest,seed,ns,v,rfl,s0,s1,s2,hr2,hlen,hD⟩;rw[List.length_map,List.drop_length]at hD;have hD:ns ++ [] =Ev.jX c ls:=hD;rw[List.append_nil]at hD;subst hD;exact⟨_,rfl,q r H2 hr' s2 hr2⟩
theorem int_at{ns:List Int}{k:Int}(h0:0<=k)(h1:k<(ns.length:Int)):atI (ns.map V.int) k=some (.int (ns.getD k.toNat 0)):=by
 have hk:k.toNat<ns.length:=by omega
 have ek:k=((k.toNat:Nat):Int):=by omega
 have q:atI (ns.map V.int) ((k.toNat:Nat):Int)=some (.int (ns.getD k.toNat 0)):=QF (by rw[List.getElem?_map,List.getElem?_eq_getElem hk,List.getD,List.getElem?_eq_getElem hk] <;> rfl);rw[<- ek]at q;exact q
theorem OJ{a:Adr}(T:Txt w K mg a):bH P w K mg base CX0 1 a.pX a.xK ["_law_script","_law_k"] (Ev.Ru K):=by
 refine T.m6.fn.ok Oh (fun vs H Q E h=>?_) (fun cdv A outer s H vs Q E hr h=>?_)
 · obtain⟨_,_,_,rfl,_⟩:=h;rfl
 obtain⟨l,ns,k,rfl,hS,h63,k0,q⟩:=h
 refine⟨_,(cX (Ci (rR FW (pv 1) (nU bh rfl T.dw boot_len (aU (pv 0) bG)) (aZ _)) (cM (pL (yI Cp (pv 0) (pv 1) (fun _ _=>rfl)))) xW)
  (cX (Ci (rR aeC (nU bh rfl T.dw boot_len (aU (pv 0) bG)) dz (aZ _)) (cM (pL (fW fK dz (pv 1)))) xW)
  (cM (pL (fW cG (yI Cp (pv 0) (fW cH (pv 1) (nU bh rfl T.dw boot_len (aU (pv 0) bG))) (fun _ _=>rfl)) (fW fK dz (pv 1))))))),?_⟩
 have hl:(ns.map V.int).length=ns.length:=List.length_map _;refine⟨_,rfl,_,rfl,l,_,rfl,.inl hS,_,_,rfl,rfl,_,rfl,?_⟩;refine SN (fun c=>?_) (fun c=>?_)
 · have c':k<(((ns.map V.int).length:Nat):Int):=of_decide_eq_true c;rw[hl]at c';unfold Ev.uM at q;rw[if_pos c']at q;exact⟨_,rfl,_,rfl,l,_,_,_,rfl,rfl,hS,int_at k0 c',q⟩
 · have nc:¬ k<(ns.length:Int):=fun z=>c (decide_eq_true (by rw[hl];exact z));unfold Ev.uM at q;rw[if_neg nc]at q;refine⟨_,rfl,l,_,rfl,.inl hS,rfl,_,rfl,?_⟩;refine SN (fun c2=>?_) (fun c2=>?_)
   · have c3:V.int (((ns.map V.int).length:Nat):Int)=V.int 0:=of_decide_eq_true c2
     have c4:ns.length=0:=by
      rw[hl]at c3
      cases h:ns.length with
      | zero=>rfl
      | succ n=>rw[h]at c3;cases c3
     rw[if_pos c4]at q;exact⟨_,rfl,_,_,rfl,rfl,De (by decide) (by decide),q⟩
   · have c3:¬ V.int (((ns.map V.int).length:Nat):Int)=V.int 0:=fun z=>c2 (decide_eq_true z)
     have c4:0<ns.length:=by
      rw[hl]at c3
      rcases Nat.eq_zero_or_pos ns.length with z | z
      · rw[z]at c3;exact absurd rfl c3
      · exact z
     have p0:(0:Int)<(((ns.map V.int).length:Nat):Int):=by rw[hl];omega
     rw[if_neg (show ¬ ns.length=0 by omega),<- hl]at q;have hz:=int_at (ns:=ns) (k:=k % (((ns.map V.int).length:Nat):Int)) (Int.emod_nonneg _ (by omega)) (by have:=Int.emod_lt_of_pos k p0;rw[hl]at this ⊢;exact this);exact⟨_,rfl,_,rfl,_,rfl,l,_,rfl,.inl hS,_,_,rfl,rfl,p0,l,_,_,_,rfl,rfl,hS,hz,_,rfl,_,_,rfl,rfl,De (by decide) (by decide),_,_,rfl,rfl,q⟩
end
section
open Ev
variable{P:Program}{w:World}{K:aq}{mg:Str->Option Value}{base:Heap}
abbrev Fq(P:Program)(w:World)(K:aq)(mg:Str->Option Value)(base:Heap)(a:Adr)(n d:Nat)(f:Addr)(fd:FuncData)(ps:List Str)(i:Nat):Prop:=bH P w K mg base (CXE P w) n f fd ps (spF Pg (cn a) d i)
variable{a:Adr}{d:Nat}
structure Al (P:Program)(w:World)(K:aq)(mg:Str->Option Value)(base:Heap)(a:Adr)(d:Nat):Prop where
 Ed:Fq P w K mg base a (4*d+8) d a.mU a.tK ["m"] 10
 v8:Fq P w K mg base a (4*d+8) d a.lC a.rA ["numbers"] 11
 Zk:Fq P w K mg base a (4*d+8) d a.sO a.zE ["m","pairs"] 12
 ad9:Fq P w K mg base a (4*d+8) d a.yt a.Hg ["m","pairs","adds"] 13
 BP:Fq P w K mg base a (4*d+8) d a.lE a.rD ["m","pairs","adds"] 14
 Kz:Fq P w K mg base a (4*d+8) d a.jM a.qg ["m","pairs"] 15
theorem RD{a:Adr}:Al P w K mg base a 0:=⟨bw,bw,bw,bw,bw,bw⟩
theorem O1(T:Txt w K mg a)(A0:Al P w K mg base a d):Fq P w K mg base a (4*(d+1)+8) (d+1) a.mU a.tK ["m"] 10:=by
 refine(bJ (k:=4*d+11) T.j_.fn Og rfl fun σ0 cdv A outer s H E hr hp=>?_).mono (by omega)
 exact(aa (cQ (PW.pt (uJ (bx (Tj (K:=K)) (L2.OpR.or FW (Gf hr.Ga)) (dv 0) (yh (Qw (v:=.int 3) rfl T.Ow ⟨_,rfl⟩) (.int 3)) (aZ _)) (uJ (bx ac6 R6 (dv 0) (yh (Qw (v:=.int 11) rfl T.Ho ⟨_,rfl⟩) (.int 11)) (aZ _)) (pw_or1 (bx jg (cY hr.units) (aM iJ cH (dv 0) aK) aK (aZ _)))))) (aa (su ⟨rfl,rfl,rfl⟩ rfl rfl T.Hh (Uv T) (hr.mono (by omega)) T.z8 rfl T.Uj)
  ao) ao)
  ao)
theorem KC(T:Txt w K mg a)(A0:Al P w K mg base a d):Fq P w K mg base a (4*(d+1)+8) (d+1) a.lC a.rA ["numbers"] 11:=by
 refine(bJ (k:=4*d+11) T.iB.fn Kq rfl fun σ0 cdv A outer s H E hr hp=>?_).mono (by omega)
 exact(aa (aX (mH jg (cY hr.units) (Ax hr.hd rfl T.dw rfl T.Hq (dv 0)) (b_ (jf (K:=K)) bh rfl T.dw boot_len (aj (dv 0) ak)) (aZ _)))
  ao)
theorem W9(T:Txt w K mg a)(A0:Al P w K mg base a d):Fq P w K mg base a (4*(d+1)+8) (d+1) a.sO a.zE ["m","pairs"] 12:=by
 refine(bJ (k:=4*d+11) T.sV.fn Ke rfl fun σ0 cdv A outer s H E hr hp=>?_).mono (by omega)
 exact(aa (bF 2 Ke.nd (aM gG (L2.OpR.or cG dB) (jq (gJ (N':=["x","y","m"]) (nt:=2) (idx:=[0]) (N:=["m","pairs","ways"]) (osc:=au vN) rfl rfl (by decide +kernel)) rfl jW (iM rfl (dv 1)) (fun C0 s0 H0 fp0=>(dD rfl (aB (aJ 0 (show List.Nodup (["x","y","m"]:List Str) by decide +kernel)) (aB (aJ 1 (show List.Nodup (["x","y","m"]:List Str) by decide +kernel)) cI)))) (fun C0 s0 H0 fp0=>iK) (fun C0 s0 H0 fp0=>(aM iJ cH (aM je fX (dv 0) (dv 1)) (dv 2))) (by decide)) (jq (gJ (N':=["x","y","m"]) (nt:=2) (idx:=[0]) (N:=["m","pairs","ways"]) (osc:=au vN) rfl rfl (by decide +kernel)) rfl jW (iM rfl (dv 1)) (fun C0 s0 H0 fp0=>(dD rfl (aB (aJ 0 (show List.Nodup (["x","y","m"]:List Str) by decide +kernel)) (aB (aJ 1 (show List.Nodup (["x","y","m"]:List Str) by decide +kernel)) cI)))) (fun C0 s0 H0 fp0=>iK) (fun C0 s0 H0 fp0=>(aM iJ cH (aM je fX (dv 1) (dv 0)) (dv 2))) (by decide))))
  (aa (aX (cR A0.v8 T.iB hr hp (aj (dv 2) ak)))
  ao))
theorem abo(T:Txt w K mg a)(A0:Al P w K mg base a d):Fq P w K mg base a (4*(d+1)+8) (d+1) a.yt a.Hg ["m","pairs","adds"] 13:=by
 refine(bJ (k:=4*d+11) T.yu.fn Ry rfl fun σ0 cdv A outer s H E hr hp=>?_).mono (by omega)
 exact(aa (YQ (i:=3) Ry.nd rfl (Or.inl rfl) (gJ (N':=["pair","b","number","m"]) (nt:=3) (idx:=[0]) (N:=["m","pairs","adds","places"]) (osc:=au G6) rfl rfl (by decide +kernel)) rfl Wg (V3 rfl T.Mm (aj (dv 1) (aj (dv 2) ak))) (fun C0 s0 H0 fp0=>(dD rfl (aB (aJ 0 (show List.Nodup (["pair","b","number","m"]:List Str) by decide +kernel)) (aB (aJ 1 (show List.Nodup (["pair","b","number","m"]:List Str) by decide +kernel)) cI)))) (fun C0 s0 H0 fp0=>iK) jW (fun C0 s0 H0 fp0=>(iM rfl (dv 0))) (fun C0 s0 H0 fp0=>(aJ 2 (show List.Nodup (["pair","b","number","m"]:List Str) by decide +kernel))) (fun C0 s0 H0 fp0=>iK) (fun C0 s0 H0 fp0=>(aM iJ cH (aM je fX (dv 1) (dv 2)) (dv 3))) (by decide) (by decide))
  (aa (aX (vD (cR A0.v8 T.iB hr hp (aj (dv 2) ak)) (vD (cR A0.v8 T.iB hr hp (aj (dv 3) ak)) (xV (mH (ym (K:=K)) kJ aK (dv 3) rfl)))))
  ao))
theorem KD(T:Txt w K mg a)(A0:Al P w K mg base a d):Fq P w K mg base a (4*(d+1)+8) (d+1) a.lE a.rD ["m","pairs","adds"] 14:=by
 refine(bJ (k:=4*d+11) T.jz.fn qd rfl fun σ0 cdv A outer s H E hr hp=>?_).mono (by omega)
 exact(aa (cQ (bx jg (cY hr.units) (b_ (jf (K:=K)) bh rfl T.dw boot_len (aj (dv 2) ak)) (b_ (jf (K:=K)) bh rfl T.dw boot_len (aj (dv 1) ak)) (aZ _)) (aa (aX (dv 2))
  ao) ao)
  (aa (dF PassesOwn.leaving rfl Rb (JR rfl T.bY (eY aK (aj (dv 0) ak))) (aJ 3 qd.nd)
  (aa (bF 4 qd.nd (aM gG (L2.OpR.or cG dB) (dv 2) (cZ (aj (dv 3) ak))))
  (aa (cQ (j0 (cR A0.ad9 T.yu hr hp (aj (dv 0) (aj (dv 1) (aj (dv 4) ak)))) (fun _=>rfl)) (aa (bF 5 qd.nd (cR A0.BP T.jz hr hp (aj (dv 0) (aj (dv 1) (aj (dv 4) ak)))))
  (aa (cQ (Q5 (dv 5)) (aa (aX (dv 5))
  ao) ao)
  ao)) ao)
  ao)))
  (aa (aX Nf)
  ao)))
theorem Jr(T:Txt w K mg a)(A0:Al P w K mg base a d):Fq P w K mg base a (4*(d+1)+8) (d+1) a.jM a.qg ["m","pairs"] 15:=by
 refine(bJ (k:=4*d+11) T.jP.fn Jl rfl fun σ0 cdv A outer s H E hr hp=>?_).mono (by omega)
 exact(aa (gn (cR A0.Ed T.j_ hr hp (aj (dv 0) ak)))
  (aa (aX (cR A0.BP T.jz hr hp (aj (dv 0) (aj (dv 1) (uZ (cZ ak) ak)))))
  ao))
theorem RG{a:Adr}{d:Nat}(T:Txt w K mg a)(A0:Al P w K mg base a d):Al P w K mg base a (d+1):=⟨O1 T A0,KC T A0,W9 T A0,abo T A0,KD T A0,Jr T A0⟩
theorem aar{a:Adr}(T:Txt w K mg a):∀ d,Al P w K mg base a d
 | 0=>RD
 | d+1=>RG T (aar T d)
theorem W_{a:Adr}(T:Txt w K mg a){n k:Nat}(zG:bH P w K mg base CX0 k a.mj a.rB ["numbers"] (GK n)):bH P w K mg base CX0 (k+2) a.mj a.rB ["numbers"] (GK (n+1)):=by
 refine(T.mD.fn.ok (k:=k+1) pQ (fun vs H Q E h=>?_) (fun cdv A outer s H vs Q E hr h=>?_)).mono (by omega)
 · obtain⟨_,_,rfl,_⟩:=h;rfl
 obtain⟨l,ns,rfl,hl,hn,h20,hb,q⟩:=h
 refine⟨_,(cX (Ci (Vg (Mx (pv 0) (fun _=>rfl))) (cM (pL (xX (aU (xX bG) bG)))) xW)
  (cX (qQ (i:=1) pQ.nd rfl (Or.inl rfl) (xX bG))
  (cX (Ai PassesOwn.never rfl (rQ (Ej Ij (pv 0) (Cm dz) Ih)) (rP (i:=2) pQ.nd rfl (Or.inr rfl))
    (cX (Im (i:=3) pQ.nd rfl (Or.inl rfl) (gJ (N':=["number","partner"]) (nt:=1) (idx:=[2]) (N:=["numbers","found","partner","others","rest"]) (osc:=au uN) rfl rfl (by decide +kernel)) rfl (rQ (Ej Ij (pv 0) (Cm dz) Ih)) (LC (fun _ _ _ _=>rP (i:=0) (show List.Nodup (["number","partner"]:List Str) by decide +kernel) rfl (Or.inl rfl)) (fun _ _ _ _=>Ik (rR aeD (pv 0) (pv 1) (aZ _))) (fun _ _ _ _=>(pv 0))))
    (cM (Ai PassesOwn.never rfl (rQ (Gj T.mD zG (hr.mono (by omega)) rfl (aU (pv 3) bG))) (rP (i:=4) pQ.nd rfl (Or.inl rfl))
      (cM (jH (Lr PySem.F.plainAttrs_list PySem.F.slot_list_append PySem.F.type_list_append fJ (pv 1) (aU (fW dB (xX (aU (Gb (aU (yI Cp (pv 0) dz (fun _ _=>rfl)) (aU (pv 2) bG))) bG)) (pv 4)) bG))))))))
  (cM (pL (pv 1)))))),?_⟩
 have hnz:(20:Nat)<sizeLine:=by decide
 cases ns with
 | nil=>
   refine⟨_,rfl,false,.inl ⟨_,SqL.of hl,rfl⟩,yK ?_⟩;refine⟨by show 0<=sizeLine;decide,fun e he=>⟨by show 1<=sizeLine;decide,fun r hr'=>?_⟩⟩;have ner:e ≠ r:=fun z=>by rw[z,aG]at hr';cases hr'
   have hr0:H r=none:=by rw[aN (Ne.symm ner)]at hr';exact hr'
   refine q r [e] _ hr0 ((gM he _).trans (gM hr' _)) aG (.cons ⟨[],⟨by rw[aN ner,aG];rfl,.nil⟩,by simp⟩ .nil) fun x hx=>?_;have:x=e:=by simpa using hx
   subst this
   exact⟨he,ner⟩
 | cons x t=>
   refine⟨_,rfl,true,.inl ⟨_,SqL.of hl,rfl⟩,yJ ?_⟩;refine⟨by show 0<=sizeLine;decide,fun F hF=>?_⟩;have g0:fQ H (upd H F (.lst [])):=gM hF _;refine⟨_,rfl,1,rfl,l,_,rfl,SqL.of (g0 _ _ hl),fun S hS=>?_⟩
   have eS:Am ((x::t).map V.int) (some 1) none=t.map V.int:=by
    simp[Am,HT.sIx];exact List.take_of_length_le (by simp)
   rw[eS];have g1:fQ H (upd (upd H F (.lst [])) S (.lst (t.map V.int))):=g0.trans (gM hS _);have nFS:F ≠ S:=fun z=>by rw[<- z,aG]at hS;cases hS
   refine⟨S,rfl,⟨_,SqL.of aG⟩,?_⟩
   refine yH (K:=K) (a:=S) (xs:=t.map V.int) (fun i σ H2=>∃(as:List Addr) (v2 v3 v4:Option V),σ= [some (.ref l),some (.ref F),v2,v3,v4]/\fQ H H2/\H2 S=some (.lst (t.map V.int))/\H2 F=some (.lst (as.map V.ref))/\
    LAs H H2 as ((t.take i).flatMap fun p=>(aP n (t.filter fun y=> !decide (y=p))).map fun rest=>(x,p)::rest)/\∀ z ∈ as,H z=none/\z ≠ F) ?_ ?_ ?_ ?_
   · exact⟨[],none,none,none,rfl,g1,aG,by rw[aN nFS,aG];rfl,.nil,by simp⟩
   · rintro i σ H2 _ ⟨as,v2,v3,v4,rfl,s2,hS2,hF2,la,fr⟩;exact SqL.of hS2
   · rintro i y σ H2 hi ⟨as,v2,v3,v4,rfl,s2,hS2,hF2,la,fr⟩
     obtain⟨p,hp,rfl⟩:∃ p,t[i]? =some p/\y=V.int p:=by
      rw[List.getElem?_map]at hi
      cases e:t[i]? with
      | none=>rw[e]at hi;cases hi
      | some z=>rw[e]at hi;exact⟨z,rfl,(Option.some.inj hi).symm⟩
     have hpt:p ∈ t:=List.mem_of_getElem? hp;have hl2:H2 l=some (.lst ((x::t).map V.int)):=s2 _ _ hl;have nlF:l ≠ F:=cg hl hF;refine⟨_,rfl,1,rfl,l,_,rfl,SqL.of hl2,fun S2 hS2'=>⟨S2,rfl,⟨_,SqL.of aG⟩,fun D hD=>?_⟩⟩;rw[eS]at hD ⊢;have af6:S2 ≠ D:=fun z=>by rw[<- z,aG]at hD;cases hD
     refine QV (K:=K) (a:=S2) (xs:=t.map V.int) (fun j H3=>H3=upd (upd H2 S2 (.lst (t.map V.int))) D (.lst (((t.take j).filter fun y=> !decide (y=p)).map V.int))) rfl ?_ ?_ ?_
     · rintro j H3 _ rfl;exact SqL.of (by rw[aN af6,aG])
     · rintro j y H3 hj rfl
       obtain⟨z,hz,rfl⟩:∃ z,t[j]? =some z/\y=V.int z:=by
        rw[List.getElem?_map]at hj
        cases e:t[j]? with
        | none=>rw[e]at hj;cases hj
        | some z=>rw[e]at hj;exact⟨z,rfl,(Option.some.inj hj).symm⟩
       have etk:t.take (j+1)=t.take j ++ [z]:=by rw[List.take_add_one,hz];rfl
       refine⟨⟨rfl,trivial⟩,_,rfl,_,rfl,rfl,_,rfl,?_⟩
       have ez:decide (V.int z=V.int p)=decide (z=p):=by
        by_cases c:z=p
        · rw[c];simp
        · rw[decide_eq_false c,decide_eq_false (fun q=>c (by injection q))]
       rw[ez]
       by_cases c:z=p
       · rw[decide_eq_true c];refine yJ ?_;rw[etk,List.filter_append];simp[c]
       · rw[decide_eq_false c];refine yK ?_;refine⟨_,rfl,_,aG,?_,?_⟩
         · rw[List.length_map];have h1:=List.length_filter_le (fun y=> !decide (y=p)) (t.take j);have h2:(t.take j).length<=t.length:=by rw[List.length_take];omega
           have h3:t.length+1<=20:=by simpa using h20
           omega
         · rw[aaw,etk,List.filter_append];simp[c]
     · rintro H3 rfl;rw[List.length_map,List.take_length];generalize hsub:(t.filter fun y=> !decide (y=p))=sub;have hsl:sub.length<=t.length:=by rw[<- hsub];exact List.length_filter_le _ _
       have h3:t.length+1<=20:=by simpa using h20
       have hn':t.length+1<n+1:=by simpa using hn
       have nF:∀ {b:Addr} {o:HO} {o':HO},H2 b=some o->upd (upd H2 S2 (.lst (t.map V.int))) D o' b=some o:=fun {b o o'} e=>by
        have n1:b ≠ S2:=cg e hS2'
        have n2:b ≠ D:=fun z=>by
         rw[z]at e;have:upd H2 S2 (.lst (t.map V.int)) D=none:=hD;rw[aN (fun q=>by rw[q,hS2']at e;cases e),e]at this;cases this
        rw[aN n2,aN n1];exact e
       have s3:fQ H2 (upd (upd H2 S2 (.lst (t.map V.int))) D (.lst (sub.map V.int))):=fun b o e=>nF e;generalize hH3:upd (upd H2 S2 (.lst (t.map V.int))) D (.lst (sub.map V.int))=H3 at s3;have hD3:H3 D=some (.lst (sub.map V.int)):=by rw[<- hH3];exact aG
       refine⟨_,rfl,D,sub,rfl,hD3,by omega,by omega,?_,fun r2 as2 H4 hr2 s4 hr4 la2 fr2=>?_⟩
       · rw[<- hsub];exact Nat.le_trans (adA hpt) hb
       refine⟨r2,rfl,⟨_,SqL.of hr4⟩,?_⟩;have s24:fQ H2 H4:=s3.trans s4;have la2:LAs H H4 as2 (aP n sub):=la2.old (fQ.free (s2.trans s3));have hF3:H3 F=some (.lst (as.map V.ref)):=s3 _ _ hF2
       have tot:((t.take i).flatMap fun p=>(aP n (t.filter fun y=> !decide (y=p))).map fun rest=>(x,p)::rest).length+(aP n sub).length<=100000:=by
        have e1:(t.take (i+1)).flatMap (fun p=>(aP n (t.filter fun y=> !decide (y=p))).map fun rest=>(x,p)::rest)=(t.take i).flatMap (fun p=>(aP n (t.filter fun y=> !decide (y=p))).map fun rest=>(x,p)::rest)++(aP n sub).map fun rest=>(x,p)::rest:=by
         rw[List.take_add_one,hp,List.flatMap_append,<- hsub];simp
        have e2:((t.take (i+1)).flatMap fun p=>(aP n (t.filter fun y=> !decide (y=p))).map fun rest=>(x,p)::rest).length<=(aP (n+1) (x::t)).length:=by
         exact Wx (fun p=>(aP n (t.filter fun y=> !decide (y=p))).map fun rest=>(x,p)::rest) t (i+1)
        rw[e1,List.length_append,List.length_map]at e2;exact Nat.le_trans e2 hb
       have laL:=la.length
       have etk:(t.take (i+1)).flatMap (fun p=>(aP n (t.filter fun y=> !decide (y=p))).map fun rest=>(x,p)::rest)=(t.take i).flatMap (fun p=>(aP n (t.filter fun y=> !decide (y=p))).map fun rest=>(x,p)::rest)++(aP n sub).map fun rest=>(x,p)::rest:=by
        rw[List.take_add_one,hp,List.flatMap_append,<- hsub];simp
       generalize hdone:((t.take i).flatMap fun p=>(aP n (t.filter fun y=> !decide (y=p))).map fun rest=>(x,p)::rest)=done at la tot etk laL
       have fr4:∀ z ∈ as2,z ≠ F:=fun z hz e=>by
        have:=(fr2 z hz).1;rw[e,hF3]at this;cases this
       have hSF:S ≠ F:=Ne.symm nFS;have af7:r2 ≠ F:=fun e=>by rw[e,hF3]at hr2;cases hr2
       refine yH (K:=K) (a:=r2) (xs:=as2.map V.ref) (fun j σ H5=>∃(as':List Addr) (v4:Option V),σ= [some (.ref l),some (.ref F),some (.int p),some (.ref D),v4]/\fQ H H5/\H5 S=some (.lst (t.map V.int))/\H5 F=some (.lst (as'.map V.ref))/\
        LAs H H5 as' (done++((aP n sub).take j).map fun rest=>(x,p)::rest)/\(∀ z ∈ as',H z=none/\z ≠ F)/\H5 r2=some (.lst (as2.map V.ref))/\LAs H H5 as2 (aP n sub)) ?_ ?_ ?_ ?_
       · exact⟨as,_,rfl,s2.trans s24,s24 _ _ hS2,s24 _ _ hF2,by simpa using la.same s24,fr,hr4,la2⟩
       · rintro j σ H5 _ ⟨as',v4',rfl,s5,hS5,hF5,la5,fr5,hr5,lb5⟩;exact SqL.of hr5
       · rintro j y σ H5 hj ⟨as',v4',rfl,s5,hS5,hF5,la5,fr5,hr5,lb5⟩
         obtain⟨a2,ha2,rfl⟩:∃ z,as2[j]? =some z/\y=V.ref z:=by
          rw[List.getElem?_map]at hj
          cases e:as2[j]? with
          | none=>rw[e]at hj;cases hj
          | some z=>rw[e]at hj;exact⟨z,rfl,(Option.some.inj hj).symm⟩
         obtain⟨ps,hps,pa⟩:=Paired.Fd lb5 ha2;obtain⟨bs,⟨hbs,rbs⟩,nbs⟩:=pa;have agx:a2 ≠ F:=fr4 a2 (List.mem_of_getElem? ha2);have hl5:H5 l=some (.lst ((x::t).map V.int)):=s5 _ _ hl;have af8:=la5.length;have hjl:j<(aP n sub).length:=(a_ hps).1;have sz:sizeLine=16777216:=sizeLine_eq;refine⟨_,rfl,.inl ⟨rfl,_,SqL.of hF5⟩,_,rfl,l,_,_,_,rfl,rfl,SqL.of hl5,QF (j:=0) rfl,_,rfl,by show 2<=sizeLine;decide,fun T1 hT=>⟨by show 1<=sizeLine;decide,fun L1 hL1=>?_⟩⟩;have q1:fQ H5 (upd H5 T1 (.tup [.int x,.int p])):=gM hT _;have q2:fQ H5 (upd (upd H5 T1 (.tup [.int x,.int p])) L1 (.lst [.ref T1])):=q1.trans (gM hL1 _);have bl:bs.length=ps.length:=rbs.length;refine⟨_,rfl,L1,a2,_,_,rfl,rfl,aG,q2 _ _ hbs,?_,fun L2 hL2=>?_⟩
         · show 1+(bs.map V.ref).length<=sizeLine;rw[List.length_map,bl,sz];have:=pairs_len (List.mem_of_getElem? hps);omega
         have q3:fQ H5 (upd (upd (upd H5 T1 (.tup [.int x,.int p])) L1 (.lst [.ref T1])) L2 (.lst ([V.ref T1]++bs.map V.ref))):=q2.trans (gM hL2 _);refine⟨F,_,_,rfl,rfl,q3 _ _ hF5,?_,?_⟩
         · rw[List.length_map,sz];rw[List.length_append,List.length_map,List.length_take]at af8;omega
         have ad_:L2 ≠ F:=fun e=>by rw[e,q2 _ _ hF5]at hL2;cases hL2
         have af9:H L2=none:=by
          cases z:H L2 with
          | none=>rfl
          | some u=>rw[q2 _ _ (s5 _ _ z)]at hL2;cases hL2
         have nT1:T1 ≠ L1:=fun e=>by rw[<- e,aG]at hL1;cases hL1
         have nT2:T1 ≠ L2:=fun e=>by rw[<- e,aN nT1,aG]at hL2;cases hL2
         have hT3:upd (upd (upd H5 T1 (.tup [.int x,.int p])) L1 (.lst [.ref T1])) L2 (.lst ([V.ref T1]++bs.map V.ref)) T1=some (.tup [.int x,.int p]):=by rw[aN nT2,aN nT1,aG]
         have hT0:H T1=none:=fQ.free s5 _ hT
         have paN:Lp H (upd (upd (upd H5 T1 (.tup [.int x,.int p])) L1 (.lst [.ref T1])) L2 (.lst ([V.ref T1]++bs.map V.ref))) L2 ((x,p)::ps):=⟨T1::bs,⟨aG,.cons hT3 (Paired.pA rbs fun _ _ e=>q3 _ _ e)⟩,fun b hb=>by
          rcases List.mem_cons.mp hb with rfl | hb
          · exact hT0
          · exact nbs b hb⟩
         generalize hH6:upd (upd (upd H5 T1 (.tup [.int x,.int p])) L1 (.lst [.ref T1])) L2 (.lst ([V.ref T1]++bs.map V.ref))=H6 at q3 paN;have hF6:=q3 _ _ hF5;have Gp:∀ {b:Addr} {o:HO},b ≠ F->H6 b=some o->upd H6 F (.lst (as'.map V.ref ++ [V.ref L2])) b=some o:=fun nb e=>by rw[aN nb];exact e
         refine⟨as' ++ [L2],_,rfl,fun b o e=>Gp (cg e hF) (q3 _ _ (s5 _ _ e)),Gp hSF (q3 _ _ hS5),by rw[aG,List.map_append];rfl,?_,?_,Gp af7 (q3 _ _ hr5),(lb5.same q3).put hF6 fr4⟩
         · have etk:(aP n sub).take (j+1)=(aP n sub).take j ++ [ps]:=by rw[List.take_add_one,hps];rfl
           rw[etk,List.map_append,<- List.append_assoc];exact Paired.TJ (paN.put ad_ hF6) ((la5.same q3).put hF6 fun z hz=>(fr5 z hz).2)
         · intro z hz
           rcases List.mem_append.mp hz with hz | hz
           · exact fr5 z hz
           · have:z=L2:=by simpa using hz
             subst this;exact⟨af9,ad_⟩
       · rintro σ H5 ⟨as',v4',rfl,s5,hS5,hF5,la5,fr5,hr5,lb5⟩;rw[List.length_map,lb5.length,List.take_length]at la5;exact⟨as',_,_,_,rfl,s5,hS5,hF5,by rw[etk];exact la5,fr5⟩
   · rintro σ H2 ⟨as,v2,v3,v4,rfl,s2,hS2,hF2,la,fr⟩;rw[List.length_map,List.take_length]at la;exact⟨_,rfl,q F as H2 hF s2 hF2 la fr⟩
theorem RJ{a:Adr}(T:Txt w K mg a):∀ n,bH P w K mg base CX0 (2*n+2) a.mj a.rB ["numbers"] (GK n)
 | 0=>by
   have no:∀ vs H Q E,¬ GK 0 vs H Q E:=fun vs H Q E ⟨_,_,_,_,h,_⟩=>absurd h (Nat.not_lt_zero _)
   exact⟨fun vs H Q E h=>absurd h (no vs H Q E),fun A outer s H args us vs Q E _ _ _ _ h=>absurd h (no vs H Q E)⟩
 | n+1=>W_ T (RJ T n)
theorem Uz{X:Cx}{x:Str}{st:Stmt}{ps:List Str}{f:Addr}{fd:FuncData}{k:Nat}{sp:Sp}{e:Expr}{es:List Expr}{t:TA}{p pos:Pos}(D:Df X.K X.mg x st ps f fd)(F:bH X.prog X.w X.K X.mg X.base (CXE X.prog X.w) k f fd ps sp)(hr:bZ k X.A)(hg:Gl X x)(ha:L2.PA X (e::es) t)(hdb:(x==("__debug__":Str))=false:=by decide)
 (he:starEach (e::es) X.env=(false,eval e X.env)::starEach es X.env:=by rfl) (hpl:(backTo pos (starEach es X.env)).any (·.1)=false:=by rfl):
 PE X (.Call (.Name x p) (e::es) [] pos) (Ck sp [] E0 t):=xY F hr hg D.mg D.fn.kp D.bd .nil (fun _ _ _ _ _ _ _ h=>(El h).elim) ha hdb he hpl
def upTo(m:Nat):List Int:=(List.range (m - 1)).map fun(k:Nat)=>1+(k:Int)
structure Hr (cl:Cn)(d m:Nat)(good:List (Int × Int)->Bool):Prop where
 lt:m<12
 ge:1<=m
 few:(aP 11 (upTo m)).length<=100000
 need:∃ n h',evs Pg n d (.call 10 [.int m]) [] (heapOf [])= .ok (.w .non) h'/\h'.n=0
 dif:∀ ps ∈ aP 11 (upTo m),ps.Nodup/\∃ n h',evs Pg n d (.call 12 [.int m,.ref 0]) [] (heapOf (psO ps))= .ok (.w (.bl (good ps))) h'/\uK (psO ps) h'=true
def af_(cl:Cn)(m:Nat)(good:List (Int × Int)->Bool):Sp:=fun vs H Q _=>vs= [.int m]/\Tb cl H/\
 ∀(r:Addr) (as:List Addr) (H':Hp),H r=none->c7 cl H H'->H' r=some (.lst (as.map V.ref))->LAs H H' as ((aP 11 (upTo m)).filter good)->(∀ x ∈ as,H x=none/\x ≠ r)->Q (.ref r) H'
theorem aga{cl:Cn}{d f:Nat}{m:Int}{H:Hp}{Q:VK}{E:XK}{n:Nat}{r:W}{h':Hs}(t:Tb cl H)(e:evs Pg n d (.call f [.int m]) [] (heapOf [])= .ok (.w r) h')(z:h'.n=0)(q:∀ H' v,c7 cl H H'->RW [] r v->Q v H'):spF Pg cl d f [.int m] H Q E:=by
 refine⟨[],[.int m],heapOf [],n,Rm t rfl List.nodup_nil (fun k a o h=>by simp at h),.cons (.int m) .nil,?_⟩;rw[e];intro ρ' H' b s';have:ρ'= []:=List.length_eq_zero_iff.mp (s'.len.trans z);subst this;refine⟨r,rfl,fun v hv=>q H' v ⟨fun c u e=>?_,fun _=>s'.tb⟩ hv⟩;exact(b.2 c u e (by simp)).2
theorem UG{a:Adr}{d m:Nat}{good:List (Int × Int)->Bool}(T:Txt w K mg a)(A0:Al P w K mg base a d)(R:Hr (cn a) d m good):bH P w K mg base CX0 (4*d+34) a.rC a.zF ["m"] (af_ (cn a) m good):=by
 have zG:=RJ (P:=P) (w:=w) (K:=K) (mg:=mg) (base:=base) T 11;refine(T.o7.fn.ok (k:=4*d+33) Qg (fun vs H Q E h=>?_) (fun cdv A outer s H vs Q E hr h=>?_)).mono (by omega)
 · obtain⟨rfl,_⟩:=h;rfl
 obtain⟨rfl,tb,q⟩:=h
 refine⟨_,(cX (jH (Uz T.j_ A0.Ed (hr.mono (by omega)) rfl (aU (pv 0) bG)))
  (cM (pL (Il (gJ (N':=["pairs","m"]) (nt:=1) (idx:=[0]) (N:=["m"]) (osc:=au uO) rfl rfl (by decide +kernel)) rfl (rQ (Gj T.mD zG (hr.mono (by omega)) rfl (aU (wG (Tz hr.hd) rfl T.yx rfl (aU (wG Tw rfl T.bY boot_range (aU dz (aU (pv 0) bG))) bG)) bG))) (LC (fun _ _ _ _=>rP (i:=0) (show List.Nodup (["pairs","m"]:List Str) by decide +kernel) rfl (Or.inl rfl)) (fun _ _ _ _=>Ik (abU (Uz T.sV A0.Zk (hr.mono (by omega)) rfl (aU (pv 1) (aU (pv 0) bG))))) (fun _ _ _ _=>(pv 0))))))),?_⟩
 obtain⟨n0,h0,e0,z0⟩:=R.need;refine⟨_,rfl,aga tb e0 z0 fun H1 v1 s1 rv=>?_⟩;have hm1:=R.lt;have hm2:=R.ge;refine⟨_,rfl,1,m,rfl,fun l hl=>⟨l,1,m,rfl,aG,by omega,by omega,by omega,by omega,fun L hL=>?_⟩⟩
 have eL:Ay ((m:Int) - 1).toNat 1=(upTo m).map V.int:=by
  rw[show((m:Int) - 1).toNat=m - 1 by omega];simp[Ay,upTo]
 rw[eL];have lu:(upTo m).length=m - 1:=by simp[upTo]
 have s3:c7 (cn a) H (upd (upd H1 l (.ext (GJ l 1 m))) L (.lst ((upTo m).map V.int))):=s1.trans (c7.of ((gM hl _).trans (gM hL _)));refine⟨L,upTo m,rfl,aG,by omega,by omega,R.few,fun r2 as2 H4 hr2 s4 hr4 la2 fr2=>?_⟩;generalize hH3:upd (upd H1 l (.ext (GJ l 1 m))) L (.lst ((upTo m).map V.int))=H3 at s3 hr2 s4 la2 fr2;have s04:c7 (cn a) H H4:=s3.trans (c7.of s4);have la2:LAs H H4 as2 (aP 11 (upTo m)):=la2.old fun b e=>s3.free e;have tb4:=s04.2 tb;refine⟨r2,rfl,⟨_,SqL.of hr4⟩,fun D hD=>?_⟩;have nr2:r2 ≠ D:=cg hr4 hD
 have nas:∀ z ∈ as2,z ≠ D:=fun z hz e=>by
  obtain⟨i,hi⟩:=List.getElem?_of_mem hz;obtain⟨ps,_,bs,⟨h1,_⟩,_⟩:=Paired.Fd la2 hi;rw[e,hD]at h1;cases h1
 refine QV (K:=K) (a:=r2) (xs:=as2.map V.ref) (fun i H5=>∃ as:List Addr,c7 (cn a) H4 H5/\H5 D=some (.lst (as.map V.ref))/\LAs H H5 as (((aP 11 (upTo m)).take i).filter good)/\(∀ z ∈ as,z ∈ as2)/\LAs H H5 as2 (aP 11 (upTo m))/\H5 r2=some (.lst (as2.map V.ref))) ?_ ?_ ?_ ?_
 · exact⟨[],c7.of (gM hD _),by rw[aG];rfl,.nil,by simp,la2.same (gM hD _),by rw[aN nr2];exact hr4⟩
 · rintro i H5 _ ⟨as,s5,hD5,la5,fr5,lb5,hr5⟩;exact SqL.of hr5
 · rintro i y H5 hi ⟨as,s5,hD5,la5,fr5,lb5,hr5⟩
   obtain⟨a2,ha2,rfl⟩:∃ z,as2[i]? =some z/\y=V.ref z:=by
    rw[List.getElem?_map]at hi
    cases e:as2[i]? with
    | none=>rw[e]at hi;cases hi
    | some z=>rw[e]at hi;exact⟨z,rfl,(Option.some.inj hi).symm⟩
   obtain⟨ps,hps,bs,pa,nbs⟩:=Paired.Fd lb5 ha2;obtain⟨nd,n1,h1,e1,k1⟩:=R.dif ps (List.mem_of_getElem? hps);have tb5:=s5.2 tb4;have etk:(aP 11 (upTo m)).take (i+1)=(aP 11 (upTo m)).take i ++ [ps]:=by rw[List.take_add_one,hps];rfl
   have hil:i<(aP 11 (upTo m)).length:=(a_ hps).1;refine⟨⟨rfl,trivial⟩,_,rfl,_,rfl,pa.call nd tb5 e1 k1 fun ρ' H6 v hp hn s' s6 rv=>?_⟩;have s46:=s5.trans s6;have tb6:=s6.2 tb5;cases rv;refine⟨_,rfl,?_⟩;have hD6:=s6.at tb5 (fun _ z=>by cases z) hD5;have hr6:=s6.at tb5 (fun _ z=>by cases z) hr5;have la6:=la5.GP s6 tb5;have lb6:=lb5.GP s6 tb5
   cases hg:good ps with
   | false=>
     refine yJ ⟨as,s46,hD6,?_,fr5,lb6,hr6⟩;rw[etk,List.filter_append]
     simpa [hg] using la6
   | true=>
     refine yK ?_
     have pa6:Lp H H6 a2 ps:=by
      obtain⟨p',hp',x⟩:=Paired.Fd lb6 ha2;rw[hps]at hp';cases hp';exact x
     have na2:=nas a2 (List.mem_of_getElem? ha2);refine⟨_,rfl,_,hD6,?_,as ++ [a2],s46.put tb6 hD hD6,by rw[aG,List.map_append];rfl,?_,?_,lb6.put hD6 nas,by rw[aN nr2];exact hr6⟩
     · have:=la5.length;have h2:=List.length_filter_le good ((aP 11 (upTo m)).take i);have h3:=R.few;rw[List.length_take]at h2;rw[List.length_map,sizeLine_eq];omega
     · rw[etk,List.filter_append];have:([ps].filter good)= [ps]:=by simp[hg]
       rw[this];exact Paired.TJ (pa6.put na2 hD6) (la6.put hD6 fun z hz=>nas z (fr5 z hz))
     · intro z hz
       rcases List.mem_append.mp hz with hz | hz
       · exact fr5 z hz
       · have:z=a2:=by simpa using hz
         rw[this];exact List.mem_of_getElem? ha2
 · rintro H5 ⟨as,s5,hD5,la5,fr5,lb5,hr5⟩;rw[List.length_map,lb5.length,List.take_length]at la5;refine q D as H5 (s04.free hD) (s04.trans s5) hD5 la5 fun z hz=>⟨s3.free (fr2 z (fr5 z hz)).1,nas z (fr5 z hz)⟩
theorem aea{X:Cx}{ss:List Stmt}:PSs X ss (fun _ _ _=>False):=fun _ _ _ _ _ _ h=>h.elim
structure O2 (cl:Cn)(d m:Nat)(ps:List (Int × Int))(adds:List Int):Prop where
 st:∃ good pre post,Hr cl d m good/\(aP 11 (upTo m)).filter good=pre++ps::post/\
  ∀ x ∈ pre,x.Nodup/\∃ n h',evs Pg n d (.call 15 [.int m,.ref 0]) [] (heapOf (psO x))= .ok (.w .non) h'/\uK (psO x) h'=true
 nd:ps.Nodup
 yes:∃ n k h',evs Pg n d (.call 15 [.int m,.ref 0]) [] (heapOf (psO ps))= .ok (.w (.ref k)) h'/\uK (psO ps) h'=true/\ps.length<k/\h'.get k=some (.lst (adds.map W.int))
theorem RK{ρ:List Addr}:∀ {xs:List Int} {vs:List V},RWs ρ (xs.map W.int) vs->vs=xs.map V.int
 | [],_,.nil=>rfl
 | x::xs,_,.cons (.int _) t=>by rw[RK t];rfl
theorem Xa{a:Adr}{d:Nat}{tbl:Nat->Option (List (Int × Int) × List Int)}(T:Txt w K mg a)(A0:Al P w K mg base a d)(R:∀ m ps adds,tbl m=some (ps,adds)->O2 (cn a) d m ps adds):bH P w K mg base CX0 (4*d+36) a.qG a.wO ["m"] (I_ (cn a) tbl):=by
 refine(T.lU.fn.ok (k:=4*d+35) zp (fun vs H Q E h=>?_) (fun cdv A outer s H vs Q E hr h=>?_)).mono (by omega)
 · obtain⟨_,_,_,rfl,_⟩:=h;rfl
 obtain⟨m,ps,adds,rfl,hR,tb,q⟩:=h;obtain⟨⟨good,pre,post,RS,ef,no⟩,nd,n9,k9,h9,e9,kq9,lk9,g9⟩:=R m ps adds hR;have UJ:=UG (P:=P) (w:=w) (K:=K) (mg:=mg) (base:=base) T A0 RS
 refine⟨_,(cX (Ai PassesOwn.never rfl (rQ (Gj T.o7 UJ (hr.mono (by omega)) rfl (aU (pv 0) bG))) (rP (i:=1) zp.nd rfl (Or.inl rfl))
  (cX (qQ (i:=2) zp.nd rfl (Or.inl rfl) (Uz T.jP A0.Kz (hr.mono (by omega)) rfl (aU (pv 0) (aU (pv 1) bG))))
  (cM (Ci (Mu (Qx (pv 2))) (cM (pL (Gb (aU (pv 1) (aU (pv 2) bG))))) xW))))
  aea),?_⟩
 refine⟨_,rfl,rfl,tb,fun r as H1 hr0 s1 hr1 la1 fr1=>?_⟩;rw[ef]at la1;have tb1:=s1.2 tb;refine⟨r,rfl,⟨_,SqL.of hr1⟩,?_⟩;refine yH (K:=K) (a:=r) (xs:=as.map V.ref) (fun i σ H5=>i<=pre.length/\∃ v1 v2:Option V,σ= [some (.int (m:Nat)),v1,v2]/\c7 (cn a) H1 H5) ?_ ?_ ?_ ?_
 · exact⟨Nat.zero_le _,none,none,rfl,c7.of (fun _ _ e=>e)⟩
 · rintro i σ H5 _ ⟨_,v1,v2,rfl,s5⟩;exact SqL.of (s5.at tb1 (fun _ z=>by cases z) hr1)
 · rintro i y σ H5 hi ⟨hip,v1,v2,rfl,s5⟩
   obtain⟨a2,ha2,rfl⟩:∃ z,as[i]? =some z/\y=V.ref z:=by
    rw[List.getElem?_map]at hi
    cases e:as[i]? with
    | none=>rw[e]at hi;cases hi
    | some z=>rw[e]at hi;exact⟨z,rfl,(Option.some.inj hi).symm⟩
   have tb5:=s5.2 tb1;obtain⟨x,hx,bs,pa,nbs⟩:=Paired.Fd (la1.GP s5 tb1) ha2
   rcases Nat.lt_or_eq_of_le hip with hlt | rfl
   · rw[List.getElem?_append_left hlt]at hx;obtain⟨ndx,n1,h1,e1,k1⟩:=no x (List.mem_of_getElem? hx);refine⟨_,rfl,_,rfl,pa.call ndx tb5 e1 k1 fun ρ' H6 v hp hn s' s6 rv=>?_⟩;cases rv;refine⟨_,rfl,_,rfl,?_⟩;exact⟨hlt,_,_,rfl,s5.trans s6⟩
   · have hx':x=ps:=by
      rw[List.getElem?_append_right (az _)]at hx;simpa using hx.symm
     subst hx';refine⟨_,rfl,_,rfl,pa.call nd tb5 e9 kq9 fun ρ' H6 v hp hn s' s6 rv=>?_⟩
     cases rv with
     | @ref _ b hb=>
     have bl:bs.length=x.length:=pa.2.length
     have hbn:b ∉ a2::bs:=fun z=>by
      obtain⟨j,hj⟩:=List.getElem?_of_mem z;have hjl:j<(a2::bs).length:=(a_ hj).1;have h2:=iI hp hj;have:=(List.getElem?_inj (a_ hb).1 s'.nd).mp (hb.trans h2.symm);rw[List.length_cons,bl]at hjl;omega
     have s15:=s1.trans s5;have s16:=s15.trans s6;have tb6:=s6.2 tb5;have hb0:H b=none:=s15.free (hn b (List.mem_of_getElem? hb) hbn);obtain⟨vs,rw6,hb6⟩:=s'.at hb g9;rw[RK rw6]at hb6;have pa6:PsA H6 a2 bs x:=⟨s6.at tb5 (fun _ z=>by cases z) pa.1,Paired.pA pa.2 fun _ _ e=>s6.at tb5 (fun _ z=>by cases z) e⟩;refine⟨_,rfl,_,rfl,?_⟩;refine⟨_,rfl,_,rfl,by show 2<=sizeLine;decide,fun R' hR'=>?_⟩;have sN:=gM hR' (.tup [.ref a2,.ref b]);refine q R' a2 b bs _ ?_ ?_ (s16.trans (c7.of sN)) aG ⟨sN _ _ pa6.1,Paired.pA pa6.2 fun _ _ e=>sN _ _ e⟩ (sN _ _ hb6)
     · have h1:=pa6.nd nd;refine List.nodup_append.mpr ⟨h1,?_,fun c hc e he z=>?_⟩
       · rw[List.nodup_cons];refine⟨fun z=>?_,by simp⟩;have:b=R':=by simpa using z
         rw[<- this,hb6]at hR';cases hR'
       · subst z
         rcases List.mem_cons.mp he with rfl | he
         · exact hbn hc
         · have:c=R':=by simpa using he
           subst this
           rcases List.mem_cons.mp hc with rfl | hc
           · rw[pa6.1]at hR';cases hR'
           · obtain⟨j,hj⟩:=List.getElem?_of_mem hc;obtain⟨_,_,e⟩:=Paired.Fd pa6.2 hj;rw[e]at hR';cases hR'
     · intro c hc
       rcases List.mem_append.mp hc with hc | hc
       · rcases List.mem_cons.mp hc with rfl | hc
         · exact(fr1 _ (List.mem_of_getElem? ha2)).1
         · exact nbs c hc
       · rcases List.mem_cons.mp hc with rfl | hc
         · exact hb0
         · have:c=R':=by simpa using hc
           rw[this];exact s16.free hR'
 · rintro σ H5 ⟨hle,_⟩;rw[List.length_map,la1.length,List.length_append,List.length_cons]at hle;omega
def o_(m:Nat)(ps:List (Int × Int)):Bool:=decide ((ps.map (fun p=>(p.1 - p.2) % (m:Int))++ps.map fun p=>(p.2 - p.1) % (m:Int)).Nodup)
def aeb(m:Nat)(ps:List (Int × Int)):Ev.R A->Bool
 | .ok (.w (.bl b)) h=>(b==o_ m ps)&&uK (psO ps) h
 | _=>false
def O4(m:Nat)(ps:List (Int × Int)):Bool:=decide ps.Nodup&&aeb m ps (evs Pg 60 10 (.call 12 [.int m,.ref 0]) [] (heapOf (psO ps)))
def noR(ps:List (Int × Int)):Ev.R A->Bool
 | .ok (.w .non) h=>uK (psO ps) h
 | _=>false
def noQ(m:Nat)(ps:List (Int × Int)):Bool:=decide ps.Nodup&&noR ps (evs Pg 200 10 (.call 15 [.int m,.ref 0]) [] (heapOf (psO ps)))
def aec(ps:List (Int × Int))(adds:List Int):Ev.R A->Bool
 | .ok (.w (.ref k)) h=>uK (psO ps) h&&(decide (ps.length<k)&&decide (h.get k=some (.lst (adds.map W.int))))
 | _=>false
def O5(m:Nat)(ps:List (Int × Int))(adds:List Int):Bool:=decide ps.Nodup&&aec ps adds (evs Pg 200 10 (.call 15 [.int m,.ref 0]) [] (heapOf (psO ps)))
def Ht:Ev.R A->Bool
 | .ok (.w .non) h=>decide (h.n=0)
 | _=>false
theorem g7:(aP 11 (upTo 7)).all (O4 7)=true:=by decide +kernel
theorem g9:(aP 11 (upTo 9)).all (O4 9)=true:=by decide +kernel
theorem g11:(aP 11 (upTo 11)).all (O4 11)=true:=by decide +kernel
theorem y7:O5 7 [(1,3),(2,6),(4,5)] [2,4,1] =true:=by decide +kernel
theorem y9:O5 9 [(1,2),(3,7),(4,6),(5,8)] [5,4,2,7] =true:=by decide +kernel
theorem y11:O5 11 [(1,2),(3,6),(4,8),(5,10),(7,9)] [3,9,1,4,5] =true:=by decide +kernel
theorem p7:((aP 11 (upTo 7)).filter (o_ 7)).take 1= [] ++ [[(1,3),(2,6),(4,5)]]:=by decide +kernel
theorem p9:((aP 11 (upTo 9)).filter (o_ 9)).take 2=((aP 11 (upTo 9)).filter (o_ 9)).take 1 ++ [[(1,2),(3,7),(4,6),(5,8)]]:=by decide +kernel
theorem q9:(((aP 11 (upTo 9)).filter (o_ 9)).take 1).all (noQ 9)=true:=by decide +kernel
theorem p11:((aP 11 (upTo 11)).filter (o_ 11)).take 1= [] ++ [[(1,2),(3,6),(4,8),(5,10),(7,9)]]:=by decide +kernel
theorem n7:Ht (evs Pg 60 10 (.call 10 [.int (7:Nat)]) [] (heapOf []))=true:=by decide +kernel
theorem n9:Ht (evs Pg 60 10 (.call 10 [.int (9:Nat)]) [] (heapOf []))=true:=by decide +kernel
theorem n11:Ht (evs Pg 60 10 (.call 10 [.int (11:Nat)]) [] (heapOf []))=true:=by decide +kernel
theorem agb:(aP 11 (upTo 7)).length<=100000:=by decide +kernel
theorem agc:(aP 11 (upTo 9)).length<=100000:=by decide +kernel
theorem afo:(aP 11 (upTo 11)).length<=100000:=by decide +kernel
theorem UL{cl:Cn}{m:Nat}(h1:m<12)(h2:1<=m)(few:(aP 11 (upTo m)).length<=100000)(nr:Ht (evs Pg 60 10 (.call 10 [.int m]) [] (heapOf []))=true)(g:(aP 11 (upTo m)).all (O4 m)=true):Hr cl 10 m (o_ m) where
 lt:=h1
 ge:=h2
 few:=few
 need:=by
  generalize e:evs Pg 60 10 (.call 10 [.int m]) [] (heapOf [])=r at nr;unfold Ht at nr
  split at nr
  · exact⟨60,_,e,of_decide_eq_true nr⟩
  · cases nr
 dif:=fun ps hps=>by
  have q:=List.all_eq_true.mp g ps hps;unfold O4 at q;rw[Bool.and_eq_true]at q;obtain⟨q1,q2⟩:=q;refine⟨of_decide_eq_true q1,60,?_⟩;generalize evs Pg 60 10 (.call 12 [.int m,.ref 0]) [] (heapOf (psO ps))=r at q2;unfold aeb at q2
  split at q2
  · rename_i b h;rw[Bool.and_eq_true]at q2;have:b=o_ m ps:=by simpa using q2.1
    exact⟨h,by rw[this],q2.2⟩
  · cases q2
theorem UT{cl:Cn}{m j:Nat}{ps:List (Int × Int)}{adds:List Int}{pre:List (List (Int × Int))}(S:Hr cl 10 m (o_ m))(e:((aP 11 (upTo m)).filter (o_ m)).take j=pre ++ [ps])(n:pre.all (noQ m)=true)(y:O5 m ps adds=true):O2 cl 10 m ps adds:=by
 unfold O5 at y;rw[Bool.and_eq_true]at y;obtain⟨y1,y2⟩:=y;refine⟨⟨_,pre,((aP 11 (upTo m)).filter (o_ m)).drop j,S,?_,fun x hx=>?_⟩,of_decide_eq_true y1,?_⟩
 · rw[show pre++ps::((aP 11 (upTo m)).filter (o_ m)).drop j=(pre ++ [ps])++((aP 11 (upTo m)).filter (o_ m)).drop j by simp,<- e,List.take_append_drop]
 · have q:=List.all_eq_true.mp n x hx;unfold noQ at q;rw[Bool.and_eq_true]at q;obtain⟨q1,q2⟩:=q;refine⟨of_decide_eq_true q1,200,?_⟩;generalize evs Pg 200 10 (.call 15 [.int m,.ref 0]) [] (heapOf (psO x))=r at q2;unfold noR at q2
   split at q2
   · exact⟨_,rfl,q2⟩
   · cases q2
 · refine⟨200,?_⟩;generalize evs Pg 200 10 (.call 15 [.int m,.ref 0]) [] (heapOf (psO ps))=r at y2;unfold aec at y2
   split at y2
   · rename_i k h;rw[Bool.and_eq_true,Bool.and_eq_true]at y2;exact⟨k,h,rfl,y2.1,of_decide_eq_true y2.2.1,of_decide_eq_true y2.2.2⟩
   · cases y2
theorem plr{cl:Cn}(m:Nat)(ps:List (Int × Int))(adds:List Int)(h:TQ m=some (ps,adds)):O2 cl 10 m ps adds:=by
 unfold TQ at h
 split at h
 · cases h;exact UT (UL (by decide) (by decide) agb n7 g7) p7 rfl y7
 · cases h;exact UT (UL (by decide) (by decide) agc n9 g9) p9 q9 y9
 · cases h;exact UT (UL (by decide) (by decide) afo n11 g11) p11 rfl y11
 · cases h
theorem Xb{a:Adr}(T:Txt w K mg a):bH P w K mg base CX0 76 a.qG a.wO ["m"] (I_ (cn a) TQ):=Xa T (aar T 10) fun m ps adds h=>plr m ps adds h
structure All (P:Program)(w:World)(K:aq)(mg:Str->Option Value)(base:Heap)(a:Adr)(d:Nat):Prop extends Al P w K mg base a d where
 UW:Fq P w K mg base a (4*d+108) d a.oY a.uQ ["plan","at"] 0
 Xc:Fq P w K mg base a (4*d+108) d a.qF a.wN ["plan","at","pair"] 1
 abp:Fq P w K mg base a (4*d+108) d a.u_ a.CZ ["plan","pair"] 2
 KH:Fq P w K mg base a (4*d+108) d a.jL a.qe ["plan","turned"] 3
 abq:Fq P w K mg base a (4*d+108) d a.vd a.C_ ["guides","one","other"] 4
 abr:Fq P w K mg base a (4*d+108) d a.vf a.Dc ["linked","turned"] 5
 aed:Fq P w K mg base a (4*d+108) d a.f_lean a.Hf ["linked","turned"] 6
 Ql:Fq P w K mg base a (4*d+108) d a.mR a.tH ["plan"] 7
 Zm:Fq P w K mg base a (4*d+108) d a.sJ a.zB ["all_linked","turned"] 8
 rH:Fq P w K mg base a (4*d+108) d a.lA a.rz ["plan","turned"] 9
 U0:Fq P w K mg base a (4*d+108) d a.oZ a.uR ["kind","tables"] 16
 Fv:Fq P w K mg base a (4*d+108) d a.fH a.jw ["self","kind","tables"] 17
 yz:Fq P w K mg base a (4*d+108) d a.gW a.lJ ["self"] 18
 BR:Fq P w K mg base a (4*d+108) d a.jx a.oG ["self"] 19
 uz:Fq P w K mg base a (4*d+108) d a.iU a.mK ["self"] 20
 uf:Fq P w K mg base a (4*d+108) d a.dH a.iy ["self","at"] 21
 BV:Fq P w K mg base a (4*d+108) d a.dI a.iz ["self","table"] 22
 Dv:Fq P w K mg base a (4*d+108) d a.dX a.iY ["self","pair"] 23
 BW:Fq P w K mg base a (4*d+108) d a.jy a.oH ["self","at","table"] 24
 xR:Fq P w K mg base a (4*d+108) d a.cB a.eZ ["self","at","table"] 25
 xT:Fq P w K mg base a (4*d+108) d a.cC a.e_ ["self","at","table"] 26
 U3:Fq P w K mg base a (4*d+108) d a.o4 a.uU ["_law_found"] 27
 xU:Fq P w K mg base a (4*d+108) d a.mV a.tL ["_law_found","_law_due"] 28
 Ef:Fq P w K mg base a (4*d+108) d a.mW a.tM ["_law_m","_law_x","_law_y"] 29
 Hu:Fq P w K mg base a (4*d+108) d a.iQ a.nQ ["_law_m"] 30
 O6:Fq P w K mg base a (4*d+108) d a.lF a.rE ["_law_m","_law_pairs"] 31
 Js:Fq P w K mg base a (4*d+108) d a.jm a.o5 ["_law_m"] 32
 Fw:Fq P w K mg base a (4*d+108) d a.cA a.mq ["_law_number"] 33
 Fx:Fq P w K mg base a (4*d+108) d a.gR a.mz ["_law_t"] 34
 Qm:Fq P w K mg base a (4*d+108) d a.mY a.tQ ["_law_kind","_law_t"] 35
 Fy:Fq P w K mg base a (4*d+108) d a.gU a.mC ["_law_number","_law_many"] 36
 BX:Fq P w K mg base a (4*d+108) d a.lH a.rF ["_law_rows_here","_law_pairs"] 37
 zR:Fq P w K mg base a (4*d+108) d a.jN a.qi ["_law_marks","_law_turned"] 38
 Mp:Fq P w K mg base a (4*d+108) d a.wQ a.Mi ["_law_script"] 39
theorem all_zero{a:Adr}:All P w K mg base a 0:=⟨RD,bw,bw,bw,bw,bw,bw,bw,bw,bw,bw,bw,bw,bw,bw,bw,bw,bw,bw,bw,bw,bw,bw,bw,bw,bw,bw,bw,bw,bw,bw,bw,bw,bw,bw⟩
theorem Qo(T:Txt w K mg a)(A0:All P w K mg base a d):Fq P w K mg base a (4*(d+1)+108) (d+1) a.oY a.uQ ["plan","at"] 0:=by
 refine(bJ (k:=4*d+111) T.o6.fn pO rfl fun σ0 cdv A outer s H E hr hp=>?_).mono (by omega)
 exact(aa (bF 2 pO.nd Rk)
  (aa (dF PassesOwn.leaving rfl dg (bV rfl T.bY (Nr (kW T.bB T.cV (dv 0)) ak)) (aJ 3 pO.nd)
  (aa (qY (yQ (qD T.bB T.zQ A0.BW (hr.mono (by omega)) T.Bx hp (dv 0) (aj (dv 1) (aj (dv 3) ak))) Cy (Cz aK)) (dD rfl (aB (aJ 4 pO.nd) (aB (aJ 5 pO.nd) cI))))
  (aa (IV hr.u1 (dv 2) (dv 4) (cL (aj (dv 3) (eY (jV [102,105,114,115,116]) ak))))
  (aa (IV hr.u1 (dv 2) (dv 5) (cL (aj (dv 3) (eY (jV [115,101,99,111,110,100]) ak))))
  ao))))
  (aa (aX (dv 2))
  ao)))
theorem U4(T:Txt w K mg a)(A0:All P w K mg base a d):Fq P w K mg base a (4*(d+1)+108) (d+1) a.qF a.wN ["plan","at","pair"] 1:=by
 refine(bJ (k:=4*d+111) T.lR.fn l_ rfl fun σ0 cdv A outer s H E hr hp=>?_).mono (by omega)
 exact(aa (qY (Rj hr.u1 (cR A0.UW T.o6 hr hp (aj (dv 0) (aj (dv 1) ak))) (dv 2)) (dD rfl (aB (aJ 3 l_.nd) (aB (aJ 4 l_.nd) cI))))
  (aa (qY (qD T.bB T.zQ A0.BW (hr.mono (by omega)) T.Bx hp (dv 0) (aj (dv 1) (aj (dv 3) ak))) (dD rfl (aB (aJ 5 l_.nd) (aB (aJ 6 l_.nd) (aB (aJ 7 l_.nd) cI)))))
  (aa (bF 8 l_.nd (qp (bx jg (cY hr.units) (dv 4) (jV [102,105,114,115,116]) (aZ _)) (dv 6) (dv 5)))
  (aa (aX (cL (aj (dv 3) (aj (dv 4) (aj (dv 8) (aj (dv 7) ak))))))
  ao))))
theorem Zn(T:Txt w K mg a)(A0:All P w K mg base a d):Fq P w K mg base a (4*(d+1)+108) (d+1) a.u_ a.CZ ["plan","pair"] 2:=by
 refine(bJ (k:=4*d+111) T.qL.fn Ze rfl fun σ0 cdv A outer s H E hr hp=>?_).mono (by omega)
 exact(aa (gn (qD T.bB T.Bw A0.Dv (hr.mono (by omega)) T.Ds hp (dv 0) (aj (dv 1) ak)))
  (aa (aX (jq (gJ (N':=["at","plan","pair"]) (nt:=1) (idx:=[0,1]) (N:=["plan","pair"]) (osc:=au CV) rfl rfl (by decide +kernel)) rfl dg (bV rfl T.bY (gQ (qt T.bB T.wR A0.yz (hr.mono (by omega)) T.yw hp (dv 0)) ak)) (fun C0 s0 H0 fp0=>(aJ 0 (show List.Nodup (["at","plan","pair"]:List Str) by decide +kernel))) (fun C0 s0 H0 fp0=>iK) (fun C0 s0 H0 fp0=>(rZ (A0.Xc) (hr.mono (by omega)) rfl T.lR.mg T.lR.fn.kp T.lR.bd sr (aj (dv 1) (aj (dv 0) (aj (dv 2) ak))))) (by decide)))
  ao))
theorem Jt(T:Txt w K mg a)(A0:All P w K mg base a d):Fq P w K mg base a (4*(d+1)+108) (d+1) a.jL a.qe ["plan","turned"] 3:=by
 refine(bJ (k:=4*d+111) T.jO.fn yq rfl fun σ0 cdv A outer s H E hr hp=>?_).mono (by omega)
 exact(aa (dF PassesOwn.leaving rfl jW (iM rfl (dv 1)) (aJ 2 yq.nd)
  (aa (gn (qD T.bB T.rO A0.uf (hr.mono (by omega)) T.ue hp (dv 0) (aj (dv 2) ak)))
  ao))
  (aa (cQ (bx Ar (tZ hr.units) (Ax hr.hd rfl T.dw rfl T.Hq (dv 1)) (b_ (jf (K:=K)) bh rfl T.dw boot_len (aj (dv 1) ak)) (aZ _)) (aa (su ⟨rfl,rfl,rfl⟩ rfl rfl T.Ov (Zj T) (hr.mono (by omega)) T.Du rfl T.Zi)
  ao) ao)
  ao))
theorem Zo(T:Txt w K mg a)(A0:All P w K mg base a d):Fq P w K mg base a (4*(d+1)+108) (d+1) a.vd a.C_ ["guides","one","other"] 4:=by
 refine(bJ (k:=4*d+111) T.qM.fn fG rfl fun σ0 cdv A outer s H E hr hp=>?_).mono (by omega)
 exact(aa (bF 3 fG.nd Rk)
  (aa (dF PassesOwn.leaving rfl Wh (QX rfl T.tR (cO (W2 hr.u1 (dv 0) (dv 2)) ak)) (dD rfl (aB (aJ 4 fG.nd) (aB (dD rfl (aB (aJ 5 fG.nd) (aB (aJ 6 fG.nd) (aB (aJ 7 fG.nd) (aB (aJ 8 fG.nd) cI))))) cI)))
  (aa (IV hr.u1 (dv 3) (dv 8) (cL (aj (dv 4) (aj (dv 6) ak))))
  ao))
  (aa (bF 9 fG.nd (cZ ak))
  (aa (dF PassesOwn.leaving rfl Wh (QX rfl T.tR (cO (W2 hr.u1 (dv 0) (dv 1)) ak)) (dD rfl (aB (aJ 4 fG.nd) (aB (dD rfl (aB (aJ 5 fG.nd) (aB (aJ 6 fG.nd) (aB (aJ 7 fG.nd) (aB (aJ 8 fG.nd) cI))))) cI)))
  (aa (cQ (PW.pt (qX (bx aeX (Nx hr.u1) (dv 8) (dv 3) rfl) (pw_and1 (bx Ar (tZ hr.units) (dv 7) (dv 2) (aZ _))))) (aa (qY (Rj hr.u1 (dv 3) (dv 8)) (dD rfl (aB (aJ 10 fG.nd) (aB (aJ 11 fG.nd) cI))))
  (aa (gn (sX lY PySem.F.slot_list_append PySem.F.type_list_append fJ (dv 9) (qu (cL (aj (dv 4) (aj (dv 10) (Tu (mH jg (cY hr.units) (dv 6) (dv 11) (aZ _)) ak)))) ak)))
  ao)) ao)
  ao))
  (aa (aX (dv 9))
  ao)))))
theorem Zq(T:Txt w K mg a)(A0:All P w K mg base a d):Fq P w K mg base a (4*(d+1)+108) (d+1) a.vf a.Dc ["linked","turned"] 5:=by
 refine(bJ (k:=4*d+111) T.vh.fn Zf rfl fun σ0 cdv A outer s H E hr hp=>?_).mono (by omega)
 exact(aa (aX (b_ (jf (K:=K)) bh rfl T.dw boot_len (gP (jq (gJ (N':=["at","other_at","same","turned"]) (nt:=3) (idx:=[1]) (N:=["linked","turned"]) (osc:=au CW) rfl rfl (by decide +kernel)) rfl jW (iM rfl (dv 0)) (fun C0 s0 H0 fp0=>(dD rfl (aB (aJ 0 (show List.Nodup (["at","other_at","same","turned"]:List Str) by decide +kernel)) (aB (aJ 1 (show List.Nodup (["at","other_at","same","turned"]:List Str) by decide +kernel)) (aB (aJ 2 (show List.Nodup (["at","other_at","same","turned"]:List Str) by decide +kernel)) cI))))) (fun C0 s0 H0 fp0=>(CJ (bx jg (cY hr.units) (dv 2) (mH jg (cY hr.units) (mH (Ni (K:=K)) tY (dv 0) (dv 3) rfl) (mH (Ni (K:=K)) tY (dv 1) (dv 3) rfl) (aZ _)) (aZ _)))) (fun C0 s0 H0 fp0=>(dv 2)) (by decide)) ak)))
  ao)
theorem abt(T:Txt w K mg a)(A0:All P w K mg base a d):Fq P w K mg base a (4*(d+1)+108) (d+1) a.f_lean a.Hf ["linked","turned"] 6:=by
 refine(bJ (k:=4*d+111) T.ud.fn abm rfl fun σ0 cdv A outer s H E hr hp=>?_).mono (by omega)
 exact(aa (aX (aM je fX (aM qW (L2.OpR.or fK nW) aK (cR A0.abr T.vh hr hp (aj (dv 0) (aj (dv 1) ak)))) (b_ (jf (K:=K)) bh rfl T.dw boot_len (aj (dv 0) ak))))
  ao)
theorem O7(T:Txt w K mg a)(A0:All P w K mg base a d):Fq P w K mg base a (4*(d+1)+108) (d+1) a.mR a.tH ["plan"] 7:=by
 refine(bJ (k:=4*d+111) T.mZ.fn Bh rfl fun σ0 cdv A outer s H E hr hp=>?_).mono (by omega)
 exact(aa (bF 1 Bh.nd (jq (gJ (N':=["pair","plan"]) (nt:=1) (idx:=[0]) (N:=["plan","guides"]) (osc:=au pP) rfl rfl (by decide +kernel)) rfl dg (bV rfl T.bY (gQ (qt T.bB T.sW A0.uz (hr.mono (by omega)) T.uy hp (dv 0)) ak)) (fun C0 s0 H0 fp0=>(aJ 0 (show List.Nodup (["pair","plan"]:List Str) by decide +kernel))) (fun C0 s0 H0 fp0=>iK) (fun C0 s0 H0 fp0=>(rZ (A0.abp) (hr.mono (by omega)) rfl T.qL.mg T.qL.fn.kp T.qL.bd sr (aj (dv 1) (aj (dv 0) ak)))) (by decide)))
  (aa (aX (YM (gJ (N':=["other","one","guides"]) (nt:=2) (idx:=[1]) (N:=["plan","guides"]) (osc:=au pP) rfl rfl (by decide +kernel)) rfl dg (bV rfl T.bY (gQ (qt T.bB T.sW A0.uz (hr.mono (by omega)) T.uy hp (dv 0)) ak)) (fun C0 s0 H0 fp0=>(aJ 0 (show List.Nodup (["other","one","guides"]:List Str) by decide +kernel))) (fun C0 s0 H0 fp0=>iK) dg (fun C0 s0 H0 fp0=>(bV rfl T.bY (aj (dv 0) ak))) (fun C0 s0 H0 fp0=>(aJ 1 (show List.Nodup (["other","one","guides"]:List Str) by decide +kernel))) (fun C0 s0 H0 fp0=>iK) (fun C0 s0 H0 fp0=>(rZ (A0.abq) (hr.mono (by omega)) rfl T.qM.mg T.qM.fn.kp T.qM.bd sr (aj (dv 2) (aj (dv 1) (aj (dv 0) ak))))) (by decide) (by decide)))
  ao))
theorem Xd(T:Txt w K mg a)(A0:All P w K mg base a d):Fq P w K mg base a (4*(d+1)+108) (d+1) a.sJ a.zB ["all_linked","turned"] 8:=by
 refine(bJ (k:=4*d+111) T.sU.fn W4 rfl fun σ0 cdv A outer s H E hr hp=>?_).mono (by omega)
 exact(aa (aX (b_ (ae1 (K:=K)) (WD rfl) rfl T.Uu boot_sum (gP (jq (gJ (N':=["linked","turned"]) (nt:=1) (idx:=[1]) (N:=["all_linked","turned"]) (osc:=au zm) rfl rfl (by decide +kernel)) rfl jW (iM rfl (dv 0)) (fun C0 s0 H0 fp0=>(aJ 0 (show List.Nodup (["linked","turned"]:List Str) by decide +kernel))) (fun C0 s0 H0 fp0=>iK) (fun C0 s0 H0 fp0=>(aM ad6 Vl (rZ (A0.aed) (hr.mono (by omega)) rfl T.ud.mg T.ud.fn.kp T.ud.bd sr (aj (dv 0) (aj (dv 1) ak))) aK)) (by decide)) ak)))
  ao)
theorem KJ(T:Txt w K mg a)(A0:All P w K mg base a d):Fq P w K mg base a (4*(d+1)+108) (d+1) a.lA a.rz ["plan","turned"] 9:=by
 refine(bJ (k:=4*d+111) T.gj.fn Ko rfl fun σ0 cdv A outer s H E hr hp=>?_).mono (by omega)
 exact(aa (gn (cR A0.KH T.jO hr hp (aj (dv 0) (aj (dv 1) ak))))
  (aa (aX (cR A0.Zm T.sU hr hp (gQ (cR A0.Ql T.mZ hr hp (aj (dv 0) ak)) (aj (dv 1) ak))))
  ao))
theorem Qp(T:Txt w K mg a)(A0:All P w K mg base a d):Fq P w K mg base a (4*(d+1)+108) (d+1) a.oZ a.uR ["kind","tables"] 16:=by
 refine(bJ (k:=4*d+111) T.o8.fn xm rfl fun σ0 cdv A outer s H E hr hp=>?_).mono (by omega)
 exact(aa (cQ (bx Ar (tZ hr.units) (dv 0) (jV [114,105,110,103]) (aZ _)) (aa (aX (cZ ak))
  ao) ao)
  (aa (qY (aa6 (Xb T) (hr.mono (by omega)) rfl T.lU.mg T.lU.fn.kp T.lU.bd (bQ (aM je fX (aM qW (L2.OpR.or fK nW) aK (dv 1)) aK) ak)) (dD rfl (aB (aJ 2 xm.nd) (aB (aJ 3 xm.nd) cI))))
  (aa (aX (jq (gJ (N':=["b","x","y"]) (nt:=3) (idx:=[]) (N:=["kind","tables","pairs","adds"]) (osc:=au uP) rfl rfl (by decide +kernel)) rfl Wg (V3 rfl T.Mm (aj (dv 2) (aj (dv 3) ak))) (fun C0 s0 H0 fp0=>(dD rfl (aB (dD rfl (aB (aJ 1 (show List.Nodup (["b","x","y"]:List Str) by decide +kernel)) (aB (aJ 2 (show List.Nodup (["b","x","y"]:List Str) by decide +kernel)) cI))) (aB (aJ 0 (show List.Nodup (["b","x","y"]:List Str) by decide +kernel)) cI)))) (fun C0 s0 H0 fp0=>iK) (fun C0 s0 H0 fp0=>(cL (aj (dv 1) (aj (dv 2) (aj (dv 0) ak))))) (by decide)))
  ao)))
theorem Dw(T:Txt w K mg a)(A0:All P w K mg base a d):Fq P w K mg base a (4*(d+1)+108) (d+1) a.fH a.jw ["self","kind","tables"] 17:=by
 refine(bJ (k:=4*d+111) T.Fp Dq rfl fun σ0 cdv A outer s H E hr hp=>?_).mono (by omega)
 exact(aa (cQ (adu T.ql rfl T.BK (dv 2) (aa3 T.ql rfl T.BK (dv 1)) rfl) (aa (su ⟨rfl,rfl,rfl⟩ rfl rfl T.Hi (Uw T) (hr.mono (by omega)) T.z_ rfl T.Ul)
  ao) ao)
  (aa (Np T.bB T.iC (dv 0) (dv 1))
  (aa (Np T.bB T.cV (dv 0) (dv 2))
  (aa (Np T.bB T.qj (dv 0) (cR A0.U0 T.o8 hr hp (aj (dv 1) (aj (dv 2) ak))))
  ao))))
theorem Hv(T:Txt w K mg a)(A0:All P w K mg base a d):Fq P w K mg base a (4*(d+1)+108) (d+1) a.gW a.lJ ["self"] 18:=by
 refine(bJ (k:=4*d+111) T.Jp G7 rfl fun σ0 cdv A outer s H E hr hp=>?_).mono (by omega)
 exact(aa (cQ (bx jg (cY hr.units) (kW T.bB T.iC (dv 0)) (jV [115,107,105,112]) (aZ _)) (aa (aX (aM je fX (kW T.bB T.cV (dv 0)) aK))
  ao) ao)
  (aa (aX (qt T.bB T.zP A0.BR (hr.mono (by omega)) T.Br hp (dv 0)))
  ao))
theorem KN(T:Txt w K mg a)(A0:All P w K mg base a d):Fq P w K mg base a (4*(d+1)+108) (d+1) a.jx a.oG ["self"] 19:=by
 refine(bJ (k:=4*d+111) T.Ot Kr rfl fun σ0 cdv A outer s H E hr hp=>?_).mono (by omega)
 exact(aa (cQ (bx jg (cY hr.units) (kW T.bB T.iC (dv 0)) (jV [114,105,110,103]) (aZ _)) (aa (aX (aM je fX (aM qW (L2.OpR.or fK nW) aK (kW T.bB T.cV (dv 0))) aK))
  ao) ao)
  (aa (aX (kW T.bB T.cV (dv 0)))
  ao))
theorem Ju(T:Txt w K mg a)(A0:All P w K mg base a d):Fq P w K mg base a (4*(d+1)+108) (d+1) a.iU a.mK ["self"] 20:=by
 refine(bJ (k:=4*d+111) T.Kw Jm rfl fun σ0 cdv A outer s H E hr hp=>?_).mono (by omega)
 exact(aa (aX (aM qW (L2.OpR.or fK nW) aK (kW T.bB T.cV (dv 0))))
  ao)
theorem Ae(T:Txt w K mg a)(A0:All P w K mg base a d):Fq P w K mg base a (4*(d+1)+108) (d+1) a.dH a.iy ["self","at"] 21:=by
 refine(bJ (k:=4*d+111) T.Bs zX rfl fun σ0 cdv A outer s H E hr hp=>?_).mono (by omega)
 exact(aa (cQ (PW.pt (uJ (bx (Tj (K:=K)) (L2.OpR.or FW (Gf hr.Ga)) (dv 1) aK (aZ _)) (pw_or1 (bx Es wF (dv 1) (qt T.bB T.wR A0.yz (hr.mono (by omega)) T.yw hp (dv 0)) (aZ _))))) (aa (su ⟨rfl,rfl,rfl⟩ rfl rfl T.Hj (Ux T) (hr.mono (by omega)) T.Ab rfl T.Uo)
  ao) ao)
  ao)
theorem Af(T:Txt w K mg a)(A0:All P w K mg base a d):Fq P w K mg base a (4*(d+1)+108) (d+1) a.dI a.iz ["self","table"] 22:=by
 refine(bJ (k:=4*d+111) T.Bu zY rfl fun σ0 cdv A outer s H E hr hp=>?_).mono (by omega)
 exact(aa (cQ (PW.pt (uJ (bx (Tj (K:=K)) (L2.OpR.or FW (Gf hr.Ga)) (dv 1) aK (aZ _)) (pw_or1 (bx Es wF (dv 1) (kW T.bB T.cV (dv 0)) (aZ _))))) (aa (su ⟨rfl,rfl,rfl⟩ rfl rfl T.Hl (Uy T) (hr.mono (by omega)) T.Ad rfl T.Uq)
  ao) ao)
  ao)
theorem BZ(T:Txt w K mg a)(A0:All P w K mg base a d):Fq P w K mg base a (4*(d+1)+108) (d+1) a.dX a.iY ["self","pair"] 23:=by
 refine(bJ (k:=4*d+111) T.Dr Bk rfl fun σ0 cdv A outer s H E hr hp=>?_).mono (by omega)
 exact(aa (cQ (PW.pt (uJ (bx (Tj (K:=K)) (L2.OpR.or FW (Gf hr.Ga)) (dv 1) aK (aZ _)) (pw_or1 (bx Es wF (dv 1) (qt T.bB T.sW A0.uz (hr.mono (by omega)) T.uy hp (dv 0)) (aZ _))))) (aa (su ⟨rfl,rfl,rfl⟩ rfl rfl T.Kg (W8 T) (hr.mono (by omega)) T.BJ rfl T.W7)
  ao) ao)
  ao)
theorem KQ(T:Txt w K mg a)(A0:All P w K mg base a d):Fq P w K mg base a (4*(d+1)+108) (d+1) a.jy a.oH ["self","at","table"] 24:=by
 refine(bJ (k:=4*d+111) T.Ou Ku rfl fun σ0 cdv A outer s H E hr hp=>?_).mono (by omega)
 exact(aa (gn (qD T.bB T.rO A0.uf (hr.mono (by omega)) T.ue hp (dv 0) (aj (dv 1) ak)))
  (aa (gn (qD T.bB T.z6 A0.BV (hr.mono (by omega)) T.Bv hp (dv 0) (aj (dv 2) ak)))
  (aa (cQ (bx jg (cY hr.units) (kW T.bB T.iC (dv 0)) (jV [114,105,110,103]) (aZ _)) (aa (aX (qD T.bB T.wg A0.xR (hr.mono (by omega)) T.xN hp (dv 0) (aj (dv 1) (aj (dv 2) ak))))
  ao) ao)
  (aa (aX (qD T.bB T.wj A0.xT (hr.mono (by omega)) T.xP hp (dv 0) (aj (dv 1) (aj (dv 2) ak))))
  ao))))
theorem wu(T:Txt w K mg a)(A0:All P w K mg base a d):Fq P w K mg base a (4*(d+1)+108) (d+1) a.cB a.eZ ["self","at","table"] 25:=by
 refine(bJ (k:=4*d+111) T.xM dU rfl fun σ0 cdv A outer s H E hr hp=>?_).mono (by omega)
 exact(aa (bF 3 dU.nd (qt T.bB T.zP A0.BR (hr.mono (by omega)) T.Br hp (dv 0)))
  (aa (cQ (bx jg (cY hr.units) (dv 2) aK (aZ _)) (aa (aX (cL (aj (dv 3) (aj (dv 1) (aj (dv 1) ak)))))
  ao) ao)
  (aa (qY (dY (kW T.bB T.qj (dv 0)) (aM je fX (dv 2) aK)) (dD rfl (aB (aJ 4 dU.nd) (aB (aJ 5 dU.nd) (aB (aJ 6 dU.nd) cI)))))
  (aa (aX (cL (bQ (aM iJ cH (aM gG (L2.OpR.or cG dB) (dv 4) (dv 1)) (dv 3)) (bQ (aM iJ cH (aM gG (L2.OpR.or cG dB) (dv 5) (dv 1)) (dv 3)) (bQ (aM iJ cH (aM gG (L2.OpR.or cG dB) (dv 6) (dv 1)) (dv 3)) ak)))))
  ao))))
theorem wB(T:Txt w K mg a)(A0:All P w K mg base a d):Fq P w K mg base a (4*(d+1)+108) (d+1) a.cC a.e_ ["self","at","table"] 26:=by
 refine(bJ (k:=4*d+111) T.xO dW rfl fun σ0 cdv A outer s H E hr hp=>?_).mono (by omega)
 exact(aa (bF 3 dW.nd (kW T.bB T.cV (dv 0)))
  (aa (bF 4 dW.nd (aM Nh vA (dv 3) aK))
  (aa (bF 5 dW.nd (qp (PW.pt (qX (bx jg (cY hr.units) (kW T.bB T.iC (dv 0)) (jV [115,107,105,112]) (aZ _)) (pw_and1 (bx Es wF (dv 1) (dv 4) (aZ _))))) (aM gG (L2.OpR.or cG dB) (dv 1) aK) (dv 1)))
  (aa (bF 6 dW.nd (qp (PW.pt (qX (bx jg (cY hr.units) (kW T.bB T.iC (dv 0)) (jV [115,104,97,114,101,100]) (aZ _)) (pw_and1 (bx Es wF (dv 2) (dv 4) (aZ _))))) (aM gG (L2.OpR.or cG dB) (dv 1) aK) (dv 1)))
  (aa (aX (cL (aj (dv 2) (bQ (aM gG (L2.OpR.or cG dB) (dv 3) (aM iJ cH (aM je fX (dv 2) (dv 5)) (dv 3))) (bQ (aM iJ cH (aM gG (L2.OpR.or cG dB) (dv 2) (dv 6)) (dv 3)) ak)))))
  ao)))))
theorem Qq(T:Txt w K mg a)(A0:All P w K mg base a d):Fq P w K mg base a (4*(d+1)+108) (d+1) a.o4 a.uU ["_law_found"] 27:=by
 refine(bJ (k:=4*d+111) T.o9.fn Qh rfl fun σ0 cdv A outer s H E hr hp=>?_).mono (by omega)
 exact(aa (aX (vD (n8 (k:=0) (by decide) rfl T.cJ rfl T.Mj boot_int (dv 0)) (xV (aa1 (n8 (k:=1) (by decide) rfl T.cJ rfl T.BL boot_bool (dv 0))))))
  ao)
theorem O8(T:Txt w K mg a)(A0:All P w K mg base a d):Fq P w K mg base a (4*(d+1)+108) (d+1) a.mV a.tL ["_law_found","_law_due"] 28:=by
 refine(bJ (k:=4*d+111) T.fV.fn Oi rfl fun σ0 cdv A outer s H E hr hp=>?_).mono (by omega)
 exact(aa (cQ (adf (dv 1)) (aa (aX (ade (dv 0)))
  ao) ao)
  (aa (cQ (j0 (n8 (k:=1) (by decide) rfl T.cJ rfl T.BL boot_bool (dv 1)) (fun _=>rfl)) (aa (aX (vD (n8 (k:=1) (by decide) rfl T.cJ rfl T.BL boot_bool (dv 0)) (xV (mH jg (cY hr.units) (dv 0) (dv 1) (aZ _)))))
  ao) ao)
  (aa (cQ (j0 (n8 (k:=0) (by decide) rfl T.cJ rfl T.Mj boot_int (dv 1)) (fun _=>rfl)) (aa (aX (vD (cR A0.U3 T.o9 hr hp (aj (dv 0) ak)) (xV (mH jg (cY hr.units) (dv 0) (dv 1) (aZ _)))))
  ao) ao)
  (aa (cQ (j0 (n8 (k:=2) (by decide) rfl T.cJ rfl T.Ml boot_str (dv 1)) (fun _=>rfl)) (aa (aX (vD (n8 (k:=2) (by decide) rfl T.cJ rfl T.Ml boot_str (dv 0)) (xV (mH jg (cY hr.units) (dv 0) (dv 1) (aZ _)))))
  ao) ao)
  (aa (cQ (PW.pt (uJ (PW.pt (qX (j0 (n8 (k:=3) (by decide) rfl T.cJ rfl T.Dd boot_tuple (dv 1)) (fun _=>rfl)) (pw_and1 (Gz (j0 (n8 (k:=3) (by decide) rfl T.cJ rfl T.Dd boot_tuple (dv 0)) (fun _=>rfl)))))) (pw_or1 (PW.pt (qX (j0 (n8 (k:=4) (by decide) rfl T.cJ rfl T.yx boot_list (dv 1)) (fun _=>rfl)) (pw_and1 (Gz (j0 (n8 (k:=4) (by decide) rfl T.cJ rfl T.yx boot_list (dv 0)) (fun _=>rfl))))))))) (aa (aX Gv)
  ao) ao)
  (aa (aX (vD (mH jg (cY hr.units) (b_ (jf (K:=K)) bh rfl T.dw boot_len (aj (dv 0) ak)) (b_ (jf (K:=K)) bh rfl T.dw boot_len (aj (dv 1) ak)) (aZ _)) (xV (b_ aeP (VJ rfl) rfl T.Us boot_all (gP (jq (gJ (N':=["_law_k","_law_found","_law_due"]) (nt:=1) (idx:=[0,1]) (N:=["_law_found","_law_due"]) (osc:=au tu) rfl rfl (by decide +kernel)) rfl dg (bV rfl T.bY (gQ (b_ (jf (K:=K)) bh rfl T.dw boot_len (aj (dv 1) ak)) ak)) (fun C0 s0 H0 fp0=>(aJ 0 (show List.Nodup (["_law_k","_law_found","_law_due"]:List Str) by decide +kernel))) (fun C0 s0 H0 fp0=>iK) (fun C0 s0 H0 fp0=>(rZ (A0.xU) (hr.mono (by omega)) rfl T.fV.mg T.fV.fn.kp T.fV.bd sr (cO (dY (dv 1) (dv 0)) (cO (dY (dv 2) (dv 0)) ak)))) (by decide)) ak)))))
  ao))))))
theorem O9(T:Txt w K mg a)(A0:All P w K mg base a d):Fq P w K mg base a (4*(d+1)+108) (d+1) a.mW a.tM ["_law_m","_law_x","_law_y"] 29:=by
 refine(bJ (k:=4*d+111) T.ir.fn Oj rfl fun σ0 cdv A outer s H E hr hp=>?_).mono (by omega)
 exact(aa (aX (b_ aeT (Vn rfl) rfl T.Ut boot_min (bQ (aM iJ cH (aM je fX (dv 2) (dv 1)) (dv 0)) (bQ (aM iJ cH (aM je fX (dv 1) (dv 2)) (dv 0)) ak))))
  ao)
theorem Fz(T:Txt w K mg a)(A0:All P w K mg base a d):Fq P w K mg base a (4*(d+1)+108) (d+1) a.iQ a.nQ ["_law_m"] 30:=by
 refine(bJ (k:=4*d+111) T.iR.fn cz rfl fun σ0 cdv A outer s H E hr hp=>?_).mono (by omega)
 exact(aa (bF 1 cz.nd (cZ (uZ (cZ ak) ak)))
  (aa (dF PassesOwn.leaving rfl dg (bV rfl T.bY (bQ (aM Nh vA (aM je fX (dv 0) aK) aK) ak)) (aJ 2 cz.nd)
  (aa (bF 3 cz.nd (cZ ak))
  (aa (dF PassesOwn.leaving rfl jW (iM rfl (dv 1)) (aJ 4 cz.nd)
  (aa (bF 5 cz.nd (aM gG (L2.OpR.or cG dB) (jq (gJ (N':=["_law_x","_law_y"]) (nt:=2) (idx:=[]) (N:=["_law_m","_law_rows_here","_law_turn","_law_fresh","_law_row","_law_used","_law_left","_law_other","_law_steps"]) (osc:=au gh) rfl rfl (by decide +kernel)) rfl jW (iM rfl (dv 4)) (fun C0 s0 H0 fp0=>(dD rfl (aB (aJ 0 (show List.Nodup (["_law_x","_law_y"]:List Str) by decide +kernel)) (aB (aJ 1 (show List.Nodup (["_law_x","_law_y"]:List Str) by decide +kernel)) cI)))) (fun C0 s0 H0 fp0=>iK) (fun C0 s0 H0 fp0=>(dv 0)) (by decide)) (jq (gJ (N':=["_law_x","_law_y"]) (nt:=2) (idx:=[]) (N:=["_law_m","_law_rows_here","_law_turn","_law_fresh","_law_row","_law_used","_law_left","_law_other","_law_steps"]) (osc:=au gh) rfl rfl (by decide +kernel)) rfl jW (iM rfl (dv 4)) (fun C0 s0 H0 fp0=>(dD rfl (aB (aJ 0 (show List.Nodup (["_law_x","_law_y"]:List Str) by decide +kernel)) (aB (aJ 1 (show List.Nodup (["_law_x","_law_y"]:List Str) by decide +kernel)) cI)))) (fun C0 s0 H0 fp0=>iK) (fun C0 s0 H0 fp0=>(dv 1)) (by decide))))
  (aa (Ex (i:=6) cz.nd rfl (Or.inl rfl) (gJ (N':=["_law_number","_law_used"]) (nt:=1) (idx:=[5]) (N:=["_law_m","_law_rows_here","_law_turn","_law_fresh","_law_row","_law_used","_law_left","_law_other","_law_steps"]) (osc:=au gh) rfl rfl (by decide +kernel)) rfl Rb (JR rfl T.bY (eY aK (aj (dv 0) ak))) (fun C0 s0 H0 fp0=>(aJ 0 (show List.Nodup (["_law_number","_law_used"]:List Str) by decide +kernel))) (fun C0 s0 H0 fp0=>(CJ (bx (ym (K:=K)) kJ (dv 0) (dv 1) rfl))) (fun C0 s0 H0 fp0=>(dv 0)) (by decide))
  (aa (dF PassesOwn.leaving rfl jW (iM rfl (yQ (dv 6) (Cz aK) Cy)) (aJ 7 cz.nd)
  (aa (Ex (i:=8) cz.nd rfl (Or.inl rfl) (gJ (N':=["_law_x","_law_y","_law_m"]) (nt:=2) (idx:=[0]) (N:=["_law_m","_law_rows_here","_law_turn","_law_fresh","_law_row","_law_used","_law_left","_law_other","_law_steps"]) (osc:=au gh) rfl rfl (by decide +kernel)) rfl jW (iM rfl (dv 4)) (fun C0 s0 H0 fp0=>(dD rfl (aB (aJ 0 (show List.Nodup (["_law_x","_law_y","_law_m"]:List Str) by decide +kernel)) (aB (aJ 1 (show List.Nodup (["_law_x","_law_y","_law_m"]:List Str) by decide +kernel)) cI)))) (fun C0 s0 H0 fp0=>iK) (fun C0 s0 H0 fp0=>(rZ (A0.Ef) (hr.mono (by omega)) rfl T.ir.mg T.ir.fn.kp T.ir.bd sr (aj (dv 2) (aj (dv 0) (aj (dv 1) ak))))) (by decide))
  (aa (cQ (bx (ym (K:=K)) kJ (cR A0.Ef T.ir hr hp (aj (dv 0) (cO (dY (dv 6) aK) (aj (dv 7) ak)))) (dv 8) rfl) (aa (gn (sX lY PySem.F.slot_list_append PySem.F.type_list_append fJ (dv 3) (bQ (aM gG (L2.OpR.or cG dB) (dv 4) (cZ (qu (cL (cO (dY (dv 6) aK) (aj (dv 7) ak))) ak))) ak)))
  ao) ao)
  ao)))
  ao))))
  (aa (bF 1 cz.nd (dv 3))
  ao))))
  (aa (aX (dv 1))
  ao)))
theorem KY(T:Txt w K mg a)(A0:All P w K mg base a d):Fq P w K mg base a (4*(d+1)+108) (d+1) a.lF a.rE ["_law_m","_law_pairs"] 31:=by
 refine(bJ (k:=4*d+111) T.lN.fn jK rfl fun σ0 cdv A outer s H E hr hp=>?_).mono (by omega)
 exact(aa (bF 2 jK.nd (cZ (uZ (cZ ak) ak)))
  (aa (YL PassesOwn.leaving (bx ac6 R6 (b_ (jf (K:=K)) bh rfl T.dw boot_len (aj (dv 2) ak)) aK (aZ _))
  (aa (bF 3 jK.nd (adk aeS PySem.F.slot_list_pop PySem.F.type_list_pop acv (dv 2)))
  (aa (bF 4 jK.nd (cZ ak))
  (aa (dF PassesOwn.leaving rfl dg (bV rfl T.bY (gQ (b_ (jf (K:=K)) bh rfl T.dw boot_len (aj (dv 3) ak)) ak)) (aJ 5 jK.nd)
  (aa (bF 4 jK.nd (aM gG (L2.OpR.or cG dB) (dv 4) (cZ (bQ (aM iJ cH (aM je fX (dY (dv 3) (dv 5)) (dY (dY (dv 1) (dv 5)) aK)) (dv 0)) (bQ (aM iJ cH (aM je fX (dY (dv 3) (dv 5)) (dY (dY (dv 1) (dv 5)) aK)) (dv 0)) ak)))))
  ao))
  (aa (cQ (PW.pt (uJ (bx (Ni (K:=K)) tY aK (dv 4) rfl) (pw_or1 (bx Ar (tZ hr.units) (Ax hr.hd rfl T.dw rfl T.Hq (dv 4)) (b_ (jf (K:=K)) bh rfl T.dw boot_len (aj (dv 4) ak)) (aZ _))))) (aa Qe
  ao) ao)
  (aa (cQ (bx jg (cY hr.units) (b_ (jf (K:=K)) bh rfl T.dw boot_len (aj (dv 3) ak)) (b_ (jf (K:=K)) bh rfl T.dw boot_len (aj (dv 1) ak)) (aZ _)) (aa (aX (dv 3))
  ao) ao)
  (aa (gn (sX YG PySem.F.slot_list_extend PySem.F.type_list_extend Vv (dv 2) (gP (jq (gJ (N':=["_law_b","_law_row"]) (nt:=1) (idx:=[3]) (N:=["_law_m","_law_pairs","_law_rows_here","_law_row","_law_found","_law_k"]) (osc:=au q_) rfl rfl (by decide +kernel)) rfl aaZ (V5 rfl T.bY (bQ (aM je fX (dv 0) aK) (eY aK (GF (Tn Ti FT aK) ak)))) (fun C0 s0 H0 fp0=>(aJ 0 (show List.Nodup (["_law_b","_law_row"]:List Str) by decide +kernel))) (fun C0 s0 H0 fp0=>(CJ (bx (ym (K:=K)) kJ (dv 0) (dv 1) rfl))) (fun C0 s0 H0 fp0=>(aM gG (L2.OpR.or cG dB) (dv 1) (cZ (aj (dv 0) ak)))) (by decide)) ak)))
  ao)))))))
  (aa (aX Nf)
  ao)))
theorem Hw(T:Txt w K mg a)(A0:All P w K mg base a d):Fq P w K mg base a (4*(d+1)+108) (d+1) a.jm a.o5 ["_law_m"] 32:=by
 refine(bJ (k:=4*d+111) T.jn.fn rm rfl fun σ0 cdv A outer s H E hr hp=>?_).mono (by omega)
 exact(aa (dF PassesOwn.leaving rfl jW (iM rfl (cR A0.Hu T.iR hr hp (aj (dv 0) ak))) (aJ 1 rm.nd)
  (aa (bF 2 rm.nd (cR A0.O6 T.lN hr hp (aj (dv 0) (aj (dv 1) ak))))
  (aa (cQ (Q5 (dv 2)) (aa (aX (cL (aj (dv 1) (aj (dv 2) ak))))
  ao) ao)
  ao)))
  (aa (aX Nf)
  ao))
theorem Dy(T:Txt w K mg a)(A0:All P w K mg base a d):Fq P w K mg base a (4*(d+1)+108) (d+1) a.cA a.mq ["_law_number"] 33:=by
 refine(adz (k:=4*d+111) T.gY.fn pF rfl fun σ0 cdv A outer s H E hr hp=>?_).mono (by omega);have q0:QS (qT (CXE P w) P w K mg base ["_law_number","_law_some"] "_law_some_plan" (au bT) a.cA cdv A outer s H E) ((d8 bT).getD 0 (.Pass ⟨0,0,0,0⟩)) (tS Pg (cn a) E d σ0 (.asg (.nm 1) (.pr .lst [(.pr .tup [(.cst (.str [115,116,114,97,105,103,104,116])),(.cst (.int 3))]),(.pr .tup [(.cst (.str [115,107,105,112])),(.cst (.int 4))]),(.pr .tup [(.cst (.str [115,104,97,114,101,100])),(.cst (.int 4))]),(.pr .tup [(.cst (.str [115,116,114,97,105,103,104,116])),(.cst (.int 5))]),(.pr .tup [(.cst (.str [114,105,110,103])),(.cst (.int 4))]),(.pr .tup [(.cst (.str [115,107,105,112])),(.cst (.int 6))]),(.pr .tup [(.cst (.str [115,104,97,114,101,100])),(.cst (.int 6))])]))):=(Wq (i:=1) pF.nd rfl (Or.inl rfl) (Wn (oR [115,116,114,97,105,103,104,116] (oR [115,107,105,112] (oR [115,104,97,114,101,100] (oR [115,116,114,97,105,103,104,116] (oR [114,105,110,103] (oR [115,107,105,112] (oR [115,104,97,114,101,100] Wo)))))))));have q1:QS (qT (CXE P w) P w K mg base ["_law_number","_law_some"] "_law_some_plan" (au bT) a.cA cdv A outer s H E) ((d8 bT).getD 1 (.Pass ⟨0,0,0,0⟩)) (tS Pg (cn a) E d σ0 (.asg (.nm 1) (.pr .add [(.var 1),(.pr .lst [(.pr .tup [(.cst (.str [115,116,114,97,105,103,104,116])),(.cst (.int 7))]),(.pr .tup [(.cst (.str [114,105,110,103])),(.cst (.int 5))]),(.pr .tup [(.cst (.str [115,107,105,112])),(.cst (.int 8))]),(.pr .tup [(.cst (.str [115,104,97,114,101,100])),(.cst (.int 8))]),(.pr .tup [(.cst (.str [115,116,114,97,105,103,104,116])),(.cst (.int 9))]),(.pr .tup [(.cst (.str [114,105,110,103])),(.cst (.int 6))])])]))):=(Wq (i:=1) pF.nd rfl (Or.inl rfl) (aeW gG (L2.OpR.or cG dB) ⟨(dv 1)⟩ (Wn (oR [115,116,114,97,105,103,104,116] (oR [114,105,110,103] (oR [115,107,105,112] (oR [115,104,97,114,101,100] (oR [115,116,114,97,105,103,104,116] (oR [114,105,110,103] Wo)))))))));have q2:QS (qT (CXE P w) P w K mg base ["_law_number","_law_some"] "_law_some_plan" (au bT) a.cA cdv A outer s H E) ((d8 bT).getD 2 (.Pass ⟨0,0,0,0⟩)) (tS Pg (cn a) E d σ0 (.ret (.pr .ix [(.var 1),(.pr .mod [(.var 0),(.cst (.int 13))])]))):=⟨(aX (dY (dv 1) (aM iJ cH (dv 0) aK)))⟩;have z:QSs (qT (CXE P w) P w K mg base ["_law_number","_law_some"] "_law_some_plan" (au bT) a.cA cdv A outer s H E) (d8 bT) (tSs Pg (cn a) E d σ0 vW):=(Fb q0 (Fb q1 (Fb q2 aa5)));exact z
theorem Dz(T:Txt w K mg a)(A0:All P w K mg base a d):Fq P w K mg base a (4*(d+1)+108) (d+1) a.gR a.mz ["_law_t"] 34:=by
 refine(bJ (k:=4*d+111) T.gZ.fn cW rfl fun σ0 cdv A outer s H E hr hp=>?_).mono (by omega)
 exact(aa (bF 1 cW.nd (aM je fX (aM qW (L2.OpR.or fK nW) aK (dv 0)) aK))
  (aa (qY (cR A0.Js T.jn hr hp (aj (dv 1) ak)) (dD rfl (aB (aJ 2 cW.nd) (aB (aJ 3 cW.nd) cI))))
  (aa (bF 4 cW.nd (cZ ak))
  (aa (dF PassesOwn.leaving rfl dg (bV rfl T.bY (aj (dv 1) ak)) (aJ 5 cW.nd)
  (aa (bF 6 cW.nd (cZ (qu (cL (aj (dv 1) (aj (dv 5) (aj (dv 5) ak)))) ak)))
  (aa (dF PassesOwn.leaving rfl dg (bV rfl T.bY (bQ (aM je fX (dv 0) aK) ak)) (aJ 7 cW.nd)
  (aa (gn (sX lY PySem.F.slot_list_append PySem.F.type_list_append fJ (dv 6) (qu (cL (bQ (aM iJ cH (aM gG (L2.OpR.or cG dB) (dY (dY (dv 2) (dv 7)) aK) (dv 5)) (dv 1)) (bQ (aM iJ cH (aM gG (L2.OpR.or cG dB) (dY (dY (dv 2) (dv 7)) aK) (dv 5)) (dv 1)) (bQ (aM iJ cH (aM gG (L2.OpR.or cG dB) (dY (dv 3) (dv 7)) (dv 5)) (dv 1)) ak)))) ak)))
  ao))
  (aa (gn (sX lY PySem.F.slot_list_append PySem.F.type_list_append fJ (dv 4) (aj (dv 6) ak)))
  ao))))
  (aa (aX (dv 4))
  ao)))))
theorem O_(T:Txt w K mg a)(A0:All P w K mg base a d):Fq P w K mg base a (4*(d+1)+108) (d+1) a.mY a.tQ ["_law_kind","_law_t"] 35:=by
 refine(bJ (k:=4*d+111) T.m7.fn ju rfl fun σ0 cdv A outer s H E hr hp=>?_).mono (by omega)
 exact(aa (cQ (bx jg (cY hr.units) (dv 0) (jV [114,105,110,103]) (aZ _)) (aa (aX (cR A0.Fx T.gZ hr hp (aj (dv 1) ak)))
  ao) ao)
  (aa (bF 2 ju.nd (cZ ak))
  (aa (dF PassesOwn.leaving rfl dg (bV rfl T.bY (YX (qp (bx jg (cY hr.units) (dv 0) (jV [115,107,105,112]) (aZ _)) (aM je fX (dv 1) aK) (dv 1)) ak)) (aJ 3 ju.nd)
  (aa (bF 4 ju.nd (qp (PW.pt (qX (bx jg (cY hr.units) (dv 0) (jV [115,107,105,112]) (aZ _)) (pw_and1 (bx Es wF (aM qW (L2.OpR.or fK nW) aK (dv 3)) (dv 1) (aZ _))))) (aM gG (L2.OpR.or cG dB) (dv 3) aK) (dv 3)))
  (aa (bF 5 ju.nd (cZ ak))
  (aa (dF PassesOwn.leaving rfl dg (bV rfl T.bY (aj (dv 1) ak)) (aJ 6 ju.nd)
  (aa (bF 7 ju.nd (qp (PW.pt (qX (bx jg (cY hr.units) (dv 0) (jV [115,104,97,114,101,100]) (aZ _)) (pw_and1 (bx Es wF (aM qW (L2.OpR.or fK nW) aK (dv 6)) (dv 1) (aZ _))))) aK aK))
  (aa (gn (sX lY PySem.F.slot_list_append PySem.F.type_list_append fJ (dv 5) (qu (cL (aj (dv 6) (bQ (aM gG (L2.OpR.or cG dB) (dv 1) (aM iJ cH (aM je fX (dv 6) (dv 4)) (dv 1))) (bQ (aM iJ cH (aM gG (L2.OpR.or cG dB) (aM gG (L2.OpR.or cG dB) (dv 6) (dv 3)) (dv 7)) (dv 1)) ak)))) ak)))
  ao)))
  (aa (gn (sX lY PySem.F.slot_list_append PySem.F.type_list_append fJ (dv 2) (aj (dv 5) ak)))
  ao)))))
  (aa (aX (dv 2))
  ao))))
theorem DG(T:Txt w K mg a)(A0:All P w K mg base a d):Fq P w K mg base a (4*(d+1)+108) (d+1) a.gU a.mC ["_law_number","_law_many"] 36:=by
 refine(bJ (k:=4*d+111) T.g_.fn kE rfl fun σ0 cdv A outer s H E hr hp=>?_).mono (by omega)
 exact(aa (bF 2 kE.nd (cZ ak))
  (aa (dF PassesOwn.leaving rfl dg (bV rfl T.bY (aj (dv 1) ak)) (aJ 3 kE.nd)
  (aa (cQ (bx jg (cY hr.units) (aM iJ cH (dv 0) aK) aK (aZ _)) (aa (gn (sX lY PySem.F.slot_list_append PySem.F.type_list_append fJ (dv 2) (aj (dv 3) ak)))
  ao) ao)
  (aa (bF 0 kE.nd (aM Nh vA (dv 0) aK))
  ao)))
  (aa (aX (dv 2))
  ao)))
theorem KZ(T:Txt w K mg a)(A0:All P w K mg base a d):Fq P w K mg base a (4*(d+1)+108) (d+1) a.lH a.rF ["_law_rows_here","_law_pairs"] 37:=by
 refine(bJ (k:=4*d+111) T.jA.fn bO rfl fun σ0 cdv A outer s H E hr hp=>?_).mono (by omega)
 exact(aa (bF 2 bO.nd Za)
  (aa (dF PassesOwn.leaving rfl dg (bV rfl T.bY (gQ (b_ (jf (K:=K)) bh rfl T.dw boot_len (aj (dv 0) ak)) ak)) (aJ 3 bO.nd)
  (aa (dF PassesOwn.leaving rfl dg (bV rfl T.bY (gQ (b_ (jf (K:=K)) bh rfl T.dw boot_len (cO (dY (dv 0) (dv 3)) ak)) ak)) (aJ 4 bO.nd)
  (aa (qY (dY (dY (dv 0) (dv 3)) (dv 4)) (dD rfl (aB (aJ 5 bO.nd) (aB (aJ 6 bO.nd) (aB (aJ 7 bO.nd) cI)))))
  (aa (NZ hr.u1 (dv 2) (cL (aj (dv 5) (aj (dv 7) ak))) (cL (aj (dv 3) (aj (dv 4) (eY aK ak)))))
  (aa (NZ hr.u1 (dv 2) (cL (aj (dv 6) (aj (dv 7) ak))) (cL (aj (dv 3) (aj (dv 4) (GF (Tn Ti FT aK) ak)))))
  ao))))
  ao))
  (aa (bF 8 bO.nd (cZ ak))
  (aa (dF PassesOwn.leaving rfl dg (bV rfl T.bY (aj (dv 1) ak)) (aJ 9 bO.nd)
  (aa (dF PassesOwn.leaving rfl dg (bV rfl T.bY (aj (dv 9) ak)) (aJ 10 bO.nd)
  (aa (bF 11 bO.nd (cZ ak))
  (aa (dF PassesOwn.leaving rfl dg (bV rfl T.bY (bQ (aM gG (L2.OpR.or cG dB) (b_ (jf (K:=K)) bh rfl T.dw boot_len (aj (dv 0) ak)) aK) ak)) (aJ 7 bO.nd)
  (aa (cQ (PW.pt (qX (bx WR (Nx hr.u1) (cL (aj (dv 10) (aj (dv 7) ak))) (dv 2) rfl) (qX (bx WR (Nx hr.u1) (cL (aj (dv 9) (aj (dv 7) ak))) (dv 2) rfl) (pw_and1 (bx Ar (tZ hr.units) (yQ (zc hr.u1 (dv 2) (cL (aj (dv 10) (aj (dv 7) ak)))) Cy (Cz aK)) (yQ (zc hr.u1 (dv 2) (cL (aj (dv 9) (aj (dv 7) ak)))) Cy (Cz aK)) (aZ _)))))) (aa (bF 12 bO.nd (zc hr.u1 (dv 2) (cL (aj (dv 10) (aj (dv 7) ak)))))
  (aa (bF 13 bO.nd (zc hr.u1 (dv 2) (cL (aj (dv 9) (aj (dv 7) ak)))))
  (aa (gn (sX lY PySem.F.slot_list_append PySem.F.type_list_append fJ (dv 11) (qu (cL (cO (dY (dv 12) aK) (cO (dY (dv 13) aK) (bQ (aM qW (L2.OpR.or fK nW) (dY (dv 12) aK) (dY (dv 13) aK)) ak)))) ak)))
  ao))) ao)
  ao))
  (aa (gn (sX lY PySem.F.slot_list_append PySem.F.type_list_append fJ (dv 8) (aj (dv 11) ak)))
  ao))))
  ao))
  (aa (aX (dv 8))
  ao)))))
theorem Jv(T:Txt w K mg a)(A0:All P w K mg base a d):Fq P w K mg base a (4*(d+1)+108) (d+1) a.jN a.qi ["_law_marks","_law_turned"] 38:=by
 refine(bJ (k:=4*d+111) T.iV.fn dN rfl fun σ0 cdv A outer s H E hr hp=>?_).mono (by omega)
 exact(aa (bF 2 dN.nd aK)
  (aa (dF PassesOwn.leaving rfl jW (iM rfl (dv 0)) (aJ 3 dN.nd)
  (aa (bF 4 dN.nd aK)
  (aa (dF PassesOwn.leaving rfl jW (iM rfl (dv 3)) (dD rfl (aB (aJ 5 dN.nd) (aB (aJ 6 dN.nd) (aB (aJ 7 dN.nd) cI))))
  (aa (Rw (i:=4) dN.nd rfl (Or.inl rfl) (qp (bx jg (cY hr.units) (mH (Ni (K:=K)) tY (dv 5) (dv 1) rfl) (mH (Ni (K:=K)) tY (dv 6) (dv 1) rfl) (aZ _)) (dv 7) (Tn Ti FT (dv 7))))
  ao))
  (aa (Rw (i:=2) dN.nd rfl (Or.inl rfl) (aM qW (L2.OpR.or fK nW) (dv 4) (dv 4)))
  ao))))
  (aa (aX (dv 2))
  ao)))
theorem aee(T:Txt w K mg a)(A0:All P w K mg base a d):Fq P w K mg base a (4*(d+1)+108) (d+1) a.wQ a.Mi ["_law_script"] 39:=by
 have SD:=Oz (P:=P) (w:=w) (base:=base) T;have SC:=OJ (P:=P) (w:=w) (base:=base) T;refine(bJ (k:=4*d+111) T.afj.fn oh rfl fun σ0 cdv A outer s H E hr hp=>?_).mono (by omega)
 exact(aa (dF PassesOwn.leaving rfl dg (bV rfl T.bY (eY aK ak)) (aJ 1 oh.nd)
  (aa (bF 2 oh.nd (aan (k:=2) adV T.m5 SD (hr.mono (by omega)) rfl (gQ (aan (k:=1) (adU (K:=K)) T.m6 SC (hr.mono (by omega)) rfl (aj (dv 0) (aj (dv 1) ak))) (uZ (cZ (eY aK (eY aK ak))) ak))))
  (aa (qY (WW A0.Fw T.gY hr hp (cO (dY (dv 2) aK) ak)) (dD rfl (aB (aJ 3 oh.nd) (aB (aJ 4 oh.nd) cI))))
  (aa (bF 5 oh.nd (abk (aa2 T.Jq A0.Fv (hr.mono (by omega)) rfl T.abn T.Ft hp (aj (dv 3) (aj (dv 4) ak)))))
  (aa (bF 6 oh.nd (WW A0.Qm T.m7 hr hp (aj (dv 3) (aj (dv 4) ak))))
  (aa (bF 7 oh.nd (cR A0.Fy T.g_ hr hp (cO (dY (dv 2) aK) (gQ (b_ (jf (K:=K)) bh rfl T.dw boot_len (aj (dv 6) ak)) ak))))
  (aa (Ex (i:=8) oh.nd rfl (Or.inl rfl) (gJ (N':=["_law_at","_law_turned"]) (nt:=1) (idx:=[7]) (N:=["_law_script","_law_k","_law_row","_law_kind","_law_t","_law_plan","_law_rows_here","_law_turned","_law_rest","_law_due","_law_handed"]) (osc:=au tD) rfl rfl (by decide +kernel)) rfl dg (bV rfl T.bY (gQ (b_ (jf (K:=K)) bh rfl T.dw boot_len (aj (dv 6) ak)) ak)) (fun C0 s0 H0 fp0=>(aJ 0 (show List.Nodup (["_law_at","_law_turned"]:List Str) by decide +kernel))) (fun C0 s0 H0 fp0=>(CJ (bx (ym (K:=K)) kJ (dv 0) (dv 1) rfl))) (fun C0 s0 H0 fp0=>(dv 0)) (by decide))
  (aa (bF 9 oh.nd (cR A0.zR T.iV hr hp (gQ (cR A0.BX T.jA hr hp (aj (dv 6) (bQ (aM qW (L2.OpR.or fK nW) aK (dv 4)) ak))) (aj (dv 7) ak))))
  (aa (bF 10 oh.nd (We (ac_ (K:=K)) MJ rfl T.yx boot_list (aj (dv 7) ak)))
  (aa (cQ (PW.pt (uJ (Gz (j0 (cR A0.xU T.fV hr hp (gQ (cR A0.rH T.gj hr hp (aj (dv 5) (aj (dv 10) ak))) (aj (dv 9) ak))) (fun _=>rfl))) (pw_or1 (Gz (j0 (cR A0.xU T.fV hr hp (gQ (cR A0.rH T.gj hr hp (aj (dv 5) (cO (adI (dv 8)) ak))) (aj (dv 9) ak))) (fun _=>rfl)))))) (aa (aX Gv)
  ao) ao)
  (aa (cQ (PW.pt (uJ (bx Ar (tZ hr.units) (dv 10) (dv 7) (aZ _)) (pw_or1 (bx Ar (tZ hr.units) (cR A0.rH T.gj hr hp (aj (dv 5) (aj (dv 10) ak))) (dv 9) (aZ _))))) (aa (aX Gv)
  ao) ao)
  (aa (cQ (bx Ar (tZ hr.units) (cR A0.rH T.gj hr hp (aj (dv 5) (uZ (cZ ak) ak))) (cR A0.zR T.iV hr hp (gQ (cR A0.BX T.jA hr hp (aj (dv 6) (bQ (aM qW (L2.OpR.or fK nW) aK (dv 4)) ak))) (uZ (cZ ak) ak))) (aZ _)) (aa (aX Gv)
  ao) ao)
  ao))))))))))))
  (aa (aX Gv)
  ao))
theorem Zr{a:Adr}{d:Nat}(T:Txt w K mg a)(A0:All P w K mg base a d):All P w K mg base a (d+1):=⟨RG T A0.toAl,Qo T A0,U4 T A0,Zn T A0,Jt T A0,Zo T A0,Zq T A0,abt T A0,O7 T A0,Xd T A0,KJ T A0,Qp T A0,Dw T A0,Hv T A0,KN T A0,Ju T A0,Ae T A0,Af T A0,BZ T A0,KQ T A0,wu T A0,wB T A0,Qq T A0,O8 T A0,O9 T A0,Fz T A0,KY T A0,Hw T A0,Dy T A0,Dz T A0,O_ T A0,DG T A0,KZ T A0,Jv T A0,aee T A0⟩
theorem Xe{a:Adr}(T:Txt w K mg a):∀ d,All P w K mg base a d
 | 0=>all_zero
 | d+1=>Zr T (Xe T d)
end
end My
namespace My
open PySem L2 PyProof.Rows
open Ev
local macro_rules | `(tactic| walk_at "s")=>`(tactic| repeat walk_at "sy")
local macro_rules | `(tactic| walk_at "sy")=>`(tactic| first
 | with_reducible refine aA.mpr ?_
 | with_reducible refine dG.mpr ?_
 | with_reducible refine kY.mpr ?_
 | with_reducible refine oV.mpr ?_
 | with_reducible refine mJ.mpr ?_
 | with_reducible refine ago.mpr ?_
 | with_reducible refine dZ.mpr ?_
 | with_reducible refine yo.mpr ?_
 | with_reducible refine aQ.mpr ?_
 | with_reducible refine cu.mpr ?_
 | with_reducible refine t7.mpr ?_
 | ((with_reducible refine aR (w:=?w) ?e ?_);(case e=>exact rfl))
 | with_reducible refine GQ.mpr ?_
 | with_reducible refine Az.mpr ?_
 | with_reducible refine GR.mpr ?_
 | with_reducible refine aC ?_
 | with_reducible refine aa9 ?_
 | with_reducible refine adN ?_
 | with_reducible refine adO ?_
 | with_reducible refine bR.mpr ?_
 | with_reducible refine jC ?_
 | with_reducible refine xg ?_
 | with_reducible refine qw ?_
 | with_reducible refine T4 ?_
 | with_reducible refine T6 ?_
 | with_reducible refine p_add ?_
 | with_reducible refine ae2 ?_
 | with_reducible refine ae3 ?_
 | with_reducible refine ags ?_
 | with_reducible refine aa_ ?_
 | with_reducible refine aba ?_
 | with_reducible refine af4 ?_
 | with_reducible refine agy ?_
 | with_reducible refine agz ?_
 | with_reducible refine adJ ?_
 | with_reducible refine ae5 ?_
 | with_reducible refine ae6 ?_
 | with_reducible refine ae9 ?_
 | with_reducible refine agp ?_
 | with_reducible refine agt ?_
 | with_reducible refine agu ?_
 | with_reducible refine adM ?_
 | with_reducible refine Y7 ?_
 | ((with_reducible refine ae4 ?e ?_);(case e=>first | decide | omega))
 | ((with_reducible refine aaj ?e ?_);(case e=>exact Nat.le_of_ble_eq_true rfl))
 | ((with_reducible refine ae7 ?e ?_);(case e=>exact Nat.le_of_ble_eq_true rfl))
 | ((with_reducible refine aaf ?e ?f ?_);(case e=>first | decide | omega);(case f=>first | decide | omega)))
theorem Xf{h:Hs}{A:Nat->Prop}{ds:List D}{k:Nat}{xs:List W}(l:k<h.n)(a:A k)(g:h.get k=some (.tup xs))(r:Rds h A ds xs):Ev.Rd h A (.tup ds) (.ref k):=by
 simp only[Ev.Rd];exact⟨k,xs,rfl,l,a,g,r⟩
theorem RL{h:Hs}{A:Nat->Prop}{d:D}{w:W}(r:Ev.Rd h A d w):Rds h A [d] [w]:=by
 unfold Rds;refine⟨_,_,rfl,r,?_⟩;unfold Rds;rfl
theorem Dg{h:Hs}{A:Nat->Prop}:Rds h A [] []:=by unfold Rds;rfl
abbrev bI:=Int × Int × Int
def kiT:List Nat:=[107,105,110,100]
def taT:List Nat:=[116,97,98,108,101,115]
def trT:List Nat:=[116,114,105,111,115]
def rgT:List Nat:=[114,105,110,103]
def skT:List Nat:=[115,107,105,112]
def shT:List Nat:=[115,104,97,114,101,100]
def fiT:List Nat:=[102,105,114,115,116]
def seT:List Nat:=[115,101,99,111,110,100]
structure fM (h:Hs)(p:Nat)(kd:List Nat)(t:Nat)(tr:List bI):Prop where
 lp:p<h.n
 g:∃ pt ws,h.get p=some (.ins 50 [(kiT,.str kd),(taT,.int (t:Int)),(trT,.ref pt)])/\pt<h.n/\h.get pt=some (.lst ws)/\Rds h (fun _=>True) (tr.map D3) ws
 ok:okC kd=true
 t0:0<t
 t9:t<=9
 len:codes kd rgT=true->tr.length+1=t
theorem fM.ext{h h':Hs}{p:Nat}{kd:List Nat}{t:Nat}{tr:List bI}(x:fM h p kd t tr)(e:Ext h h'):fM h' p kd t tr:=
 ⟨aY x.lp e.1,let ⟨pt,ws,a,b,c,d⟩:=x.g;⟨pt,ws,e.get x.lp a,aY b e.1,e.get b c,d.ext e⟩,x.ok,x.t0,x.t9,x.len⟩
def uV(kd:List Nat)(t:Nat):Int:=if codes kd rgT then 2*(t:Int) - 1 else t
def fO(kd:List Nat)(t:Nat):Int:=if codes kd skT then(t:Int) - 1 else uV kd t
def bC(kd:List Nat)(t:Nat)(tr:List bI)(at' tb:Nat):bI:=
 if codes kd rgT then(if tb=0 then(uV kd t,at',at') else(((tr.getD (tb - 1) (0,0,0)).1+at') % uV kd t,((tr.getD (tb - 1) (0,0,0)).2.1+at') % uV kd t,((tr.getD (tb - 1) (0,0,0)).2.2+at') % uV kd t))
 else(tb,t+((tb:Int) - (if codes kd skT&&decide ((t:Int).fdiv 2<=(at':Int)) then(at':Int)+1 else at')) % t,((tb:Int)+(if codes kd shT&&decide ((t:Int).fdiv 2<=(tb:Int)) then(at':Int)+1 else at')) % t)
theorem Zt{kd:List Nat}{t:Nat}(t0:0<t):0<uV kd t:=by unfold uV;split <;> omega
section
variable{d n p t:Nat}{h:Hs}{Q:W->Hs->Prop}{kd:List Nat}{tr:List bI}
theorem Xg(P:fM h p kd t tr)(q:Q (.int (uV kd t)) h):wC 19 [.ref p] (bz Pg (d+1)) (n+1) h Q:=by
 refine(cP rfl rfl).mpr ?_;unfold Bo;obtain⟨pt,ws,g,_⟩:=P.g;have t9:=P.t9;refine aA.mpr (mJ.mpr (dZ.mpr (aQ.mpr (p_ (aR (w:=.ref p) rfl ⟨p,_,_,rfl,g,rfl,?_⟩)))));walk_at "s";refine zg P.ok rfl ?_;unfold uV at q
 cases e:codes kd rgT with
 | true=>
   rw[show codes kd [114,105,110,103] =true from e];rw[e]at q;refine xg (aA.mpr (kY.mpr (dZ.mpr (aQ.mpr (dZ.mpr (aQ.mpr (t7.mpr (aQ.mpr (p_ (aR (w:=.ref p) rfl ⟨p,_,_,rfl,g,rfl,?_⟩))))))))));walk_at "s"
   exact q
 | false=>
   rw[show codes kd [114,105,110,103] =false from e];rw[e]at q;refine qw (bR.mpr (aC (aA.mpr (kY.mpr (p_ (aR (w:=.ref p) rfl ⟨p,_,_,rfl,g,rfl,?_⟩))))));walk_at "s";exact q
theorem Pa(P:fM h p kd t tr)(q:Q (.int (fO kd t)) h):wC 18 [.ref p] (bz Pg (d+2)) (n+2) h Q:=by
 refine(cP rfl rfl).mpr ?_;unfold yr;obtain⟨pt,ws,g,_⟩:=P.g;have t9:=P.t9;refine aA.mpr (mJ.mpr (dZ.mpr (aQ.mpr (p_ (aR (w:=.ref p) rfl ⟨p,_,_,rfl,g,rfl,?_⟩)))));walk_at "s";refine zg P.ok rfl ?_;unfold fO at q
 cases e:codes kd skT with
 | true=>
   rw[show codes kd [115,107,105,112] =true from e];rw[e]at q;refine xg (aA.mpr (kY.mpr (dZ.mpr (aQ.mpr (p_ (aR (w:=.ref p) rfl ⟨p,_,_,rfl,g,rfl,?_⟩))))));walk_at "s"
   exact q
 | false=>
   rw[show codes kd [115,107,105,112] =false from e];rw[e]at q;refine qw (bR.mpr (aC (aA.mpr (kY.mpr (jr (aR (w:=.ref p) rfl ⟨p,_,rfl,g,rfl,cu.mpr (Xg P ?_)⟩))))));walk_at "s";exact q
theorem Jw(P:fM h p kd t tr)(q:Q (.int (2*(t:Int))) h):wC 20 [.ref p] (bz Pg (d+1)) (n+1) h Q:=by
 refine(cP rfl rfl).mpr ?_;unfold zN;obtain⟨pt,ws,g,_⟩:=P.g;have t9:=P.t9;refine aA.mpr (kY.mpr (dZ.mpr (aQ.mpr (t7.mpr (aQ.mpr (p_ (aR (w:=.ref p) rfl ⟨p,_,_,rfl,g,rfl,?_⟩)))))));walk_at "s";exact q
theorem B_{i:Int}(P:fM h p kd t tr)(i0:0<=i)(i1:i<fO kd t)(q:Q .non h):wC 21 [.ref p,.int i] (bz Pg (d+3)) (n+3) h Q:=by
 refine(cP rfl rfl).mpr ?_;unfold t_;obtain⟨pt,ws,g,_⟩:=P.g;refine aA.mpr (mJ.mpr (GR.mpr ?_));walk_at "s";refine CP (decide_eq_false (by omega)) ?_;refine dZ.mpr (aQ.mpr (aR (w:=.int i) rfl (aQ.mpr (jr (aR (w:=.ref p) rfl ⟨p,_,rfl,g,rfl,cu.mpr (Pa P ?_)⟩)))));walk_at "s";refine CP (decide_eq_false (by omega)) ?_;walk_at "s";exact q
theorem Pb{i:Int}(P:fM h p kd t tr)(i0:0<=i)(i1:i<t)(q:Q .non h):wC 22 [.ref p,.int i] (bz Pg (d+1)) (n+1) h Q:=by
 refine(cP rfl rfl).mpr ?_;unfold uc;obtain⟨pt,ws,g,_⟩:=P.g;refine aA.mpr (mJ.mpr (GR.mpr ?_));walk_at "s";refine CP (decide_eq_false (by omega)) ?_;refine dZ.mpr (aQ.mpr (aR (w:=.int i) rfl (aQ.mpr (p_ (aR (w:=.ref p) rfl ⟨p,_,_,rfl,g,rfl,?_⟩)))));walk_at "s";refine CP (decide_eq_false (by omega)) ?_;walk_at "s";exact q
theorem Qs{i:Int}(P:fM h p kd t tr)(i0:0<=i)(i1:i<2*(t:Int))(q:Q .non h):wC 23 [.ref p,.int i] (bz Pg (d+2)) (n+2) h Q:=by
 refine(cP rfl rfl).mpr ?_;unfold uE;obtain⟨pt,ws,g,_⟩:=P.g;refine aA.mpr (mJ.mpr (GR.mpr ?_));walk_at "s";refine CP (decide_eq_false (by omega)) ?_;refine dZ.mpr (aQ.mpr (aR (w:=.int i) rfl (aQ.mpr (jr (aR (w:=.ref p) rfl ⟨p,_,rfl,g,rfl,cu.mpr (Jw P ?_)⟩)))));walk_at "s";refine CP (decide_eq_false (by omega)) ?_;walk_at "s";exact q
def O3(s:bI):O:=.tup [.int s.1,.int s.2.1,.int s.2.2]
theorem afp{i j:Nat}(P:fM h p kd t tr)(kr:codes kd rgT=true)(lj:j<t)(q:Q (.ref h.n) (h.push (O3 (bC kd t tr i j)))):wC 25 [.ref p,.int (i:Int),.int (j:Int)] (bz Pg (d+2)) (n+2) h Q:=by
 refine(cP rfl rfl).mpr ?_;unfold pR;obtain⟨pt,ws,g,lpt,gpt,rt⟩:=P.g;have sp:=Zt (kd:=kd) P.t0;refine aA.mpr (dG.mpr (jr (aR (w:=.ref p) rfl ⟨p,_,rfl,g,rfl,cu.mpr (Xg P ?_)⟩)));walk_at "s";unfold bC at q;rw[if_pos kr]at q;refine Y8 (fun e=>?_) fun e=>?_
 · have ej:j=0:=by omega
   rw[if_pos ej]at q;walk_at "s";exact q
 · have nj:¬ j=0:=fun z=>e (by omega);rw[if_neg nj]at q;have lt:=P.len kr;obtain⟨x,ex⟩:∃ x,tr[j - 1]? =some x:=⟨_,List.getElem?_eq_getElem (by omega)⟩;have egx:tr.getD (j - 1) (0,0,0)=x:=by rw[List.getD,ex];rfl
   rw[egx]at q;obtain⟨wx,ewx,rdx⟩:=Rds.get rt (show(tr.map D3)[j - 1]? =some (D3 x) by rw[List.getElem?_map,ex];rfl);obtain⟨c,rfl,lc,_,gc⟩:=Ud.mp rdx;refine bR.mpr (aC (aA.mpr (Fe (dZ.mpr (aQ.mpr (p_ (aR (w:=.ref p) rfl ⟨p,_,_,rfl,g,rfl,?_⟩)))))));walk_at "s";refine aai gpt (by omega) (by rw[show((j:Int) - 1).toNat=j - 1 by omega];exact ewx) ?_;refine⟨c,_,_,_,rfl,gc,?_⟩;refine aC (aA.mpr (kY.mpr ?_));walk_at "s";exact q
theorem afq{i j:Nat}(P:fM h p kd t tr)(kr:codes kd rgT=false)(q:Q (.ref h.n) (h.push (O3 (bC kd t tr i j)))):wC 26 [.ref p,.int (i:Int),.int (j:Int)] (bz Pg (d+1)) (n+1) h Q:=by
 refine(cP rfl rfl).mpr ?_;unfold pU;obtain⟨pt,ws,g,lpt,gpt,rt⟩:=P.g;have t0:(0:Int)<t:=by have:=P.t0;omega
 unfold bC at q;rw[if_neg (by rw[kr];decide)]at q;refine aA.mpr (dG.mpr (p_ (aR (w:=.ref p) rfl ⟨p,_,_,rfl,g,rfl,?_⟩)));refine aC (aA.mpr (dG.mpr ?_));walk_at "s";refine WK (by decide) (by decide) ?_;generalize (t:Int).fdiv 2=hf at q ⊢
 have back:∀ {τ:Sg} {c:List Nat} {k:Nat} {z:Nat} {Q':W->Hs->Prop},okC c=true->cD τ 0=some (.ref p)->cD τ 1=some (.int (i:Int))->cD τ k=some (.int (z:Int))->cD τ 4=some (.int hf)->Q' (.int (if codes kd c&&decide (hf<=(z:Int)) then(i:Int)+1 else i)) h->wX (.ite (.and (.pr .eq [(.fld 50 (.var 0) [107,105,110,100]),(.cst (.str c))]) (.pr .ge [(.var k),(.var 4)])) (.pr .add [(.var 1),(.cst (.int 1))]) (.var 1)) (bz Pg d) n τ h Q':=by
  intro τ c k z Q' oc e0 e1 ek e4 q';refine GQ.mpr (Az.mpr (dZ.mpr (aQ.mpr (p_ (aR e0 ⟨p,_,_,rfl,g,rfl,?_⟩)))));walk_at "s";refine zg P.ok oc ?_
  cases e:codes kd c with
  | false=>
    rw[e]at q'
    exact qw (qw (aR e1 q'))
  | true=>
    rw[e,Bool.true_and]at q';refine xg (dZ.mpr (aQ.mpr (aR ek (aQ.mpr (aR e4 (cu.mpr (adJ ?_)))))));refine Y8 (fun y=>?_) fun y=>?_
    · rw[if_pos (decide_eq_true y)]at q';refine dZ.mpr (aQ.mpr (aR e1 ?_));walk_at "s";exact q'
    · rw[if_neg (by rw[decide_eq_false y];decide)]at q';exact aR e1 q'
 refine aC (aA.mpr (dG.mpr (back (z:=i) rfl rfl rfl rfl rfl ?_)));refine aC (aA.mpr (dG.mpr (back (z:=j) rfl rfl rfl rfl rfl ?_)));refine aC (aA.mpr (kY.mpr (dZ.mpr (aQ.mpr ?_))));walk_at "s";exact q
theorem Xh{i j:Nat}(P:fM h p kd t tr)(li:(i:Int)<fO kd t)(lj:j<t)(q:Q (.ref h.n) (h.push (O3 (bC kd t tr i j)))):wC 24 [.ref p,.int (i:Int),.int (j:Int)] (bz Pg (d+4)) (n+4) h Q:=by
 refine(cP rfl rfl).mpr ?_;unfold Bp;obtain⟨pt,ws,g,lpt,gpt,rt⟩:=P.g;refine aA.mpr (oV.mpr (jr (aR (w:=.ref p) rfl ⟨p,_,rfl,g,rfl,aQ.mpr (aR (w:=.int (i:Int)) rfl (cu.mpr (B_ (d:=d) (n:=n) P (by omega) li ?_)))⟩)));refine aC (aA.mpr (oV.mpr (jr (aR (w:=.ref p) rfl ⟨p,_,rfl,g,rfl,aQ.mpr (aR (w:=.int (j:Int)) rfl (cu.mpr (Pb (d:=d+2) (n:=n+2) P (by omega) (by omega) ?_)))⟩))));refine aC (aA.mpr (mJ.mpr (dZ.mpr (aQ.mpr (p_ (aR (w:=.ref p) rfl ⟨p,_,_,rfl,g,rfl,?_⟩))))));walk_at "s";refine zg P.ok rfl ?_
 cases e:codes kd rgT with
 | true=>
   rw[show codes kd [114,105,110,103] =true from e];refine xg (aA.mpr (kY.mpr (jr (aR (w:=.ref p) rfl ⟨p,_,rfl,g,rfl,aQ.mpr (aR (w:=.int (i:Int)) rfl (aQ.mpr (aR (w:=.int (j:Int)) rfl (cu.mpr (afp (d:=d+1) (n:=n+1) P e lj ?_)))))⟩))));walk_at "s"
   exact q
 | false=>
   rw[show codes kd [114,105,110,103] =false from e];refine qw (bR.mpr (aC (aA.mpr (kY.mpr (jr (aR (w:=.ref p) rfl ⟨p,_,rfl,g,rfl,aQ.mpr (aR (w:=.int (i:Int)) rfl (aQ.mpr (aR (w:=.int (j:Int)) rfl (cu.mpr (afq (d:=d+2) (n:=n+2) P e ?_)))))⟩))))));walk_at "s";exact q
end
def gm(s:Nat->bI):Nat->Int->Option (Nat × Bool)
 | 0,_=>none
 | j+1,x=>if(s j).2.1=x then some (j,false) else if(s j).1=x then some (j,true) else gm s j x
def tU(b:Bool):List Nat:=if b then fiT else seT
def pI(h:Hs)(f:Nat)(kvs:List (W × W))(F:Int->Option (Nat × Bool)):Prop:=∀ x,match F x with
 | none=>bD kvs (.int x)=none
 | some (j,b)=>∃ q,bD kvs (.int x)=some (.ref q)/\q<h.n/\q ≠ f/\h.get q=some (.tup [.int (j:Int),.str (tU b)])
theorem pI.to{h h':Hs}{f:Nat}{kvs:List (W × W)}{F:Int->Option (Nat × Bool)}(x:pI h f kvs F)(n:h.n<=h'.n)(e:∀ k,k<h.n->k ≠ f->h'.get k=h.get k):pI h' f kvs F:=fun y=>by
 have z:=x y
 cases hF:F y with
 | none=>rw[hF]at z;exact z
 | some jb=>
   rw[hF]at z;obtain⟨q,a,b,c,g⟩:=z;exact⟨q,a,by omega,c,(e q b c).trans g⟩
theorem pI.put{h:Hs}{f:Nat}{kvs:List (W × W)}{F:Int->Option (Nat × Bool)}(x:pI h f kvs F){q j:Nat}{b:Bool}{k:Int}(lq:q<h.n)(nq:q ≠ f)(g:h.get q=some (.tup [.int (j:Int),.str (tU b)])):pI h f (dM kvs (.int k) (.ref q)) fun y=>if k=y then some (j,b) else F y:=fun y=>by
 show match (if k=y then some (j,b) else F y) with | none=>_ | some (j,b)=>_
 by_cases e:k=y
 · rw[if_pos e];exact⟨q,by rw[Oc rfl,if_pos (by rw[e])],lq,nq,g⟩
 · rw[if_neg e];have ne:W.int k ≠ .int y:=fun z=>e (by cases z;rfl);have z:=x y
   cases hF:F y with
   | none=>rw[hF]at z;show bD _ _=none;rw[Oc rfl,if_neg ne];exact z
   | some jb=>
     rw[hF]at z;obtain⟨q',a,b,c,g⟩:=z;exact⟨q',by rw[Oc rfl,if_neg ne];exact a,b,c,g⟩
section
variable{d n p t:Nat}{h:Hs}{Q:W->Hs->Prop}{kd:List Nat}{tr:List bI}
theorem U5{i:Nat}(P:fM h p kd t tr)(li:(i:Int)<fO kd t)(q:∀ f kvs h',Ext h h'->f<h'.n->h'.get f=some (.dk kvs)->pI h' f kvs (gm (bC kd t tr i) t)->Q (.ref f) h'):wC 0 [.ref p,.int (i:Int)] (bz Pg (d+5)) (n+30) h Q:=by
 refine(cP rfl rfl).mpr ?_;unfold G8;have t9:=P.t9;refine aA.mpr (dG.mpr (dZ.mpr (cu.mpr (WY ?_))));have P1:=P.ext (Ext.push (o:=.dk []));obtain⟨pt,ws,g,_⟩:=P1.g;refine aC (aA.mpr (n_ (k_ (p_ (aR (w:=.ref p) rfl ⟨p,_,_,rfl,g,rfl,?_⟩)))));refine⟨t,rfl,by omega,by omega,j6 0 t,fun j τ h2=>∃ u3 u4 u5 kvs,τ= [some (.ref p),some (.int (i:Int)),some (.ref h.n),u3,u4,u5]/\Ext h h2/\h.n<h2.n/\h2.get h.n=some (.dk kvs)/\pI h2 h.n kvs (gm (bC kd t tr i) j)/\kvs.length<=2*j,fun _ _ _ _=>jl,by rw[aH];omega,⟨none,none,none,[],rfl,.push,bN,aO,fun x=>rfl,by simp⟩,?_,?_⟩
 · rintro j w τ h2 m ej lm ⟨u3,u4,u5,kvs,rfl,x2,l2,g2,hs,lk⟩;have lj:j<t:=by have:=(a_ ej).1;rw[aH]at this;exact this
   rw[f9 lj]at ej;cases ej;rw[show(0:Int)+Int.ofNat j=(j:Int) by show 0+(j:Int)=(j:Int);omega];rw[aH]at lm;obtain⟨m,rfl⟩:∃ m',m=m'+4:=⟨m - 4,by omega⟩;have P2:=P.ext x2;obtain⟨pt2,ws2,gg2,_⟩:=P2.g;refine⟨[some (.ref p),some (.int (i:Int)),some (.ref h.n),some (.int (j:Int)),u4,u5],rfl,?_⟩;refine aA.mpr (CQ (Bb (jr (aR (w:=.ref p) rfl ⟨p,_,rfl,gg2,rfl,aQ.mpr (aR (w:=.int (i:Int)) rfl (aQ.mpr (aR (w:=.int (j:Int)) rfl (cu.mpr (Xh (d:=d) (n:=m) P2 li lj ?_)))))⟩))));generalize hs':bC kd t tr i j=s;refine t7.mpr ⟨h2.n,[.int s.1,.int s.2.1,.int s.2.2],2,rfl,rfl,Nat.lt_succ_self 2,aO,?_⟩;refine⟨_,.int s.1,.int s.2.1,rfl,aO,?_⟩;have x3:Ext h2 ((h2.push (O3 s)).push (.tup (List.take 2 [W.int s.1,.int s.2.1,.int s.2.2]))):=Ext.push.trans .push;have g3:=x3.get l2 g2;have l3:=aY l2 x3.1;have hs3:=hs.to x3.1 fun k l _=>x3.2 k l;generalize (h2.push (O3 s)).push (.tup (List.take 2 [W.int s.1,.int s.2.1,.int s.2.2]))=h3 at *;refine aC (aA.mpr (Jj ?_));walk_at "s";refine⟨h.n,kvs,rfl,Ext.push.get l3 g3,rfl,by omega,?_⟩
   have hs4:pI ((h3.push (.tup [.int (j:Int),.str [102,105,114,115,116]])).set h.n (.dk (dM kvs (.int s.1) (.ref h3.n)))) h.n (dM kvs (.int s.1) (.ref h3.n)) fun y=>if s.1=y then some (j,true) else gm (bC kd t tr i) j y:=
    pI.to (h:=h3.push (.tup [.int (j:Int),.str [102,105,114,115,116]])) ((hs3.to Ext.push.1 fun k l _=>Ext.push.2 k l).put bN (by omega) aO) (by rw[Hs.dh];exact az _) fun k l n=>by rw[Hs.get_set,if_neg n]
   have x4:Ext h ((h3.push (.tup [.int (j:Int),.str [102,105,114,115,116]])).set h.n (.dk (dM kvs (.int s.1) (.ref h3.n)))):=((x2.trans x3).trans .push).set (az _);have l4:h.n<((h3.push (.tup [.int (j:Int),.str [102,105,114,115,116]])).set h.n (.dk (dM kvs (.int s.1) (.ref h3.n)))).n:=by rw[Hs.dh,Hs.iw];omega
   have g4:((h3.push (.tup [.int (j:Int),.str [102,105,114,115,116]])).set h.n (.dk (dM kvs (.int s.1) (.ref h3.n)))).get h.n=some (.dk (dM kvs (.int s.1) (.ref h3.n))):=by rw[Hs.get_set,if_pos rfl]
   have lk4:=Bf kvs (.int s.1) (.ref h3.n);generalize (h3.push (.tup [.int (j:Int),.str [102,105,114,115,116]])).set h.n (.dk (dM kvs (.int s.1) (.ref h3.n)))=h4 at *;generalize dM kvs (.int s.1) (.ref h3.n)=kv4 at *;refine aC (aA.mpr (Jj ?_));walk_at "s";refine⟨h.n,kv4,rfl,Ext.push.get l4 g4,rfl,by omega,?_⟩
   have hs5:pI ((h4.push (.tup [.int (j:Int),.str [115,101,99,111,110,100]])).set h.n (.dk (dM kv4 (.int s.2.1) (.ref h4.n)))) h.n (dM kv4 (.int s.2.1) (.ref h4.n)) fun y=>if s.2.1=y then some (j,false) else if s.1=y then some (j,true) else gm (bC kd t tr i) j y:=
    pI.to (h:=h4.push (.tup [.int (j:Int),.str [115,101,99,111,110,100]])) ((hs4.to Ext.push.1 fun k l _=>Ext.push.2 k l).put bN (by omega) aO) (by rw[Hs.dh];exact az _) fun k l n=>by rw[Hs.get_set,if_neg n]
   refine aC (bR.mpr (jC ⟨_,_,_,_,rfl,(x4.trans .push).set (az _),by rw[Hs.dh,Hs.iw];omega,by rw[Hs.get_set,if_pos rfl],?_,by have:=Bf kv4 (.int s.2.1) (.ref h4.n);omega⟩));have e:gm (bC kd t tr i) (j+1)=fun y=>if s.2.1=y then some (j,false) else if s.1=y then some (j,true) else gm (bC kd t tr i) j y:=by funext y;rw[gm,hs']
   rw[e];exact hs5
 · rintro τ h2 ⟨u3,u4,u5,kvs,rfl,x2,l2,g2,hs,lk⟩;walk_at "s";rw[aH]at hs;exact q h.n kvs h2 x2 l2 g2 hs
abbrev Meet:=Nat × Bool × Int × Int
def Mq(s:Nat->bI)(jb:Nat × Bool):Meet:=(jb.1,jb.2,if jb.2 then(s jb.1).2.1 else(s jb.1).1,(s jb.1).2.2)
abbrev D4(m:Meet):D:=.tup [.int (m.1:Int),.str (tU m.2.1),.int m.2.2.1,.int m.2.2.2]
theorem Ph{s:Nat->bI}{x:Int}{jb:Nat × Bool}:∀ {t:Nat},gm s t x=some jb->jb.1<t
 | 0,e=>by cases e
 | t+1,e=>by
   unfold gm at e
   split at e
   · cases e;exact Nat.lt_succ_self _
   · split at e
     · cases e;exact Nat.lt_succ_self _
     · have:=Ph e;omega
theorem Xi{i:Nat}{x:Int}{jb:Nat × Bool}(P:fM h p kd t tr)(li:(i:Int)<fO kd t)(hw:gm (bC kd t tr i) t x=some jb)(q:∀ f h',Ext h h'->h.n<=f->f<h'.n->h'.get f=some (.tup [.int (jb.1:Int),.str (tU jb.2),.int (Mq (bC kd t tr i) jb).2.2.1,.int (Mq (bC kd t tr i) jb).2.2.2])->Q (.ref f) h'):wC 1 [.ref p,.int (i:Int),.int x] (bz Pg (d+6)) (n+40) h Q:=by
 refine(cP rfl rfl).mpr ?_;unfold Kf;refine aA.mpr (CQ (dZ.mpr (aQ.mpr (yo.mpr ?_))));walk_at "s";refine U5 (d:=d) (n:=n+9) P li fun f kvs h1 x1 l1 g1 hs=>?_;walk_at "s";have z:=hs x;rw[hw]at z;obtain⟨qq,e1,lq,nq,gq⟩:=z;refine W0 g1 rfl e1 ⟨qq,_,_,rfl,gq,?_⟩;have P1:=P.ext x1;obtain⟨pt,ws,g,_⟩:=P1.g;refine aC (aA.mpr (Fe (jr (aR (w:=.ref p) rfl ⟨p,_,rfl,g,rfl,aQ.mpr (aR (w:=.int (i:Int)) rfl (aQ.mpr (aR (w:=.int (jb.1:Int)) rfl (cu.mpr (Xh (d:=d+1) (n:=n+35) P1 li (Ph hw) ?_)))))⟩))));refine⟨h1.n,_,_,_,rfl,aO,?_⟩;unfold Mq at q;generalize bC kd t tr i jb.1=s at q;obtain⟨j,b⟩:=jb;refine aC (aA.mpr (dG.mpr (GQ.mpr ?_)));walk_at "s"
 cases b with
 | true=>
   refine zg rfl rfl (xg ?_);walk_at "s"
   exact q _ _ (x1.trans (Ext.push.trans .push)) (Nat.le_trans x1.1 Ext.push.1) bN aO
 | false=>
   refine zg rfl rfl (qw ?_);walk_at "s";exact q _ _ (x1.trans (Ext.push.trans .push)) (Nat.le_trans x1.1 Ext.push.1) bN aO
def jZ(S:Nat->Nat->bI)(t:Nat)(x:Int)(m:Nat):List Meet:=(List.range m).map fun i=>match gm (S i) t x with
 | some jb=>Mq (S i) jb
 | none=>(0,true,0,0)
theorem abu{x:Int}{m:Nat}(P:fM h p kd t tr)(em:fO kd t=m)(lm:m<=20)(x0:0<=x)(x1:x<2*(t:Int))(hw:∀ i,i<m->(gm (bC kd t tr i) t x).isSome=true)(q:∀ f us h',Ext h h'->h.n<=f->f<h'.n->h'.get f=some (.lst us)->Rds h' (fun k=>h.n<=k) ((jZ (bC kd t tr) t x m).map D4) us->Q (.ref f) h'):wC 2 [.ref p,.int x] (bz Pg (d+7)) (n+80) h Q:=by
 refine(cP rfl rfl).mpr ?_;unfold Rz;obtain⟨pt,ws,g,_⟩:=P.g;refine aA.mpr (oV.mpr (jr (aR (w:=.ref p) rfl ⟨p,_,rfl,g,rfl,aQ.mpr (aR (w:=.int x) rfl (cu.mpr (Qs (d:=d+4) (n:=n+77) P x0 x1 ?_)))⟩)));refine aC (aA.mpr (kY.mpr (comp_map (k_ (jr (aR (w:=.ref p) rfl ⟨p,_,rfl,g,rfl,cu.mpr (Pa (d:=d+4) (n:=n+77) P ?_)⟩))))));rw[em];refine⟨m,rfl,by omega,by omega,.refl,j6 0 m,(jZ (bC kd t tr) t x m).map D4,fun _=>False,fun _ _=>jl,fun _ z=>z.elim,by rw[aH];simp[jZ],by rw[aH];omega,by rw[aH];omega,?_,?_⟩
 · intro i w d' h2 k ei ed lk x2 l2;have li:i<m:=by have:=(a_ ei).1;rw[aH]at this;exact this
   rw[f9 li]at ei;cases ei;rw[show(0:Int)+Int.ofNat i=(i:Int) by show 0+(i:Int)=(i:Int);omega];rw[aH]at lk;obtain⟨k,rfl⟩:∃ k',k=k'+40:=⟨k - 40,by omega⟩;unfold jZ at ed;rw[List.getElem?_map,List.getElem?_map,List.getElem?_range li]at ed;simp only[Option.map_some,Option.some.injEq]at ed
   cases hF:gm (bC kd t tr i) t x with
   | none=>have:=hw i li;rw[hF]at this;cases this
   | some jb=>
     rw[hF]at ed;subst ed;refine⟨[some (.int (i:Int)),some (.ref p),some (.int x)],rfl,?_⟩;walk_at "s";refine Xi (d:=d) (n:=k) (P.ext x2) (by rw[em];omega) hF fun f h3 x3 lo3 l3 g3=>⟨x3,?_⟩
     exact Xf l3 (.inr lo3) g3 (by
      unfold Rds;refine⟨_,_,rfl,yp,?_⟩;unfold Rds;refine⟨_,_,rfl,N5,?_⟩;unfold Rds;refine⟨_,_,rfl,yp,?_⟩
      exact RL yp)
 · intro h3 x3 r3;obtain⟨f,us,e,lf,_,gf,rf⟩:=vH.mp r3;cases e;walk_at "s";exact q h.n us h3 x3 (az _) lf gf (rf.imp fun k _ a=>a.elim (fun z=>z.elim) id)
end
abbrev DR(r:List bI):D:=.lst (r.map D3)
theorem aas{h:Hs}{τ:Sg}{i j l k:Nat}{a b c:W}(e:h.get k=some (.tup [a,b,c])):bf h 9 (.tup [.nm i,.nm j,.nm l]) (.ref k) τ=some (setAt (setAt (setAt τ (some a) i) (some b) j) (some c) l):=by
 show Option.rec (motive:=fun _=>Option Sg) none (fun o=>O.rec (motive:=fun _=>Option Sg) (fun xs=>bindL (bf h 8) [.nm i,.nm j,.nm l] xs τ) (fun _=>none) (fun _ _=>none) (fun _=>none) (fun _=>none) (fun _=>none) o) (h.get k)=_;rw[e];rfl
section
variable{d n:Nat}{h:Hs}{Q:W->Hs->Prop}
theorem Qt{z:Int}{m:Nat}(lm:m<=12)(q:∀(f:Nat) (ts:List Nat) (h':Hs),Ext h h'->h.n<=f->f<h'.n->h'.get f=some (.lst ((ts.map Int.ofNat).map W.int))->(∀ x ∈ ts,x<m)->ts.Pairwise (· < ·)->Q (.ref f) h'):wC 36 [.int z,.int (m:Int)] (bz Pg (d+1)) (n+60) h Q:=by
 refine(cP rfl rfl).mpr ?_;unfold vX;walk_at "s";refine n_ (k_ ?_);walk_at "s";refine⟨m,rfl,by omega,by omega,j6 0 m,fun i τ h2=>∃(z':Int) (u:Option W) (ts:List Nat),τ= [some (.int z'),some (.int (m:Int)),some (.ref h.n),u]/\Ext h h2/\h.n<h2.n/\h2.get h.n=some (.lst ((ts.map Int.ofNat).map W.int))/\ts.length<=i/\(∀ x ∈ ts,x<i)/\ts.Pairwise (· < ·),fun _ _ _ _=>jl,by rw[aH];omega,⟨z,none,[],rfl,.push,bN,aO,by simp,by simp,.nil⟩,?_,?_⟩
 · rintro i w τ h2 k ei lk ⟨z',u,ts,rfl,x2,l2,g2,lts,hts,pw⟩;have li:i<m:=by have:=(a_ ei).1;rw[aH]at this;exact this
   rw[f9 li]at ei;cases ei;rw[show(0:Int)+Int.ofNat i=Int.ofNat i by show 0+(i:Int)=(i:Int);omega];refine⟨[some (.int z'),some (.int (m:Int)),some (.ref h.n),some (.int (Int.ofNat i))],rfl,?_⟩;refine aA.mpr (mJ.mpr ?_);walk_at "s"
   have tail:∀(ts:List Nat) (h3:Hs),Ext h h3->h.n<h3.n->h3.get h.n=some (.lst ((ts.map Int.ofNat).map W.int))->ts.length<=i+1->(∀ x ∈ ts,x<i+1)->ts.Pairwise (· < ·)->wS [.asg (.nm 0) (.pr .fdiv [(.var 0),(.cst (.int 2))])] (bz Pg d) k [some (.int z'),some (.int (m:Int)),some (.ref h.n),some (.int (Int.ofNat i))] h3 (lpQ (fun τ h2=>∃(z':Int) (u:Option W) (ts:List Nat),τ= [some (.int z'),some (.int (m:Int)),some (.ref h.n),u]/\Ext h h2/\h.n<h2.n/\h2.get h.n=some (.lst ((ts.map Int.ofNat).map W.int))/\ts.length<=i+1/\(∀ x ∈ ts,x<i+1)/\ts.Pairwise (· < ·)) fun f h=>Ma [.ret (.var 2)] (bz Pg d) (n+59) h (TV Q) f):=fun ts h3 x3 l3 g3 lt3 a b=>by
    walk_at "s";refine WK (by decide) (by decide) ?_;walk_at "s";exact⟨_,_,ts,rfl,x3,l3,g3,lt3,a,b⟩
   refine Y8 (fun _=>?_) fun _=>?_
   · refine aA.mpr (oV.mpr (yX (aR (w:=.ref h.n) rfl ⟨h.n,_,rfl,g2,?_⟩)));walk_at "s";refine⟨_,g2,by rw[List.length_map,List.length_map];omega,aC (bR.mpr (aC (tail (ts ++ [i]) _ (x2.set (az _)) (by rw[Hs.dh];exact l2) (by rw[Hs.get_set,if_pos rfl,List.map_append,List.map_append];rfl) (by simp;omega) (fun x hx=>?_) ?_)))⟩
     · rcases List.mem_append.mp hx with y | y
       · have:=hts x y;omega
       · rw[List.mem_singleton.mp y];omega
     · exact List.pairwise_append.mpr ⟨pw,by simp,fun a ha b hb=>by rw[List.mem_singleton.mp hb];exact hts a ha⟩
   · exact bR.mpr (aC (tail ts h2 x2 l2 g2 (by omega) (fun x hx=>by have:=hts x hx;omega) pw))
 · rintro τ h2 ⟨z',u,ts,rfl,x2,l2,g2,_,hts,pw⟩;walk_at "s";rw[aH]at hts;exact q h.n ts h2 x2 (az _) l2 g2 hts pw
end
abbrev Lnk:=Nat × Nat × Bool
abbrev DL(l:Lnk):D:=.tup [.int (l.1:Int),.int (l.2.1:Int),.bl l.2.2]
def v9(G:List Meet):Nat->Int->Option (Nat × Bool)
 | 0,_=>none
 | j+1,nb=>match G[j]? with
   | some m=>if m.2.2.2=nb then some (j,m.2.1) else v9 G j nb
   | none=>v9 G j nb
def tV(F:Int->Option (Nat × Bool))(y:Int)(j:Nat)(m:Meet):List Lnk:=match F m.2.2.2 with
 | some (a,b)=>if m.2.2.1=y then [] else [(j,a,m.2.1==b)]
 | none=>[]
def tW(G:List Meet)(F:Int->Option (Nat × Bool))(y:Int):Nat->List Lnk
 | 0=>[]
 | j+1=>tW G F y j++match G[j]? with
   | some m=>tV F y j m
   | none=>[]
theorem Xj(F:Int->Option (Nat × Bool))(y:Int)(j:Nat)(m:Meet):(tV F y j m).length<=1:=by
 unfold tV
 split
 · split <;> simp
 · simp
theorem wU(G:List Meet)(F:Int->Option (Nat × Bool))(y:Int):∀ j,(tW G F y j).length<=j
 | 0=>az _
 | j+1=>by
   unfold tW;have:=wU G F y j;rw[List.length_append]
   split
   · rename_i m _;have:=Xj F y j m;omega
   · simp;omega
theorem aat{h:Hs}{τ:Sg}{k:Nat}{x a b c e:W}(lk:k<h.n)(z:h.get k=some (.tup [a,b,c,e])):bf (h.push (.tup [x,.ref k])) 9 (.tup [.nm 4,.tup [.nm 5,.nm 6,.nm 7,.nm 8]]) (.ref h.n) τ=some (setAt (setAt (setAt (setAt (setAt τ (some x) 4) (some a) 5) (some b) 6) (some c) 7) (some e) 8):=by
 have z2:=(Ext.push (o:=.tup [x,.ref k])).get lk z;have z1:(h.push (.tup [x,.ref k])).get h.n=some (.tup [x,.ref k]):=aO;generalize h.push (.tup [x,.ref k])=g at *;show Option.rec (motive:=fun _=>Option Sg) none (fun o'=>O.rec (motive:=fun _=>Option Sg) (fun xs=>bindL (bf g 8) [.nm 4,.tup [.nm 5,.nm 6,.nm 7,.nm 8]] xs τ) (fun _=>none) (fun _ _=>none) (fun _=>none) (fun _=>none) (fun _=>none) o') (g.get h.n)=_;rw[z1];show Option.rec (motive:=fun _=>Option Sg) none (fun τ'=>bindL (bf g 8) [] [] τ') (Option.rec (motive:=fun _=>Option Sg) none (fun o'=>O.rec (motive:=fun _=>Option Sg) (fun xs=>bindL (bf g 7) [.nm 5,.nm 6,.nm 7,.nm 8] xs (setAt τ (some x) 4)) (fun _=>none) (fun _ _=>none) (fun _=>none) (fun _=>none) (fun _=>none) o') (g.get k))=_;rw[z2];rfl
theorem aef{h:Hs}{A:Nat->Prop}{m:Meet}{w:W}(r:Ev.Rd h A (D4 m) w):∃ p,w= .ref p/\p<h.n/\A p/\h.get p=some (.tup [.int (m.1:Int),.str (tU m.2.1),.int m.2.2.1,.int m.2.2.2]):=by
 simp only[D4,Ev.Rd,Rds]at r;obtain⟨p,ws,rfl,l,a,g,_,_,rfl,rfl,_,_,rfl,rfl,_,_,rfl,rfl,_,_,rfl,rfl,rfl⟩:=r;exact⟨p,rfl,l,a,g⟩
theorem abv(a b:Bool):codes (tU a) (tU b)=(a==b):=by cases a <;> cases b <;> rfl
theorem RM(a:Bool):okC (tU a)=true:=by cases a <;> rfl
section
variable{d n pg:Nat}{h:Hs}{Q:W->Hs->Prop}{A B:Nat->Prop}
theorem abw{x y:Int}{p1 p2:Nat}{G1 G2:List Meet}{ws1 ws2:List W}(hx:∀(h':Hs) (Q':W->Hs->Prop),Ext h h'->Q' (.ref p1) h'->wP .ixd [.ref pg,.int x] h' Q')(hy:∀(h':Hs) (Q':W->Hs->Prop),Ext h h'->Q' (.ref p2) h'->wP .ixd [.ref pg,.int y] h' Q')
 (l1:p1<h.n) (g1:h.get p1=some (.lst ws1)) (r1:Rds h A (G1.map D4) ws1) (l2:p2<h.n) (g2:h.get p2=some (.lst ws2)) (r2:Rds h B (G2.map D4) ws2) (m1:G1.length<=20) (m2:G2.length<=20)
 (q:∀(f:Nat) (us:List W) (h':Hs),Ext h h'->f<h'.n->h'.get f=some (.lst us)->Rds h' (fun k=>h.n<=k/\k ≠ f) ((tW G1 (v9 G2 G2.length) y G1.length).map DL) us->h.n<=f->Q (.ref f) h'):wC 4 [.ref pg,.int x,.int y] (bz Pg (d+1)) (n+60) h Q:=by
 refine(cP rfl rfl).mpr ?_;unfold RB;have w1:ws1.length=G1.length:=by rw[r1.length,List.length_map]
 have w2:ws2.length=G2.length:=by rw[r2.length,List.length_map]
 refine aA.mpr (dG.mpr (dZ.mpr (cu.mpr (WY ?_))));refine aC (aA.mpr (Rq (dZ.mpr (aQ.mpr (aR (w:=.ref pg) rfl (aQ.mpr (aR (w:=.int y) rfl (cu.mpr (hy _ _ .push ?_)))))))));refine⟨p2,ws2,fun j τ h2=>∃ u4 u5 u6 u7 u8 kvs,τ= [some (.ref pg),some (.int x),some (.int y),some (.ref h.n),u4,u5,u6,u7,u8,none,none,none]/\Ext h h2/\h.n<h2.n/\h2.get h.n=some (.dk kvs)/\pI h2 h.n kvs (v9 G2 j)/\kvs.length<=j,rfl,Ext.push.get l2 g2,fun _ _ _ ⟨_,_,_,_,_,_,_,e,_⟩=>e.get l2 g2,by omega,⟨none,none,none,none,none,[],rfl,.push,bN,aO,fun x=>rfl,az _⟩,?_,?_⟩
 · rintro j w τ h2 m ej lm ⟨u4,u5,u6,u7,u8,kvs,rfl,x2,n2,gk,hs,lk⟩;obtain⟨dd,ed,rd⟩:=Rds.at r2 ej;rw[List.getElem?_map]at ed;obtain⟨mt,em,rfl⟩:=Option.map_eq_some_iff.mp ed;have lj2:j<G2.length:=(a_ em).1;obtain⟨c,rfl,lc,_,gc⟩:=aef rd;refine⟨_,aat (aY lc x2.1) (x2.get lc gc),?_⟩;have x3:Ext h2 (h2.push (.tup [.int (Int.ofNat j),.ref c])):=.push;have gk3:=x3.get n2 gk;have n3:=aY n2 x3.1;have hs3:=hs.to x3.1 fun k l _=>x3.2 k l;generalize h2.push (.tup [.int (Int.ofNat j),.ref c])=h3 at *;refine aA.mpr (Jj ?_);walk_at "s";refine⟨h.n,kvs,rfl,Ext.push.get n3 gk3,rfl,by omega,?_⟩
   have hs4:pI ((h3.push (.tup [.int (Int.ofNat j),.str (tU mt.2.1)])).set h.n (.dk (dM kvs (.int mt.2.2.2) (.ref h3.n)))) h.n (dM kvs (.int mt.2.2.2) (.ref h3.n)) fun z=>if mt.2.2.2=z then some (j,mt.2.1) else v9 G2 j z:=
    pI.to (h:=h3.push (.tup [.int (Int.ofNat j),.str (tU mt.2.1)])) ((hs3.to Ext.push.1 fun k l _=>Ext.push.2 k l).put bN (by omega) aO) (by rw[Hs.dh];exact az _) fun k l n=>by rw[Hs.get_set,if_neg n]
   refine aC (bR.mpr (jC ⟨_,_,_,_,_,_,rfl,((x2.trans x3).trans .push).set (az _),by rw[Hs.dh,Hs.iw];omega,by rw[Hs.get_set,if_pos rfl],?_,by have:=Bf kvs (.int mt.2.2.2) (.ref h3.n);omega⟩));have e:v9 G2 (j+1)=fun z=>if mt.2.2.2=z then some (j,mt.2.1) else v9 G2 j z:=by funext z;rw[v9,em]
   rw[e];exact hs4
 · rintro τ h2 ⟨u4,u5,u6,u7,u8,kvs,rfl,x2,n2,gk,hs,lk⟩;rw[w2]at hs;generalize v9 G2 G2.length=F at hs q;refine aC (aA.mpr (dG.mpr (dZ.mpr (cu.mpr (aaj (by simp) ?_)))));have x3:Ext h2 (h2.push (.lst [])):=.push;have gk3:=x3.get n2 gk;have n3:=aY n2 x3.1;have hs3:=hs.to x3.1 fun k l _=>x3.2 k l;have gf3:(h2.push (.lst [])).get h2.n=some (.lst []):=aO;have lf3:h2.n<(h2.push (.lst [])).n:=bN;have x03:=x2.trans x3;have lo:h.n<h2.n:=n2;generalize h2.n=f at *;generalize h2.push (.lst [])=h3 at *;refine aC (aA.mpr (Rq (dZ.mpr (aQ.mpr (aR (w:=.ref pg) rfl (aQ.mpr (aR (w:=.int x) rfl (cu.mpr (hx _ _ x03 ?_)))))))));refine⟨p1,ws1,fun j τ h4=>∃ u4 u5 u6 u7 u8 u10 u11 us,τ= [some (.ref pg),some (.int x),some (.int y),some (.ref h.n),u4,u5,u6,u7,u8,some (.ref f),u10,u11]/\Ext h h4/\h.n<h4.n/\h4.get h.n=some (.dk kvs)/\pI h4 h.n kvs F/\vI f h3 h4/\f<h4.n/\h4.get f=some (.lst us)/\Rds h4 (fun k=>h.n<=k/\k ≠ f) ((tW G1 F y j).map DL) us,rfl,x03.get l1 g1,fun _ _ _ ⟨_,_,_,_,_,_,_,_,_,e,_⟩=>e.get l1 g1,by omega,⟨_,_,_,_,_,_,_,[],rfl,x03,n3,gk3,hs3,.refl,lf3,gf3,Dg⟩,?_,?_⟩
   · rintro j w τ h4 m ej lm ⟨u4,u5,u6,u7,u8,u10,u11,us,rfl,x4,n4,gk4,hs4,y4,lf4,gf4,r4⟩;obtain⟨dd,ed,rd⟩:=Rds.at r1 ej;rw[List.getElem?_map]at ed;obtain⟨mt,em,rfl⟩:=Option.map_eq_some_iff.mp ed;obtain⟨c,rfl,lc,_,gc⟩:=aef rd;refine⟨_,aat (aY lc x4.1) (x4.get lc gc),?_⟩;have x5:Ext h4 (h4.push (.tup [.int (Int.ofNat j),.ref c])):=.push;have gk5:=x5.get n4 gk4;have n5:=aY n4 x5.1;have hs5:=hs4.to x5.1 fun k l _=>x5.2 k l;have gf5:=x5.get lf4 gf4;have lf5:=aY lf4 x5.1;have r5:=r4.ext x5;have y5:=y4.trans x5.D;have x05:=x4.trans x5;generalize h4.push (.tup [.int (Int.ofNat j),.ref c])=h5 at *;have esn:tW G1 F y (j+1)=tW G1 F y j++tV F y j mt:=by rw[tW,em]
     have lu:=r5.length;have ll:=wU G1 F y j;have lj:j<G1.length:=(a_ em).1;rw[List.length_map]at lu;refine aA.mpr (mJ.mpr (Az.mpr ?_));walk_at "s";refine afg gk5 rfl ?_;have z:=hs5 mt.2.2.2
     cases hF:F mt.2.2.2 with
     | none=>
       rw[hF]at z;have el:tV F y j mt= []:=by unfold tV;rw[hF]
       rw[show bD kvs (.int mt.2.2.2)=none from z];refine qw (qw (bR.mpr (aC (bR.mpr (jC ⟨_,_,_,_,_,_,_,us,rfl,x05,n5,gk5,hs5,y5,lf5,gf5,?_⟩)))))
       rw[esn,el,List.append_nil];exact r5
     | some ab=>
       obtain⟨a,b⟩:=ab;rw[hF]at z;obtain⟨qq,e1,lq,nq,gq⟩:=z;rw[e1];refine xg ?_;walk_at "s"
       by_cases ey:mt.2.2.1=y
       · have el:tV F y j mt= []:=by unfold tV;rw[hF];exact if_pos ey
         rw[decide_eq_true ey];refine T4 (bR.mpr (aC (bR.mpr (jC ⟨_,_,_,_,_,_,_,us,rfl,x05,n5,gk5,hs5,y5,lf5,gf5,?_⟩))));rw[esn,el,List.append_nil];exact r5
       · have el:tV F y j mt= [(j,a,mt.2.1==b)]:=by unfold tV;rw[hF];exact if_neg ey
         rw[decide_eq_false ey];refine T6 (aA.mpr (CQ ?_));walk_at "s";refine W0 gk5 rfl e1 ⟨qq,_,_,rfl,gq,?_⟩;refine aC (aA.mpr (oV.mpr (yX (aR (w:=.ref f) rfl ⟨f,us,rfl,gf5,?_⟩))));walk_at "s";refine zg (RM _) (RM _) ?_;rw[abv];walk_at "s";refine⟨us,Ext.push.get lf5 gf5,by omega,aC (bR.mpr (aC (bR.mpr (jC ?_))))⟩;have nf:f ≠ h.n:=by omega
         refine⟨_,_,_,_,_,_,_,_,rfl,(x05.trans .push).set (by omega),by rw[Hs.dh,Hs.iw];omega,by rw[Hs.get_set,if_neg (fun z=>nf z.symm)];exact Ext.push.get n5 gk5,?_,(y5.trans Ext.push.D).set,by rw[Hs.dh,Hs.iw];omega,by rw[Hs.get_set,if_pos rfl],?_⟩
         · intro z;have zz:=hs5 z
           cases hz:F z with
           | none=>rw[hz]at zz;exact zz
           | some jb=>
             rw[hz]at zz;obtain⟨q',e2,lq',nq',gq'⟩:=zz;have q'f:q' ≠ f:=fun w=>by rw[w,gf5]at gq';cases gq'
             exact⟨q',e2,by rw[Hs.dh,Hs.iw];omega,nq',by rw[Hs.get_set,if_neg q'f];exact Ext.push.get lq' gq'⟩
         · rw[esn,el,List.map_append]
           have z1:Rds (h5.push (.tup [.int (Int.ofNat j),.int (a:Int),.bl (mt.2.1==b)])) (fun k=>h.n<=k/\k ≠ f) ((tW G1 F y j).map DL ++ [DL (j,a,mt.2.1==b)]) (us ++ [.ref h5.n]):=(r5.ext .push).snoc (Xf bN ⟨by omega,by omega⟩ aO (by
            unfold Rds;refine⟨_,_,rfl,yp,?_⟩;unfold Rds;refine⟨_,_,rfl,yp,?_⟩
            exact RL (by simp only[Ev.Rd])))
           exact Rds.to (by rw[Hs.dh];exact az _) (fun k _ a=>⟨by rw[Hs.get_set,if_neg a.2],a⟩) _ _ z1
   · rintro τ h4 ⟨u4,u5,u6,u7,u8,u10,u11,us,rfl,x4,n4,gk4,hs4,y4,lf4,gf4,r4⟩;walk_at "s";rw[w1]at r4;exact q f us h4 x4 lf4 gf4 r4 (Nat.le_of_lt lo)
end
def yC(L:List Lnk)(T:List Int):Nat:=(L.filter fun l=>l.2.2==(decide ((l.1:Int) ∈ T)==decide ((l.2.1:Int) ∈ T))).length
theorem agd{h:Hs}{A:Nat->Prop}{m:Lnk}{w:W}(r:Ev.Rd h A (DL m) w):∃ p,w= .ref p/\p<h.n/\A p/\h.get p=some (.tup [.int (m.1:Int),.int (m.2.1:Int),.bl m.2.2]):=by
 simp only[DL,Ev.Rd,Rds]at r;obtain⟨p,ws,rfl,l,a,g,_,_,rfl,rfl,_,_,rfl,rfl,_,_,rfl,rfl,rfl⟩:=r;exact⟨p,rfl,l,a,g⟩
theorem U6{h:Hs}{Q:W->Hs->Prop}{a b:Bool}(z:Q (.bl (a==b)) h):wP .eq [.bl a,.bl b] h Q:=by
 refine aag (d:=.bl a) (d':=.bl b) (A:=fun _=>True) (B:=fun _=>True) (by simp only[Ev.Rd]) (by simp only[Ev.Rd]) (by simp[kZ]) (by simp[kZ]) rfl rfl ?_;rw[show eV (.bl a) (.bl b)=(a==b) by simp only[eV]];exact z
section
variable{d n:Nat}{h:Hs}{Q:W->Hs->Prop}{A:Nat->Prop}
theorem abx{pl pt:Nat}{L:List Lnk}{us:List W}{T:List Int}(ll:pl<h.n)(gl:h.get pl=some (.lst us))(r:Rds h A (L.map DL) us)(lt:pt<h.n)(gt:h.get pt=some (.lst (T.map W.int)))(lL:L.length<=20)
 (q:∀ h',Ext h h'->Q (.int (yC L T:Nat)) h'):wC 5 [.ref pl,.ref pt] (bz Pg (d+1)) (n+60) h Q:=by
 refine(cP rfl rfl).mpr ?_;unfold RC;have ul:us.length=L.length:=by rw[r.length,List.length_map]
 refine aA.mpr (kY.mpr (dZ.mpr (aQ.mpr (abh (GX (aR (w:=.ref pl) rfl ?_))))));refine⟨pl,us,rfl,.inl ⟨gl,.refl,us,L.map fun l=>(l.2.2==(decide ((l.1:Int) ∈ T)==decide ((l.2.1:Int) ∈ T)),D.bl l.2.2),fun h2 x2=>Rn gl ll x2,by rw[List.length_map,ul],by omega,by omega,?_,?_⟩⟩
 · intro i w b dd h2 k ei ed lk x2 l2;obtain⟨d1,e1,rd1⟩:=Rds.at r ei;rw[List.getElem?_map]at e1 ed;obtain⟨l,el,rfl⟩:=Option.map_eq_some_iff.mp e1;rw[el]at ed;simp only[Option.map_some,Option.some.injEq,Prod.mk.injEq]at ed;obtain⟨rfl,rfl⟩:=ed;obtain⟨c,rfl,lc,_,gc⟩:=agd rd1;refine⟨_,aas (x2.get lc gc),?_⟩;walk_at "s";refine T7 (x2.get lt gt) ?_;walk_at "s";refine T7 (x2.get lt gt) ?_;walk_at "s";refine U6 ?_;walk_at "s";refine U6 ⟨rfl,.refl,fun _=>?_⟩;walk_at "s";exact⟨.refl,by simp only[Ev.Rd]⟩
 · intro vs h3 x3 l3 g3 r3;walk_at "s";refine wK g3 ?_;walk_at "s"
   have lv:vs.length=yC L T:=by
    rw[r3.length,List.length_map,List.filter_map,List.length_map];rfl
   rw[lv];exact q _ x3
theorem CK(i:Int):∀ xs:List Int,um i xs=decide (i ∈ xs)
 | []=>rfl
 | x::xs=>by
   show ifB (ieq x i) true (um i xs)=_;rw[eX,CK i xs]
   by_cases e:x=i
   · rw[decide_eq_true e];exact(decide_eq_true (by rw[e];exact List.mem_cons_self ..)).symm
   · rw[decide_eq_false e];exact decide_eq_decide.mpr ⟨List.mem_cons_of_mem _,fun z=>(List.mem_cons.mp z).elim (fun z=>absurd z.symm e) id⟩
theorem Xk:∀(l acc:List Int),(l++acc).Nodup->len (dd l acc)=l.length+acc.length
 | [],acc,_=>by show len acc=_;rw[len_eq];simp
 | x::l,acc,nd=>by
   have nd':x ∉ l++acc/\(l++acc).Nodup:=List.nodup_cons.mp nd;have nx:um x acc=false:=by rw[CK];exact decide_eq_false fun z=>nd'.1 (List.mem_append_right _ z)
   show len (dd l (ifB (um x acc) acc (app acc [x])))=_;rw[nx];show len (dd l (app acc [x]))=_
   rw[iW,Xk l (acc ++ [x]) (by
    rw[<- List.append_assoc]
    exact List.nodup_append.mpr ⟨nd'.2,by simp,fun a ha b hb z=>by rw[List.mem_singleton.mp hb]at z;exact nd'.1 (by rw[<- z];exact ha)⟩)]
   simp;omega
variable{p t:Nat}{kd:List Nat}{tr:List bI}
theorem K1{pt m:Nat}{T:List Int}(P:fM h p kd t tr)(em:fO kd t=m)(lt:pt<h.n)(gt:h.get pt=some (.lst (T.map W.int)))(hT:∀ x ∈ T,0<=x/\x<(m:Int))(nd:T.Nodup)(lT:T.length<=20)
 (q:Q .non h):wC 3 [.ref p,.ref pt] (bz Pg (d+4)) (n+40) h Q:=by
 refine(cP rfl rfl).mpr ?_;unfold zM;obtain⟨ptr,ws,g,_⟩:=P.g;refine aA.mpr (n_ (GX (aR (w:=.ref pt) rfl ?_)));refine⟨pt,_,rfl,.inl ⟨gt,T.map W.int,fun i τ h2=>∃ u,τ= [some (.ref p),some (.ref pt),u]/\h2=h,fun i τ h2 ⟨_,_,e⟩=>.inl ⟨pt,rfl,by rw[e];exact gt⟩,by rw[List.length_map];omega,⟨_,rfl,rfl⟩,?_,?_⟩⟩
 · rintro i w τ h2 k ei lk ⟨u,rfl,rfl⟩;rw[List.getElem?_map]at ei;obtain⟨x,ex,rfl⟩:=Option.map_eq_some_iff.mp ei;have hx:=hT x (List.mem_of_getElem? ex);rw[List.length_map]at lk;obtain⟨k,rfl⟩:∃ k',k=k'+3:=⟨k - 3,by omega⟩;refine⟨[some (.ref p),some (.ref pt),some (.int x)],rfl,?_⟩;refine aA.mpr (oV.mpr (jr (aR (w:=.ref p) rfl ⟨p,_,rfl,g,rfl,aQ.mpr (aR (w:=.int x) rfl (cu.mpr (B_ (d:=d) (n:=k) P hx.1 (by rw[em];exact hx.2) ?_)))⟩)));exact aC (bR.mpr (jC ⟨_,rfl,rfl⟩))
 · rintro τ h2 ⟨u,rfl,rfl⟩;refine aC (aA.mpr (mJ.mpr ?_));walk_at "s";refine Y9 gt (by omega) ?_;walk_at "s";refine wK gt ?_;rw[Xk T [] (by rw[List.append_nil];exact nd),List.length_map];walk_at "s";rw[decide_eq_true (show((T.length+([]:List Int).length:Nat):Int)=(T.length:Int) by simp)];walk_at "s";exact q
def pJ(S:Nat->Nat->bI)(t m:Nat)(x y:Int):List Lnk:=tW (jZ S t x m) (v9 (jZ S t y m) m) y m
end
def prX{α:Type}(G:Nat->Nat->α)(y:Nat)(acc:List α):Nat->List α
 | 0=>acc
 | x+1=>prX G y acc x ++ [G x y]
def prY{α:Type}(G:Nat->Nat->α):Nat->List α
 | 0=>[]
 | y+1=>prX G y (prY G y) y
theorem Dh{α:Type}(G:Nat->Nat->α)(y:Nat)(acc:List α):∀ x,(prX G y acc x).length=acc.length+x
 | 0=>rfl
 | x+1=>by unfold prX;rw[List.length_append,Dh G y acc x];rfl
theorem yD{α:Type}(G:Nat->Nat->α):∀ y,(prY G y).length<=y*y
 | 0=>az _
 | y+1=>by unfold prY;rw[Dh,Nat.succ_mul,Nat.mul_succ];have:=yD G y;omega
theorem RN{α:Type}{G:Nat->Nat->α}{p:α->Prop}{y:Nat}{acc:List α}(za:∀ a ∈ acc,p a):∀ x,(∀ i,i<x->p (G i y))->∀ a ∈ prX G y acc x,p a
 | 0,_=>za
 | x+1,z=>fun a m=>by
   unfold prX at m
   rcases List.mem_append.mp m with m | m
   · exact RN za x (fun i l=>z i (by omega)) a m
   · rw[List.mem_singleton.mp m];exact z x (by omega)
theorem Di{α:Type}{G:Nat->Nat->α}{p:α->Prop}:∀ y,(∀ i j,i<j->j<y->p (G i j))->∀ a ∈ prY G y,p a
 | 0,_=>fun a m=>by cases m
 | y+1,z=>RN (Di y fun i j l m=>z i j l (by omega)) y fun i l=>z i y l (by omega)
theorem RP{α β:Type}(f:α->β)(G:Nat->Nat->α)(y:Nat)(acc:List α):∀ x,(prX G y acc x).map f=prX (fun x y=>f (G x y)) y (acc.map f) x
 | 0=>rfl
 | x+1=>by unfold prX;rw[List.map_append,RP f G y acc x];rfl
theorem Dj{α β:Type}(f:α->β)(G:Nat->Nat->α):∀ y,(prY G y).map f=prY (fun x y=>f (G x y)) y
 | 0=>rfl
 | y+1=>by unfold prY;rw[RP,Dj f G y]
theorem Xl{α:Type}{G G':Nat->Nat->α}{y:Nat}{acc:List α}:∀ {x:Nat},(∀ i,i<x->G i y=G' i y)->prX G y acc x=prX G' y acc x
 | 0,_=>rfl
 | x+1,z=>by unfold prX;rw[Xl fun i l=>z i (by omega),z x (by omega)]
theorem Pj{α:Type}{G G':Nat->Nat->α}:∀ {y:Nat},(∀ i j,i<j->j<y->G i j=G' i j)->prY G y=prY G' y
 | 0,_=>rfl
 | y+1,z=>by unfold prY;rw[Pj fun i j l m=>z i j l (by omega),Xl fun i l=>z i y l (by omega)]
theorem Xm{K:Ks}{n:Nat}{τ:Sg}{h:Hs}{nt:Nat}{idx:List Nat}{a e:X}{Q:W->Hs->Prop}(G:Nat->Nat->D)(P:Nat)(lP:P<=100)(ln:2*P+2<=n)
 (x:wX a K n τ h fun w h1=>w= .int (P:Int)/\Ext h h1/\(∀ i j h2 m,i<j->j<P->n<=m+2*P->Ext h1 h2->h1.n<h2.n->wX e K m (setAt (setAt (nA nt idx τ) (some (.int (j:Int))) 0) (some (.int (i:Int))) 1) h2 fun w h3=>Ext h2 h3/\Ev.Rd h3 (fun p=>h2.n<=p) (G i j) w)/\
   ∀ h3 us,Ext h1 h3->h1.n<h3.n->h3.get h1.n=some (.lst us)->Rds h3 (fun p=>h1.n<=p) (prY G P) us->Q (.ref h1.n) h3) (g0:∀ w,cD (setAt (nA nt idx τ) (some w) 0) 0=some w):wX (.comp nt idx (.fD [a]) (.nm 0) none (some (.mk (.fD [.var 0]) (.nm 1) none)) e) K n τ h Q:=by
 show okQ (((I.fD [a]).f K n τ h).bind fun r h=>r.toV fun v=>(fC v (.nm 0) none (some (.mk (.fD [.var 0]) (.nm 1) none)) e h.n K n 0 (nA nt idx τ) (h.push (.lst []))).nox.bind fun _ h'=>.ok (.w (.ref h.n)) h') (aW Q)
 have y:wI (.fD [a]) K n τ h fun v h1=>v= .rng 0 P/\Ext h h1/\(∀ i j h2 m,i<j->j<P->n<=m+2*P->Ext h1 h2->h1.n<h2.n->wX e K m (setAt (setAt (nA nt idx τ) (some (.int (j:Int))) 0) (some (.int (i:Int))) 1) h2 fun w h3=>Ext h2 h3/\Ev.Rd h3 (fun p=>h2.n<=p) (G i j) w)/\
  ∀ h3 us,Ext h1 h3->h1.n<h3.n->h3.get h1.n=some (.lst us)->Rds h3 (fun p=>h1.n<=p) (prY G P) us->Q (.ref h1.n) h3:=k_ (oU x fun w h1 ⟨e,z⟩=>⟨P,e,by omega,by omega,rfl,z⟩)
 unfold wI at y;generalize (I.fD [a]).f K n τ h=r at y
 cases r with
 | ok a h1=>cases a with
   | iv v=>
     obtain⟨rfl,x1,turn,fin⟩:=y
     have z:=WN (K:=K) (τ:=nA nt idx τ) (n:=n) (v:=.rng 0 P) (t:=.nm 0) (g:=.fD [.var 0]) (t2:=.nm 1) (e:=e) (D:=h1.n) (it:=(j6 0 P).map fun w h=>(w,h)) (Q:=fun a h=>a= .u/\Q (.ref h1.n) h) (fun i h2=>Ext h1 h2/\h1.n<h2.n/\∃ us,h2.get h1.n=some (.lst us)/\Rds h2 (fun p=>p ≠ h1.n/\h1.n<=p) (prY G i) us) (fun i h2 j=>jl.two)
      (fun j f h2 m ei lm ⟨j1,j2,us,j3,j4⟩=>by
        rw[List.length_map,aH]at lm;have lj:j<P:=by have:=(a_ ei).1;rw[List.length_map,aH]at this;exact this
        rw[List.getElem?_map,f9 lj]at ei;cases ei;refine⟨setAt (nA nt idx τ) (some (.int (j:Int))) 0,by rw[show((0:Int)+Int.ofNat j)=(j:Int) by show 0+(j:Int)=j;omega];rfl,k_ (aR (g0 _) ⟨j,rfl,by omega,by omega,?_⟩)⟩;rw[show((j:Nat):Int).toNat=j from rfl];have lu:=j4.length;have ly:=yD G j;have lyy:j*j<=100*100:=Nat.mul_le_mul (by omega) (by omega);refine Mf (n:=m) (ws:=j6 0 j) us.length (fun k acc h4=>Ext h1 h4/\h1.n<h4.n/\h4.get h1.n=some (.lst acc)/\Rds h4 (fun p=>p ≠ h1.n/\h1.n<=p) (prX G j (prY G j) k) acc) ?_ (by rw[aH];omega) ?_ ?_ j 0 m us h2 (by rw[aH];omega) (by omega) (by omega) ⟨j1,j2,j3,j4⟩
        · rintro k acc h4 ⟨q1,q2,q3,q4⟩;exact⟨jl,q3,by rw[q4.length,Dh];omega⟩
        · rintro k w acc h4 m2 ek lm2 ⟨q1,q2,q3,q4⟩;have lk:k<j:=by have:=(a_ ek).1;rw[aH]at this;exact this
          rw[f9 lk,show((0:Int)+Int.ofNat k)=(k:Int) by show 0+(k:Int)=k;omega]at ek;cases ek;rw[aH]at lm2;refine⟨_,rfl,oU (turn k j h4 m2 lk lj (by omega) q1 q2) fun w' h5 ⟨x5,r5⟩=>?_⟩;refine⟨x5.get q2 q3,(q1.trans x5).set (az _),by rw[Hs.dh];exact aY q2 x5.1,by rw[Hs.get_set,if_pos rfl],?_⟩;exact Rds.to (by rw[Hs.dh];exact az _) (fun k _ a=>⟨by rw[Hs.get_set,if_neg a.1],a⟩) _ _ ((q4.ext x5).snoc (r5.imp fun p _ l=>⟨by omega,by omega⟩))
        · rintro acc h4 ⟨q1,q2,q3,q4⟩;rw[aH]at q4
          exact⟨q1,q2,acc,q3,q4⟩)
      (fun h2 j=>⟨rfl,by obtain⟨a,b,us,c,d⟩:=j;rw[List.length_map,aH]at d;exact fin h2 us a b c (d.imp fun _ _ z=>z.2)⟩) P 0 n (h1.push (.lst [])) (by rw[List.length_map,aH];omega) (by omega) (by omega) ⟨.push,bN,[],aO,Dg⟩
     show okQ ((fC (.rng 0 P) (.nm 0) none (some (.mk (.fD [.var 0]) (.nm 1) none)) e h1.n K n 0 (nA nt idx τ) (h1.push (.lst []))).nox.bind fun _ h'=>.ok (.w (.ref h1.n)) h') (aW Q);generalize fC (.rng 0 P) (.nm 0) none (some (.mk (.fD [.var 0]) (.nm 1) none)) e h1.n K n 0 (nA nt idx τ) (h1.push (.lst []))=r at z
     cases r with
     | ok a h'=>exact z.2
     | _=>exact z.elim
   | _=>exact y.elim
 | _=>exact y.elim
abbrev DLs(L:List Lnk):D:=.lst (L.map DL)
def jj(T:List Int)(L:List Lnk):Int:=2*(yC L T:Nat) - (L.length:Int)
theorem FJ(L:List Lnk)(T:List Int):yC L T<=L.length:=List.length_filter_le _ _
section
variable{d n:Nat}{h:Hs}{Q:W->Hs->Prop}{A:Nat->Prop}
theorem aeg{pl pt:Nat}{L:List Lnk}{us:List W}{T:List Int}(ll:pl<h.n)(gl:h.get pl=some (.lst us))(r:Rds h A (L.map DL) us)(lt:pt<h.n)(gt:h.get pt=some (.lst (T.map W.int)))(lL:L.length<=20)
 (q:∀ h',Ext h h'->Q (.int (jj T L)) h'):wC 6 [.ref pl,.ref pt] (bz Pg (d+2)) (n+61) h Q:=by
 refine(cP rfl rfl).mpr ?_;unfold W5;walk_at "s";refine abx (d:=d) (n:=n) ll gl r lt gt lL fun h1 x1=>?_;have:=FJ L T;walk_at "s";refine wK (x1.get ll gl) ?_;rw[r.length,List.length_map];walk_at "s";exact q _ x1
theorem Zu{pl pt:Nat}{LL:List (List Lnk)}{us:List W}{T:List Int}(ll:pl<h.n)(gl:h.get pl=some (.lst us))(r:Rds h A (LL.map DLs) us)(lt:pt<h.n)(gt:h.get pt=some (.lst (T.map W.int)))(lL:∀ L ∈ LL,L.length<=20)(l2:LL.length<=400)
 (q:∀ h',Ext h h'->Q (.int (LL.map fun L=>jj T L ^ 2).sum) h'):wC 8 [.ref pl,.ref pt] (bz Pg (d+3)) (n+500) h Q:=by
 refine(cP rfl rfl).mpr ?_;unfold Ol;have ul:us.length=LL.length:=by rw[r.length,List.length_map]
 walk_at "s";refine comp_map (GX ?_);walk_at "s";refine⟨pl,us,rfl,.inl ⟨gl,.refl,us,(LL.map fun L=>jj T L ^ 2).map D.int,fun _=>False,fun h2 x2=>Rn gl ll x2,fun _ z=>z.elim,by simp[ul],by omega,by omega,?_,?_⟩⟩
 · intro i w d' h2 m ei ed lm x2 l2;obtain⟨d1,e1,rd1⟩:=Rds.at r ei;rw[List.getElem?_map]at e1;obtain⟨L,eL,rfl⟩:=Option.map_eq_some_iff.mp e1;rw[List.getElem?_map,List.getElem?_map,eL]at ed;cases ed;obtain⟨c,cs,rfl,lc,_,gc,rc⟩:=vH.mp rd1;have l20:=lL L (List.mem_of_getElem? eL);refine⟨_,rfl,?_⟩;walk_at "s";obtain⟨m,rfl⟩:∃ k,m=k+61:=⟨m - 61,by omega⟩;refine aeg (aY lc x2.1) (x2.get lc gc) (rc.ext x2) (aY lt x2.1) (x2.get lt gt) l20 fun h3 x3=>?_;have:=FJ L T;walk_at "s";refine ad7 (by unfold jj;omega) (by decide) ⟨x3,yp⟩
 · intro h3 x3 r3;obtain⟨p3,e3,l3,_,g3⟩:=Ja.mp r3;cases e3;refine ae8 g3 ?_;walk_at "s";exact q h3 x3
variable{p t:Nat}{kd:List Nat}{tr:List bI}
theorem Qu{m:Nat}(P:fM h p kd t tr)(em:fO kd t=m)(lm:m<=20)(hw:∀ x,x<2*t->∀ i,i<m->(gm (bC kd t tr i) t (x:Int)).isSome=true)
 (q:∀ f us h',Ext h h'->f<h'.n->h'.get f=some (.lst us)->Rds h' (fun k=>h.n<=k) ((prY (fun x y=>pJ (bC kd t tr) t m x y) (2*t)).map DLs) us->Q (.ref f) h'):wC 7 [.ref p] (bz Pg (d+8)) (n+200) h Q:=by
 refine(cP rfl rfl).mpr ?_;unfold Eb;obtain⟨pt,ws,g,_⟩:=P.g;have t9:=P.t9;refine aA.mpr (dG.mpr (comp_map (k_ (jr (aR (w:=.ref p) rfl ⟨p,_,rfl,g,rfl,cu.mpr (Jw (d:=d+6) (n:=n+198) P ?_)⟩)))));refine⟨2*(t:Int),rfl,by omega,by omega,.refl,j6 0 (2*t),(List.range (2*t)).map fun(x:Nat)=>D.lst ((jZ (bC kd t tr) t (x:Int) m).map D4),fun _=>False,fun _ _=>by rw[show(2*(t:Int)).toNat=2*t by omega];exact jl,fun _ z=>z.elim,by rw[aH];simp,by rw[aH];omega,by rw[aH];omega,?_,?_⟩
 · intro i w d' h2 k ei ed lk x2 l2;have li:i<2*t:=by have:=(a_ ei).1;rw[aH]at this;exact this
   rw[f9 li]at ei;cases ei;rw[show(0:Int)+Int.ofNat i=(i:Int) by show 0+(i:Int)=(i:Int);omega];rw[aH]at lk;obtain⟨k,rfl⟩:∃ k',k=k'+80:=⟨k - 80,by omega⟩;rw[List.getElem?_map,List.getElem?_range li]at ed;cases ed;refine⟨[some (.int (i:Int)),some (.ref p)],rfl,?_⟩;walk_at "s";exact abu (d:=d) (n:=k) (P.ext x2) em lm (by omega) (by omega) (hw i li) fun f us h3 x3 lo3 l3 g3 r3=>⟨x3,vH.mpr ⟨f,us,rfl,l3,.inr lo3,g3,r3.imp fun _ _ z=>.inr z⟩⟩
 · intro h1 x1 r1;obtain⟨pg,gs,e,lg,_,gg,rg⟩:=vH.mp r1;cases e;have P1:=P.ext x1;obtain⟨pt1,ws1,g1,_⟩:=P1.g;have lx:h.n<h1.n:=lg;refine aC (aA.mpr (kY.mpr (Xm (fun x y=>DLs (pJ (bC kd t tr) t m x y)) (2*t) (by omega) (by omega) (jr (aR (w:=.ref p) rfl ⟨p,_,rfl,g1,rfl,cu.mpr (Jw (d:=d+6) (n:=n+198) P1 ?_)⟩)) fun w=>rfl)));refine⟨by rw[show((2*t:Nat):Int)=2*(t:Int) by omega],.refl,?_,?_⟩
   · intro i j h2 k lij lj lk x2 l2;obtain⟨k,rfl⟩:∃ k',k=k'+60:=⟨k - 60,by omega⟩
     have gd:∀ {z:Nat},z<2*t->∃ pz wz,gs[z]? =some (.ref pz)/\pz<h1.n/\h1.get pz=some (.lst wz)/\Rds h1 (fun p=>False\/h.n<=p) ((jZ (bC kd t tr) t (z:Int) m).map D4) wz:=fun {z} lz=>by
      obtain⟨w,ew,rw'⟩:=Rds.get rg (show((List.range (2*t)).map fun(x:Nat)=>D.lst ((jZ (bC kd t tr) t (x:Int) m).map D4))[z]? =some (.lst ((jZ (bC kd t tr) t (z:Int) m).map D4)) by rw[List.getElem?_map,List.getElem?_range lz];rfl);obtain⟨pz,wz,rfl,l,_,g,r⟩:=vH.mp rw';exact⟨pz,wz,ew,l,g,r⟩
     obtain⟨p1,w1,e1,l1,k1,r1⟩:=gd (show i<2*t by omega);obtain⟨p2,w2,e2,l2',k2,r2⟩:=gd lj;have lG:∀ z,(jZ (bC kd t tr) t z m).length=m:=fun z=>by simp[jZ]
     show wX _ _ _ [some (.int (j:Int)),some (.int (i:Int)),some (.ref h.n)] _ _;walk_at "s";refine abw (d:=d+6) (n:=k) (fun h' Q' e z=>W3 ((x2.trans e).get lx gg) (by omega) (by exact e1) z) (fun h' Q' e z=>W3 ((x2.trans e).get lx gg) (by omega) (by exact e2) z) (aY l1 x2.1) (x2.get l1 k1) (r1.ext x2) (aY l2' x2.1) (x2.get l2' k2) (r2.ext x2) (by rw[lG];exact lm) (by rw[lG];exact lm) fun f us h3 x3 lf gf rf lo=>⟨x3,?_⟩;rw[lG,lG]at rf;exact vH.mpr ⟨f,us,rfl,lf,lo,gf,rf.imp fun _ _ z=>z.1⟩
   · intro h3 us x3 l3 g3 r3;walk_at "s";refine q h1.n us h3 (x1.trans x3) l3 g3 ?_;rw[Dj];exact r3.imp fun _ _ z=>Nat.le_trans x1.1 z
theorem Pk{pt m:Nat}{T:List Int}(P:fM h p kd t tr)(em:fO kd t=m)(lm:m<=20)(hw:∀ x,x<2*t->∀ i,i<m->(gm (bC kd t tr i) t (x:Int)).isSome=true)(lt:pt<h.n)(gt:h.get pt=some (.lst (T.map W.int)))(hT:∀ x ∈ T,0<=x/\x<(m:Int))(nd:T.Nodup)(lT:T.length<=20)
 (q:∀ h',Ext h h'->Q (.int (prY (fun x y=>jj T (pJ (bC kd t tr) t m x y) ^ 2) (2*t)).sum) h'):wC 9 [.ref p,.ref pt] (bz Pg (d+9)) (n+600) h Q:=by
 refine(cP rfl rfl).mpr ?_;unfold Bm;have t9:=P.t9;walk_at "s";refine K1 (d:=d+4) (n:=n+559) P em lt gt hT nd lT ?_;walk_at "s";refine Qu (d:=d) (n:=n+399) P em lm hw fun f us h1 x1 lf gf rf=>?_;walk_at "s";refine Zu (d:=d+5) (n:=n+99) lf gf rf (aY lt x1.1) (x1.get lt gt) (fun L mL=>?_) ?_ fun h2 x2=>?_
 · exact Di (G:=fun x y=>pJ (bC kd t tr) t m x y) (p:=fun L=>L.length<=20) _ (fun i j _ _=>Nat.le_trans (wU ..) lm) L mL
 · exact Nat.le_trans (yD ..) (Nat.le_trans (Nat.mul_le_mul (show 2*t<=18 by omega) (show 2*t<=18 by omega)) (by decide))
 · walk_at "s";rw[Dj];exact q h2 (x1.trans x2)
end
abbrev Cel:=Nat × Nat × Int
abbrev At3:=Nat × Nat × bI
def rJ:List At3->Int->Int->Option Cel
 | [],_,_=>none
 | c::l,x,o=>if ieq c.2.2.2.1 x&&ieq c.2.2.2.2 o then some (c.1,c.2.1,-1) else if ieq c.2.2.1 x&&ieq c.2.2.2.2 o then some (c.1,c.2.1,1) else rJ l x o
def Jx(i:Nat)(r:List bI)(acc:List At3):Nat->List At3
 | 0=>acc
 | j+1=>match r[j]? with
   | some s=>(i,j,s)::Jx i r acc j
   | none=>Jx i r acc j
def rK(rows:List (List bI)):Nat->List At3
 | 0=>[]
 | i+1=>Jx i (rows.getD i []) (rK rows i) (rows.getD i []).length
section
theorem Xn(a b c d:Int)(w:W):∀ kvs:List (List W × W),(∀ p ∈ kvs,∃ a b:Int,p.1= [.int a,.int b])->bU (nP kvs [.int a,.int b] w) [.int c,.int d] =if a=c/\b=d then(if isS (bU kvs [.int a,.int b]) then some w else none) else bU kvs [.int c,.int d]
 | [],_=>by show none=if _ then none else none;split <;> rfl
 | p::kvs,al=>by
   obtain⟨x,y,e⟩:=al p (List.mem_cons_self ..);have ih:=Xn a b c d w kvs fun q hq=>al q (List.mem_cons_of_mem _ hq);show bU (ifB (lZ p.1 [.int a,.int b]) (p.1,w) p::nP kvs [.int a,.int b] w) _=_;rw[oX,oX,oX,e,t8,t8]
   by_cases z:x=a/\y=b
   · rw[decide_eq_true z];show ifB (lZ [.int x,.int y] [.int c,.int d]) (some w) _=_;rw[t8,z.1,z.2]
     by_cases u:a=c/\b=d
     · rw[decide_eq_true u,if_pos u];rfl
     · rw[decide_eq_false u,if_neg u];show bU (nP kvs _ w) _=_;rw[ih,if_neg u];rfl
   · rw[decide_eq_false z];show ifB (lZ p.1 [.int c,.int d]) (some p.2) _=_;rw[e,t8]
     by_cases v:x=c/\y=d
     · have u:¬ (a=c/\b=d):=fun u=>z ⟨v.1.trans u.1.symm,v.2.trans u.2.symm⟩;rw[decide_eq_true v,if_neg u];rfl
     · rw[decide_eq_false v];show bU (nP kvs _ w) _=if _ then _ else bU kvs _;rw[ih];rfl
theorem Xo(a b c d:Int)(w:W):∀ kvs:List (List W × W),isS (bU kvs [.int a,.int b])=false->bU (kvs ++ [([.int a,.int b],w)]) [.int c,.int d] =if a=c/\b=d then some w else bU kvs [.int c,.int d]
 | [],_=>by
   show ifB (lZ [.int a,.int b] [.int c,.int d]) (some w) none=_;rw[t8]
   by_cases h:a=c/\b=d
   · rw[decide_eq_true h,if_pos h];rfl
   · rw[decide_eq_false h,if_neg h];rfl
 | p::kvs,z=>by
   rw[oX]at z;rw[List.cons_append,oX,oX]
   cases e:lZ p.1 [.int a,.int b] with
   | true=>rw[e]at z;cases z
   | false=>
     rw[e]at z;have ih:=Xo a b c d w kvs z
     cases u:lZ p.1 [.int c,.int d] with
     | true=>
       have n:¬ (a=c/\b=d):=fun n=>by rw[n.1,n.2,u]at e;cases e
       rw[if_neg n];rfl
     | false=>exact ih
theorem Xp{kvs:List (List W × W)}{a b c d:Int}{w:W}(al:∀ p ∈ kvs,∃ a b:Int,p.1= [.int a,.int b]):bU (d7 kvs [.int a,.int b] w) [.int c,.int d] =if a=c/\b=d then some w else bU kvs [.int c,.int d]:=by
 unfold d7
 cases e:isS (bU kvs [.int a,.int b]) with
 | true=>
   show bU (nP kvs _ w) _=_
   rw[Xn a b c d w kvs al,e,if_pos rfl]
 | false=>
   show bU (app kvs _) _=_;rw[iW,Xo a b c d w kvs e]
theorem Jy{kvs:List (List W × W)}{a b:Int}{w:W}(al:∀ p ∈ kvs,∃ a b:Int,p.1= [.int a,.int b]):(∀ p ∈ d7 kvs [.int a,.int b] w,∃ a b:Int,p.1= [.int a,.int b])/\(d7 kvs [.int a,.int b] w).length<=kvs.length+1:=by
 unfold d7
 cases isS (bU kvs [.int a,.int b]) with
 | true=>
   show(∀ p ∈ nP kvs _ w,_)/\(nP kvs _ w).length<=_
   exact⟨N8 _ _ kvs al,by rw[Rr];omega⟩
 | false=>
   show(∀ p ∈ app kvs _,_)/\(app kvs _).length<=_;rw[iW];refine⟨fun p hp=>?_,by simp⟩
   rcases List.mem_append.mp hp with hp | hp
   · exact al p hp
   · rw[List.mem_singleton.mp hp];exact⟨a,b,rfl⟩
end
abbrev OC(c:Cel):O:=.tup [.int (c.1:Int),.int (c.2.1:Int),.int c.2.2]
structure qC (h:Hs)(f:Nat)(kvs:List (List W × W))(F:Int->Int->Option Cel):Prop where
 al:∀ p ∈ kvs,∃ a b:Int,p.1= [.int a,.int b]
 no:∀ x o,F x o=none->bU kvs [.int x,.int o] =none
 so:∀ x o c,F x o=some c->∃ q,bU kvs [.int x,.int o] =some (.ref q)/\q<h.n/\q ≠ f/\h.get q=some (OC c)
theorem qC.to{h h':Hs}{f:Nat}{kvs:List (List W × W)}{F:Int->Int->Option Cel}(x:qC h f kvs F)(n:h.n<=h'.n)(e:∀ k,k<h.n->k ≠ f->h'.get k=h.get k):qC h' f kvs F:=
 ⟨x.al,x.no,fun y o c z=>let ⟨q,a,b,c,g⟩:=x.so y o c z;⟨q,a,by omega,c,(e q b c).trans g⟩⟩
theorem qC.put{h:Hs}{f:Nat}{kvs:List (List W × W)}{F:Int->Int->Option Cel}(x:qC h f kvs F){q:Nat}{c:Cel}{a b:Int}(lq:q<h.n)(nq:q ≠ f)(g:h.get q=some (OC c)):qC h f (d7 kvs [.int a,.int b] (.ref q)) fun y o=>if ieq a y&&ieq b o then some c else F y o:=by
 have ei:∀ y o:Int,(ieq a y&&ieq b o)=decide (a=y/\b=o):=fun y o=>by rw[eX,eX,Bool.decide_and]
 refine⟨(Jy x.al).1,fun y o z=>?_,fun y o c' z=>?_⟩
 · rw[Xp x.al]
   by_cases e:a=y/\b=o
   · rw[ei,if_pos (decide_eq_true e)]at z;cases z
   · rw[ei,decide_eq_false e]at z;rw[if_neg e];exact x.no y o z
 · rw[Xp x.al]
   by_cases e:a=y/\b=o
   · rw[ei,if_pos (decide_eq_true e)]at z;cases z;rw[if_pos e];exact⟨q,rfl,lq,nq,g⟩
   · rw[ei,decide_eq_false e]at z;rw[if_neg e];exact x.so y o c' z
theorem Dk{h:Hs}{Q:W->Hs->Prop}{p q:Nat}{kvs:List (List W × W)}{ks:List W}{w:W}(e:h.get p=some (.dt kvs))(e2:h.get q=some (.tup ks))(k:gH ks=true)(g:bU kvs ks=some w)(z:Q w h):wP .yZ [.ref p,.ref q] h Q:=by
 show okQ (h.at (.ref p) fun _ o=>o.uo fun kvs=>h.at (.ref q) fun _ o=>o.onT fun ks=>ifB (gH ks) (Opt (bU kvs ks) fun w=>.ok w h) .no) Q;rw[dm e];show okQ (h.at (.ref q) fun _ o=>o.onT fun ks=>ifB (gH ks) (Opt (bU kvs ks) fun w=>.ok w h) .no) Q;rw[dm e2];show okQ (ifB (gH ks) (Opt (bU kvs ks) fun w=>.ok w h) .no) Q;rw[k,g];exact z
theorem aby(a b c e:Int):eV (Dp a b) (Dp c e)=(decide (a=c)&&decide (b=e)):=by
 have z:∀ x y:Int,ieq x y=decide (x=y):=fun x y=>by rw[eX]
 simp only[Dp,eV,vB,z];cases decide (a=c) <;> cases decide (b=e) <;> rfl
theorem RQ(a b:Nat):decide ((a:Int)=(b:Int))=Nat.beq a b:=by
 cases e:Nat.beq a b with
 | true=>exact decide_eq_true (by rw[Nat.eq_of_beq_eq_true e])
 | false=>exact decide_eq_false fun z=>by rw[show a=b by omega,Nat.beq_refl]at e;cases e
theorem qC.step{h:Hs}{f:Nat}{kvs:List (List W × W)}{F:Int->Int->Option Cel}{o o2:O}{a b:Int}{c:Cel}(x:qC h f kvs F)(lf:f<h.n):qC (((h.push (OC c)).push o).set f o2) f (d7 kvs [.int a,.int b] (.ref h.n)) fun y o=>if ieq a y&&ieq b o then some c else F y o:=by
 have e:Ext h ((h.push (OC c)).push o):=Ext.push.trans .push;refine qC.to (h:=(h.push (OC c)).push o) (qC.put (x.to e.1 fun k l _=>e.2 k l) (aY bN Ext.push.1) (by omega) (Ext.push.get bN aO)) (by rw[Hs.dh];exact az _) fun k _ n=>by rw[Hs.get_set,if_neg n]
theorem Zv{h:Hs}{f:Nat}:qC h f [] (rJ []):=⟨fun p m=>(List.not_mem_nil m).elim,fun _ _ _=>rfl,fun _ _ _ e=>by cases e⟩
theorem RT:∀ {l:List At3} {x o:Int} {c:Cel},rJ l x o=some c->c.2.2=1\/c.2.2= -1
 | [],_,_,_,e=>by cases e
 | a::l,x,o,c,e=>by
   unfold rJ at e
   split at e
   · cases e;exact .inr rfl
   · split at e
     · cases e;exact .inl rfl
     · exact RT e
def uW(F:Int->Int->Option Cel)(x y o:Nat):List bI:=match F x o,F y o with
 | some a,some b=>if Nat.beq a.1 b.1&&Nat.beq a.2.1 b.2.1 then [] else [((a.1:Int),(b.1:Int),a.2.2*b.2.2)]
 | _,_=>[]
def marks(F:Int->Int->Option Cel)(x y:Nat):Nat->List bI
 | 0=>[]
 | o+1=>marks F x y o++uW F x y o
theorem Zw(F:Int->Int->Option Cel)(x y o:Nat):(uW F x y o).length<=1:=by
 unfold uW
 split
 · split <;> simp
 · simp
theorem Ca(F:Int->Int->Option Cel)(x y:Nat):∀ o,(marks F x y o).length<=o
 | 0=>az _
 | o+1=>by unfold marks;rw[List.length_append];have:=Ca F x y o;have:=Zw F x y o;omega
section
variable{d n p P:Nat}{h:Hs}{A:Nat->Prop}{rows:List (List bI)}{rws:List W}{Q:W->Hs->Prop}
theorem abz(lp:p<h.n)(gp:h.get p=some (.lst rws))(rr:Rds h A (rows.map DR) rws)(lr:rows.length<=12)(lc:∀ r ∈ rows,r.length<=12)(lP:P<=18)
 (q:∀ f us h',Ext h h'->f<h'.n->h'.get f=some (.lst us)->Rds h' (fun _=>True) ((prY (fun x y=>marks (rJ (rK rows rows.length)) x y (rows.length+3)) P).map DR) us->Q (.ref f) h'):wC 37 [.ref p,.int (P:Int)] (bz Pg (d+1)) (n+200) h Q:=by
 refine(cP rfl rfl).mpr ?_;unfold Bq;have wl:rws.length=rows.length:=by rw[rr.length,List.length_map]
 have zi:∀ i:Nat,(0:Int)+Int.ofNat i=(i:Int):=fun i=>by show 0+(i:Int)=(i:Int);omega
 refine aA.mpr (dG.mpr (dZ.mpr (cu.mpr (abg (aC (aA.mpr (n_ (k_ ?_))))))));walk_at "s";refine wK (Ext.push.get lp gp) ?_;rw[wl];refine⟨rows.length,rfl,by omega,by omega,j6 0 rows.length,fun i τ h2=>∃ u3 u4 u5 u6 u7 kvs,τ= [some (.ref p),some (.int (P:Int)),some (.ref h.n),u3,u4,u5,u6,u7,none,none,none,none,none,none]/\Ext h h2/\h.n<h2.n/\h2.get h.n=some (.dt kvs)/\qC h2 h.n kvs (rJ (rK rows i))/\kvs.length<=24*i,fun _ _ _ _=>jl,by rw[aH];omega,⟨none,none,none,none,none,[],rfl,.push,bN,aO,Zv,Nat.zero_le _⟩,?_,?_⟩
 · rintro i w τ h2 k ei lk ⟨u3,u4,u5,u6,u7,kvs,rfl,x2,l2,g2,hs,lv⟩;have li:i<rows.length:=by have:=(a_ ei).1;rw[aH]at this;exact this
   rw[f9 li,zi]at ei;cases ei;rw[aH]at lk;have er:rows[i]? =some rows[i]:=List.getElem?_eq_getElem li;generalize rows[i] =r at er;have eg:rows.getD i [] =r:=by rw[List.getD,er];rfl
   obtain⟨wr,ew,rdr⟩:=Rds.get rr (show(rows.map DR)[i]? =some (DR r) by rw[List.getElem?_map,er];rfl);obtain⟨pc,cws,rfl,lpc,_,gpc,rcs⟩:=vH.mp rdr;have cwl:cws.length=r.length:=by rw[rcs.length,List.length_map]
   have l12:=lc r (List.mem_of_getElem? er);have ec:rK rows (i+1)=Jx i r (rK rows i) r.length:=by rw[rK,eg]
   refine⟨[some (.ref p),some (.int (P:Int)),some (.ref h.n),some (.int (i:Int)),u4,u5,u6,u7,none,none,none,none,none,none],rfl,?_⟩;refine aA.mpr (n_ (k_ ?_));walk_at "s";refine Je (q:=i) (x2.get lp gp) ew ?_;walk_at "s";refine wK (x2.get lpc gpc) ?_;rw[cwl];refine⟨r.length,rfl,by omega,by omega,j6 0 r.length,fun j τ h3=>∃ u4 u5 u6 u7 kvs,τ= [some (.ref p),some (.int (P:Int)),some (.ref h.n),some (.int (i:Int)),u4,u5,u6,u7,none,none,none,none,none,none]/\Ext h h3/\h.n<h3.n/\h3.get h.n=some (.dt kvs)/\qC h3 h.n kvs (rJ (Jx i r (rK rows i) j))/\kvs.length<=24*i+2*j,fun _ _ _ _=>jl,by rw[aH];omega,⟨_,_,_,_,kvs,rfl,x2,l2,g2,hs,lv⟩,?_,?_⟩
   · rintro j w τ h3 k3 ej lk3 ⟨v4,v5,v6,v7,kvs,rfl,x3,l3,g3,hs,lv⟩;have lj:j<r.length:=by have:=(a_ ej).1;rw[aH]at this;exact this
     rw[f9 lj,zi]at ej;cases ej;have es:r[j]? =some r[j]:=List.getElem?_eq_getElem lj;generalize r[j] =s at es;obtain⟨ws,ew2,rds⟩:=Rds.get rcs (show(r.map D3)[j]? =some (D3 s) by rw[List.getElem?_map,es];rfl);obtain⟨c,rfl,lcc,_,gc⟩:=Ud.mp rds;refine⟨[some (.ref p),some (.int (P:Int)),some (.ref h.n),some (.int (i:Int)),some (.int (j:Int)),v5,v6,v7,none,none,none,none,none,none],rfl,?_⟩;refine aA.mpr (Fe ?_);walk_at "s";refine Je (q:=i) (x3.get lp gp) ew ?_;walk_at "s";refine Je (q:=j) (x3.get lpc gpc) ew2 ⟨c,_,_,_,rfl,x3.get lcc gc,?_⟩;refine aC (aA.mpr (N7 ?_));walk_at "s";refine⟨h.n,_,kvs,_,rfl,rfl,(Ext.push.trans .push).get l3 g3,aO,lQ ..,by omega,?_⟩;have y1:qC (((h3.push (OC (i,j,1))).push (.tup [.int s.1,.int s.2.2])).set h.n (.dt (d7 kvs [.int s.1,.int s.2.2] (.ref h3.n)))) h.n _ _:=hs.step (c:=(i,j,1)) (a:=s.1) (b:=s.2.2) l3;have k1:=Jy (a:=s.1) (b:=s.2.2) (w:=.ref h3.n) hs.al;have e1:Ext h (((h3.push (OC (i,j,1))).push (.tup [.int s.1,.int s.2.2])).set h.n (.dt (d7 kvs [.int s.1,.int s.2.2] (.ref h3.n)))):=(x3.trans (Ext.push.trans .push)).set (az _);have l4:h.n<(((h3.push (OC (i,j,1))).push (.tup [.int s.1,.int s.2.2])).set h.n (.dt (d7 kvs [.int s.1,.int s.2.2] (.ref h3.n)))).n:=by rw[Hs.dh,Hs.iw,Hs.iw];omega
     have g4:(((h3.push (OC (i,j,1))).push (.tup [.int s.1,.int s.2.2])).set h.n (.dt (d7 kvs [.int s.1,.int s.2.2] (.ref h3.n)))).get h.n=some (.dt (d7 kvs [.int s.1,.int s.2.2] (.ref h3.n))):=by rw[Hs.get_set,if_pos rfl]
     generalize ((h3.push (OC (i,j,1))).push (.tup [.int s.1,.int s.2.2])).set h.n (.dt (d7 kvs [.int s.1,.int s.2.2] (.ref h3.n)))=h4 at *;generalize d7 kvs [.int s.1,.int s.2.2] (.ref h3.n)=kv4 at *;refine aC (aA.mpr (N7 ?_));walk_at "s";refine⟨h.n,_,kv4,_,rfl,rfl,(Ext.push.trans .push).get l4 g4,aO,lQ ..,by omega,?_⟩;have y2:=y1.step (c:=(i,j,-1)) (a:=s.2.1) (b:=s.2.2) (o:=.tup [.int s.2.1,.int s.2.2]) (o2:=.dt (d7 kv4 [.int s.2.1,.int s.2.2] (.ref h4.n))) l4;have k2:=(Jy (a:=s.2.1) (b:=s.2.2) (w:=.ref h4.n) y1.al).2;refine aC (bR.mpr (jC ⟨_,_,_,_,_,rfl,(e1.trans (Ext.push.trans .push)).set (az _),by rw[Hs.dh,Hs.iw,Hs.iw];omega,by rw[Hs.get_set,if_pos rfl],?_,by omega⟩));rw[Jx,es];exact y2
   · rintro τ h3 ⟨v4,v5,v6,v7,kvs,rfl,x3,l3,g3,hs,lv⟩;rw[aH]at hs lv;exact aC (bR.mpr (jC ⟨_,_,_,_,_,kvs,rfl,x3,l3,g3,by rw[ec];exact hs,by omega⟩))
 · rintro τ h2 ⟨u3,u4,u5,u6,u7,kvs,rfl,x2,l2,g2,hs,lv⟩;rw[aH]at hs;have hF:∀ x o c,rJ (rK rows rows.length) x o=some c->c.2.2=1\/c.2.2= -1:=fun _ _ _=>RT;generalize rJ (rK rows rows.length)=F at hs q hF;have gp2:=x2.get lp gp;have lp2:=aY lp x2.1;have q:∀ f us h',Ext h2 h'->f<h'.n->h'.get f=some (.lst us)->Rds h' (fun _=>True) ((prY (fun x y=>marks F x y (rows.length+3)) P).map DR) us->Q (.ref f) h':=fun f us h' x=>q f us h' (x2.trans x);generalize h.n=f at *;clear x2 lv;refine aC (aA.mpr (dG.mpr ?_));walk_at "s";have x3:Ext h2 (h2.push (.lst [])):=.push;have g3:(h2.push (.lst [])).get h2.n=some (.lst []):=aO;have l3:h2.n<(h2.push (.lst [])).n:=bN;generalize h2.push (.lst [])=h3 at *;refine n_ (k_ ?_);walk_at "s";refine⟨P,rfl,by omega,by omega,j6 0 P,fun y τ h4=>∃ u7 u9 u10 u11 u12 u13 us,τ= [some (.ref p),some (.int (P:Int)),some (.ref f),u3,u4,u5,u6,u7,some (.ref h2.n),u9,u10,u11,u12,u13]/\Ext h2 h4/\h2.n<h4.n/\h4.get h2.n=some (.lst us)/\Rds h4 (fun k=>k ≠ h2.n) ((prY (fun x y=>marks F x y (rows.length+3)) y).map DR) us,fun _ _ _ _=>jl,by rw[aH];omega,⟨_,_,_,_,_,_,[],rfl,x3,l3,g3,Dg⟩,?_,?_⟩
   · rintro y w τ h4 k ey lk ⟨v7,u9,u10,u11,u12,u13,us,rfl,x4,l4,g4,r4⟩;have ly:y<P:=by have:=(a_ ey).1;rw[aH]at this;exact this
     rw[f9 ly,zi]at ey;cases ey;rw[aH]at lk;refine⟨[some (.ref p),some (.int (P:Int)),some (.ref f),u3,u4,u5,u6,v7,some (.ref h2.n),some (.int (y:Int)),u10,u11,u12,u13],rfl,?_⟩;refine aA.mpr (n_ (k_ ?_));walk_at "s";refine⟨y,rfl,by omega,by omega,j6 0 y,fun x τ h4=>∃ u7 u10 u11 u12 u13 us,τ= [some (.ref p),some (.int (P:Int)),some (.ref f),u3,u4,u5,u6,u7,some (.ref h2.n),some (.int (y:Int)),u10,u11,u12,u13]/\Ext h2 h4/\h2.n<h4.n/\h4.get h2.n=some (.lst us)/\Rds h4 (fun k=>k ≠ h2.n) ((prX (fun x y=>marks F x y (rows.length+3)) y (prY (fun x y=>marks F x y (rows.length+3)) y) x).map DR) us,fun _ _ _ _=>jl,by rw[aH];omega,⟨_,_,_,_,_,us,rfl,x4,l4,g4,r4⟩,?_,?_⟩
     · rintro x w τ h5 k5 ex lk5 ⟨v7,u10,u11,u12,u13,us,rfl,x5,l5,g5,r5⟩;have lx:x<y:=by have:=(a_ ex).1;rw[aH]at this;exact this
       rw[f9 lx,zi]at ex;cases ex;rw[aH]at lk5;refine⟨[some (.ref p),some (.int (P:Int)),some (.ref f),u3,u4,u5,u6,v7,some (.ref h2.n),some (.int (y:Int)),some (.int (x:Int)),u11,u12,u13],rfl,?_⟩;refine aA.mpr (dG.mpr ?_);walk_at "s";have x6:Ext h5 (h5.push (.lst [])):=.push;have g6:(h5.push (.lst [])).get h5.n=some (.lst []):=aO;have l6:h5.n<(h5.push (.lst [])).n:=bN;generalize h5.push (.lst [])=h6 at *;refine n_ (k_ ?_);walk_at "s";refine wK ((x5.trans x6).get lp2 gp2) ?_;rw[wl];walk_at "s";refine⟨(rows.length:Int)+3,rfl,by omega,by omega,j6 0 (rows.length+3),fun o τ h7=>∃ u7 u12 u13 vs,τ= [some (.ref p),some (.int (P:Int)),some (.ref f),u3,u4,u5,u6,u7,some (.ref h2.n),some (.int (y:Int)),some (.int (x:Int)),some (.ref h5.n),u12,u13]/\Ext h5 h7/\h5.n<h7.n/\h7.get h5.n=some (.lst vs)/\Rds h7 (fun k=>h5.n<=k/\k ≠ h5.n) ((marks F x y o).map D3) vs,fun _ _ _ _=>by rw[show((rows.length:Int)+3).toNat=rows.length+3 by omega];exact jl,by rw[aH];omega,⟨_,_,_,[],rfl,x6,l6,g6,Dg⟩,?_,?_⟩
       · rintro o w τ h7 k7 eo lk7 ⟨v7,u12,u13,vs,rfl,x7,l7,g7,r7⟩;have lo:o<rows.length+3:=by have:=(a_ eo).1;rw[aH]at this;exact this
         rw[f9 lo,zi]at eo;cases eo;have x27:=x5.trans x7;have gd:=x27.get l2 g2;have lf7:=aY l2 x27.1;have hs7:=hs.to x27.1 fun k l _=>x27.2 k l;have lvs:vs.length<=o:=by rw[r7.length,List.length_map];exact Ca ..
         refine⟨[some (.ref p),some (.int (P:Int)),some (.ref f),u3,u4,u5,u6,some (.int (o:Int)),some (.ref h2.n),some (.int (y:Int)),some (.int (x:Int)),some (.ref h5.n),u12,u13],rfl,?_⟩;have fin:∀ h8,Ext h7 h8->uW F x y o= []->Ext h5 h8/\h5.n<h8.n/\h8.get h5.n=some (.lst vs)/\Rds h8 (fun k=>h5.n<=k/\k ≠ h5.n) ((marks F x y (o+1)).map D3) vs:=fun h8 x8 e=>⟨x7.trans x8,aY l7 x8.1,x8.get l7 g7,by rw[marks,e,List.append_nil];exact r7.ext x8⟩;refine aA.mpr (mJ.mpr (Az.mpr ?_));walk_at "s";have x8:Ext h7 (h7.push (.tup [.int (x:Int),.int (o:Int)])):=.push;refine WT (x8.get lf7 gd) aO (lQ ..) ?_;generalize h7.push (.tup [.int (x:Int),.int (o:Int)])=h8 at *
         cases ea:F x o with
         | none=>
           rw[hs7.no _ _ ea]
           exact qw (qw (bR.mpr (aC (bR.mpr (jC ⟨_,_,_,vs,rfl,fin h8 x8 (by unfold uW;rw[ea])⟩)))))
         | some a=>
         obtain⟨qa,ga,lqa,_,oa⟩:=hs7.so _ _ _ ea;rw[ga];refine xg (Az.mpr ?_);walk_at "s";have x9:Ext h7 (h8.push (.tup [.int (y:Int),.int (o:Int)])):=x8.trans .push;refine WT (x9.get lf7 gd) aO (lQ ..) ?_;generalize h8.push (.tup [.int (y:Int),.int (o:Int)])=h9 at *
         cases eb:F y o with
         | none=>
           rw[hs7.no _ _ eb]
           exact qw (qw (bR.mpr (aC (bR.mpr (jC ⟨_,_,_,vs,rfl,fin h9 x9 (by unfold uW;rw[ea,eb])⟩)))))
         | some b=>
         obtain⟨qb,gb,lqb,_,ob⟩:=hs7.so _ _ _ eb;have ca:=hF _ _ _ ea;have cb:=hF _ _ _ eb;rw[gb];refine xg (dZ.mpr (aQ.mpr (Bb ?_)));walk_at "s";have xA:Ext h7 (h9.push (.tup [.int (x:Int),.int (o:Int)])):=x9.trans .push;refine Dk (xA.get lf7 gd) aO (lQ ..) ga ?_;generalize h9.push (.tup [.int (x:Int),.int (o:Int)])=hA at *;refine t7.mpr ⟨qa,[.int (a.1:Int),.int (a.2.1:Int),.int a.2.2],2,rfl,rfl,Nat.lt_succ_self 2,xA.get lqa oa,?_⟩;have xB:Ext hA (hA.push (.tup (List.take 2 [W.int (a.1:Int),.int (a.2.1:Int),.int a.2.2]))):=.push;have gB:(hA.push (.tup (List.take 2 [W.int (a.1:Int),.int (a.2.1:Int),.int a.2.2]))).get hA.n=some (.tup [.int (a.1:Int),.int (a.2.1:Int)]):=aO;have lB:hA.n<(hA.push (.tup (List.take 2 [W.int (a.1:Int),.int (a.2.1:Int),.int a.2.2]))).n:=bN;generalize hA.push (.tup (List.take 2 [W.int (a.1:Int),.int (a.2.1:Int),.int a.2.2]))=hB at *;refine aQ.mpr (Bb ?_);walk_at "s";have xC:Ext hB (hB.push (.tup [.int (y:Int),.int (o:Int)])):=.push;refine Dk ((xA.trans (xB.trans xC)).get lf7 gd) aO (lQ ..) gb ?_;generalize hB.push (.tup [.int (y:Int),.int (o:Int)])=hC at *;refine t7.mpr ⟨qb,[.int (b.1:Int),.int (b.2.1:Int),.int b.2.2],2,rfl,rfl,Nat.lt_succ_self 2,(xA.trans (xB.trans xC)).get lqb ob,?_⟩;have xD:Ext hC (hC.push (.tup (List.take 2 [W.int (b.1:Int),.int (b.2.1:Int),.int b.2.2]))):=.push;have gD:(hC.push (.tup (List.take 2 [W.int (b.1:Int),.int (b.2.1:Int),.int b.2.2]))).get hC.n=some (.tup [.int (b.1:Int),.int (b.2.1:Int)]):=aO;have lD:hC.n<(hC.push (.tup (List.take 2 [W.int (b.1:Int),.int (b.2.1:Int),.int b.2.2]))).n:=bN;generalize hC.push (.tup (List.take 2 [W.int (b.1:Int),.int (b.2.1:Int),.int b.2.2]))=hD at *;have xE:=xA.trans (xB.trans (xC.trans xD));refine cu.mpr (aah (d:=Dp (a.1:Int) (a.2.1:Int)) (d':=Dp (b.1:Int) (b.2.1:Int)) (A:=fun _=>True) (B:=fun _=>True) (adP.mpr ⟨_,rfl,aY lB (xC.trans xD).1,trivial,(xC.trans xD).get lB gB⟩) (adP.mpr ⟨_,rfl,lD,trivial,gD⟩) (by simp[kZ,uL]) (by simp[kZ,uL]) (by simp[okD,yW]) (by simp[okD,yW]) ?_);rw[aby,RQ,RQ];have em:uW F x y o=if Nat.beq a.1 b.1&&Nat.beq a.2.1 b.2.1 then [] else [((a.1:Int),(b.1:Int),a.2.2*b.2.2)]:=by unfold uW;rw[ea,eb]
         cases ec:(Nat.beq a.1 b.1&&Nat.beq a.2.1 b.2.1) with
         | true=>
           rw[ec]at em
           exact T4 (bR.mpr (aC (bR.mpr (jC ⟨_,_,_,vs,rfl,fin hD xE em⟩))))
         | false=>
           rw[ec]at em;have em:uW F x y o= [((a.1:Int),(b.1:Int),a.2.2*b.2.2)]:=em;clear fin gB gD lB lD xA xB xC xD x8 x9;refine T6 (aA.mpr (dG.mpr ?_));walk_at "s";have xF:Ext h7 (hD.push (.tup [.int (x:Int),.int (o:Int)])):=xE.trans .push;refine Dk (xF.get lf7 gd) aO (lQ ..) ga ?_;generalize hD.push (.tup [.int (x:Int),.int (o:Int)])=hF at *;refine aC (aA.mpr (dG.mpr ?_));walk_at "s";have xG:Ext h7 (hF.push (.tup [.int (y:Int),.int (o:Int)])):=xF.trans .push;refine Dk (xG.get lf7 gd) aO (lQ ..) gb ?_;generalize hF.push (.tup [.int (y:Int),.int (o:Int)])=hG at *;refine aC (aA.mpr (oV.mpr (yX (aR (w:=.ref h5.n) rfl ⟨h5.n,vs,rfl,xG.get l7 g7,?_⟩))));walk_at "s";refine Mh (q:=0) (xG.get lqa oa) rfl ?_;walk_at "s";refine Mh (q:=0) (xG.get lqb ob) rfl ?_;walk_at "s";refine Mh (q:=2) (xG.get lqa oa) rfl ?_;walk_at "s";refine Mh (q:=2) (xG.get lqb ob) rfl ?_;walk_at "s";have xH:Ext h7 (hG.push (.tup [.int (a.1:Int),.int (b.1:Int),.int (a.2.2*b.2.2)])):=xG.trans .push;refine⟨vs,xH.get l7 g7,by omega,aC (bR.mpr (aC (bR.mpr (jC ⟨_,_,_,_,rfl,(x7.trans xH).set (az _),by rw[Hs.dh];exact aY l7 xH.1,by rw[Hs.get_set,if_pos rfl],?_⟩))))⟩;rw[marks,em,List.map_append];have n7:=xG.1;exact Rds.to (by rw[Hs.dh];exact az _) (fun k _ a=>⟨by rw[Hs.get_set,if_neg a.2],a⟩) _ _ ((r7.ext xH).snoc (Ud.mpr ⟨_,rfl,bN,⟨by omega,by omega⟩,aO⟩))
       · rintro τ h7 ⟨v7,u12,u13,vs,rfl,x7,l7,g7,r7⟩;rw[aH]at r7
         have lu:us.length<=400:=by
          rw[r5.length,List.length_map,Dh];have:=yD (fun x y=>marks F x y (rows.length+3)) y;have:=Nat.mul_le_mul (show y<=18 by omega) (show y<=18 by omega);omega
         refine aC (aA.mpr (oV.mpr (yX (aR (w:=.ref h2.n) rfl ⟨h2.n,us,rfl,x7.get l5 g5,aR (w:=.ref h5.n) rfl ⟨us,x7.get l5 g5,by omega,aC (bR.mpr (jC ⟨_,_,_,_,_,_,rfl,(x5.trans x7).set (az _),by rw[Hs.dh];exact aY l5 x7.1,by rw[Hs.get_set,if_pos rfl],?_⟩))⟩⟩))));rw[prX,List.map_append];exact Rds.to (by rw[Hs.dh];exact az _) (fun k _ a=>⟨by rw[Hs.get_set,if_neg a],a⟩) _ _ ((r5.ext x7).snoc (vH.mpr ⟨h5.n,vs,rfl,l7,by omega,g7,r7.imp fun k _ z=>by omega⟩))
     · rintro τ h5 ⟨v7,u10,u11,u12,u13,us,rfl,x5,l5,g5,r5⟩;rw[aH]at r5;exact aC (bR.mpr (jC ⟨_,_,_,_,_,_,us,rfl,x5,l5,g5,r5⟩))
   · rintro τ h4 ⟨v7,u9,u10,u11,u12,u13,us,rfl,x4,l4,g4,r4⟩;walk_at "s";rw[aH]at r4;exact q _ us h4 x4 l4 g4 (r4.imp fun _ _ _=>trivial)
end
def fU{α:Type}(f:α->Int)(l:List α):Int:=(l.map f).sum
theorem Pn{α:Type}{f:α->Int}{l:List α}{i:Nat}{a:α}(e:l[i]? =some a):fU f (l.take (i+1))=fU f (l.take i)+f a:=by
 rw[List.take_add_one,e];unfold fU;rw[List.map_append,List.sum_append];simp
def sgF(T:List Int)(m:bI):Int:=if decide (m.1 ∈ T)==decide (m.2.1 ∈ T) then m.2.2 else -m.2.2
section
variable{d n p pt:Nat}{h:Hs}{A:Nat->Prop}{MM:List (List bI)}{ws:List W}{T:List Int}{Q:W->Hs->Prop}
theorem Xq(gp:h.get p=some (.lst ws))(rr:Rds h A (MM.map DR) ws)(gt:h.get pt=some (.lst (T.map W.int)))(l1:MM.length<=400)(l2:∀ M ∈ MM,M.length<=20)(lb:∀ M ∈ MM,(fU (sgF T) M).natAbs<1000)
 (q:Q (.int (fU (fun M=>fU (sgF T) M*fU (sgF T) M) MM)) h):wC 38 [.ref p,.ref pt] (bz Pg (d+1)) (n+500) h Q:=by
 refine(cP rfl rfl).mpr ?_;unfold zO;have wl:ws.length=MM.length:=by rw[rr.length,List.length_map]
 walk_at "s";refine n_ (GX (aR (w:=.ref p) rfl ?_));refine⟨p,ws,rfl,.inl ⟨gp,ws,fun i τ h2=>∃ u3 u4 u5 u6 u7,τ= [some (.ref p),some (.ref pt),some (.int (fU (fun M=>fU (sgF T) M*fU (sgF T) M) (MM.take i))),u3,u4,u5,u6,u7]/\h2=h,fun i τ h2 ⟨_,_,_,_,_,_,e⟩=>.inl ⟨p,rfl,by rw[e];exact gp⟩,by omega,⟨_,_,_,_,_,rfl,rfl⟩,?_,?_⟩⟩
 · rintro i w τ h2 k ei lk ⟨u3,u4,u5,u6,u7,rfl,rfl⟩;obtain⟨d1,e1,rd1⟩:=Rds.at rr ei;rw[List.getElem?_map]at e1;obtain⟨M,eM,rfl⟩:=Option.map_eq_some_iff.mp e1;obtain⟨pc,cws,rfl,lpc,_,gpc,rcs⟩:=vH.mp rd1;have cwl:cws.length=M.length:=by rw[rcs.length,List.length_map]
   have lM:=l2 M (List.mem_of_getElem? eM);have bM:=lb M (List.mem_of_getElem? eM);generalize hs:fU (fun M=>fU (sgF T) M*fU (sgF T) M) (MM.take i)=s;refine⟨[some (.ref p),some (.ref pt),some (.int s),some (.ref pc),u4,u5,u6,u7],rfl,?_⟩;refine aA.mpr (dG.mpr (t7.mpr (aC (aA.mpr (n_ (GX (aR (w:=.ref pc) rfl ?_)))))));refine⟨pc,cws,rfl,.inl ⟨gpc,cws,fun j τ h3=>∃ u5 u6 u7,τ= [some (.ref p),some (.ref pt),some (.int s),some (.ref pc),some (.int (fU (sgF T) (M.take j))),u5,u6,u7]/\h3=h2,fun i τ h2 ⟨_,_,_,_,e⟩=>.inl ⟨pc,rfl,by rw[e];exact gpc⟩,by omega,⟨_,_,_,rfl,rfl⟩,?_,?_⟩⟩
   · rintro j w τ h3 k3 ej lk3 ⟨v5,v6,v7,rfl,rfl⟩;obtain⟨d2,e2,rd2⟩:=Rds.at rcs ej;rw[List.getElem?_map]at e2;obtain⟨m,em,rfl⟩:=Option.map_eq_some_iff.mp e2;obtain⟨c,rfl,lc,_,gc⟩:=Ud.mp rd2;refine⟨_,aas gc,aA.mpr (Rx rfl (GQ.mpr ?_))⟩;walk_at "s";refine T7 gt ?_;walk_at "s";refine T7 gt ?_;walk_at "s";refine U6 ?_
     have fin:∀ z,z=sgF T m->∃ u5 u6 u7,[some (.ref p),some (.ref pt),some (.int s),some (.ref pc),some (.int (fU (sgF T) (M.take j)+z)),some (.int m.1),some (.int m.2.1),some (.int m.2.2)] = [some (W.ref p),some (.ref pt),some (.int s),some (.ref pc),some (.int (fU (sgF T) (M.take (j+1)))),u5,u6,u7]/\h3=h3:=by
      rintro z rfl;exact⟨_,_,_,by rw[Pn em],rfl⟩
     cases eb:(decide (m.1 ∈ T)==decide (m.2.1 ∈ T)) with
     | true=>exact xg (aR (w:=.int m.2.2) rfl ⟨m.2.2,rfl,aC (bR.mpr (jC (fin _ (by unfold sgF;rw[if_pos eb]))))⟩)
     | false=>
       refine qw ?_;walk_at "s";exact⟨-m.2.2,rfl,aC (bR.mpr (jC (fin _ (by unfold sgF;rw[if_neg (by rw[eb];decide)]))))⟩
   · rintro τ h3 ⟨v5,v6,v7,rfl,rfl⟩;rw[cwl,List.take_length];refine aC (aA.mpr (Rx rfl ?_));walk_at "s";refine⟨_,rfl,aC (bR.mpr (jC ⟨some (.ref pc),some (.int (fU (sgF T) M)),v5,v6,v7,?_,rfl⟩))⟩;rw[Pn eM,hs];rfl
 · rintro τ h2 ⟨u3,u4,u5,u6,u7,rfl,rfl⟩;rw[wl,List.take_length];walk_at "s";exact q
end
def sgB(b:Bool):Int:=if b then 1 else -1
def rmv(l:Lnk):List bI->Option (List bI)
 | []=>none
 | m::M=>if ieq m.1 l.1&&(ieq m.2.1 l.2.1&&ieq m.2.2 (sgB l.2.2)) then some M else match rmv l M with
   | some N=>some (m::N)
   | none=>none
def Hx:List Lnk->List bI->Bool
 | [],M=>M.isEmpty
 | l::L,M=>match rmv l M with
   | some N=>Hx L N
   | none=>false
def toM(l:Lnk):bI:=((l.1:Int),(l.2.1:Int),sgB l.2.2)
theorem sum_cons{α:Type}(f:α->Int)(a:α)(l:List α):fU f (a::l)=f a+fU f l:=by unfold fU;rw[List.map_cons,List.sum_cons]
theorem RV(f:bI->Int){l:Lnk}:∀ {M N:List bI},rmv l M=some N->fU f M=f (toM l)+fU f N
 | [],_,e=>by cases e
 | m::M,N,e=>by
   unfold rmv at e
   split at e
   · rename_i c;cases e;simp only[eX,Bool.and_eq_true,decide_eq_true_eq]at c;rw[sum_cons,show m=toM l from Prod.ext c.1 (Prod.ext c.2.1 c.2.2)]
   · split at e
     · rename_i N' e';cases e;rw[sum_cons,sum_cons,RV f e'];omega
     · cases e
theorem Pq(T:List Int):∀ {L:List Lnk} {M:List bI},Hx L M=true->fU (sgF T) M=jj T L
 | [],M,e=>by
   unfold Hx at e
   rw[List.isEmpty_iff.mp e];rfl
 | l::L,M,e=>by
   unfold Hx at e
   split at e
   · rename_i N e';rw[RV (sgF T) e',Pq T e];unfold jj yC;rw[List.filter_cons,List.length_cons];unfold sgF toM sgB;dsimp only;cases l.2.2 <;> cases (decide ((l.1:Int) ∈ T)==decide ((l.2.1:Int) ∈ T)) <;> simp only[Bool.false_eq_true,if_true,if_false,beq_self_eq_true,List.length_cons,show(true==false)=false from rfl,show(false==true)=false from rfl] <;> omega
   · cases e
theorem Xr{T T':List Int}{m:Nat}(z:∀ i:Nat,i<m->((i:Int) ∈ T' ↔ ¬ (i:Int) ∈ T)):∀ {L:List Lnk},(L.all fun l=>Nat.blt l.1 m&&Nat.blt l.2.1 m)=true->jj T' L=jj T L:=fun {L} e=>by
 unfold jj yC;rw[List.filter_congr (q:=fun l=>l.2.2==(decide ((l.1:Int) ∈ T)==decide ((l.2.1:Int) ∈ T))) fun l ml=>?_];have c:=List.all_eq_true.mp e l ml;rw[Bool.and_eq_true]at c;rw[decide_eq_decide.mpr (z l.1 (Nat.le_of_ble_eq_true c.1)),decide_eq_decide.mpr (z l.2.1 (Nat.le_of_ble_eq_true c.2)),decide_not,decide_not];cases decide ((l.1:Int) ∈ T) <;> cases decide ((l.2.1:Int) ∈ T) <;> rfl
def okX(S:Nat->Nat->bI)(F:Int->Int->Option Cel)(t m x y:Nat):Bool:=Hx (pJ S t m x y) (marks F x y (m+3))&&(pJ S t m x y).all fun l=>Nat.blt l.1 m&&Nat.blt l.2.1 m
def okP(k:List Nat × Int)(tr:List bI)(rows:List (List bI))(t m:Nat):Bool:=Nat.beq rows.length m&&(List.range (2*t)).all fun y=>((List.range m).all fun i=>(gm (bC k.1 t tr i) t (y:Int)).isSome)&&(List.range y).all fun x=>okX (bC k.1 t tr) (rJ (rK rows rows.length)) t m x y
theorem aeh{k:List Nat × Int}{tr:List bI}{rows:List (List bI)}{t m:Nat}(e:okP k tr rows t m=true):rows.length=m/\(∀ x,x<2*t->∀ i,i<m->(gm (bC k.1 t tr i) t (x:Int)).isSome=true)/\∀ T,∀ x y,x<y->y<2*t->fU (sgF T) (marks (rJ (rK rows rows.length)) x y (rows.length+3))=jj T (pJ (bC k.1 t tr) t m x y)/\∀ T',(∀ i:Nat,i<m->((i:Int) ∈ T' ↔ ¬ (i:Int) ∈ T))->jj T' (pJ (bC k.1 t tr) t m x y)=jj T (pJ (bC k.1 t tr) t m x y):=by
 unfold okP at e;rw[Bool.and_eq_true]at e;have el:=Nat.eq_of_beq_eq_true e.1;refine⟨el,fun x lx i li=>?_,fun T x y lx ly=>?_⟩
 · have z:=List.all_eq_true.mp e.2 x (List.mem_range.mpr lx);rw[Bool.and_eq_true]at z;exact List.all_eq_true.mp z.1 i (List.mem_range.mpr li)
 · have z:=List.all_eq_true.mp e.2 y (List.mem_range.mpr ly);rw[Bool.and_eq_true]at z;have z:=List.all_eq_true.mp z.2 x (List.mem_range.mpr lx);unfold okX at z;rw[Bool.and_eq_true]at z;refine⟨?_,fun T' h=>Xr h z.2⟩;rw[show rows.length+3=m+3 by omega];exact Pq T z.1
def unF(S:Nat->Nat->bI)(t m:Nat)(T:List Int):Int:=(prY (fun x y=>jj T (pJ S t m x y) ^ 2) (2*t)).sum
def U7:D->Option bI
 | .tup [.int a,.int b,.int c]=>some (a,b,c)
 | _=>none
def Pu{α β:Type}(f:α->Option β):List α->Option (List β)
 | []=>some []
 | x::xs=>match f x,Pu f xs with
   | some y,some ys=>some (y::ys)
   | _,_=>none
def U8:D->Option (List bI)
 | .lst ds=>Pu U7 ds
 | _=>none
def aau:D->Option (List (List bI))
 | .lst ds=>Pu U8 ds
 | _=>none
theorem Jz{α β:Type}{f:α->Option β}{g:β->α}(hf:∀ x y,f x=some y->x=g y):∀ {xs:List α} {ys:List β},Pu f xs=some ys->xs=ys.map g
 | [],ys,e=>by cases e;rfl
 | x::xs,ys,e=>by
   unfold Pu at e
   split at e
   · rename_i y ys' e1 e2;cases e;rw[hf x y e1,Jz hf e2];rfl
   · cases e
theorem Zx:∀(d:D) (t:bI),U7 d=some t->d=D3 t:=by
 intro d t e;unfold U7 at e
 split at e
 · cases e;rfl
 · cases e
theorem RX:∀(d:D) (r:List bI),U8 d=some r->d=DR r:=by
 intro d r e;unfold U8 at e
 split at e
 · rw[Jz Zx e]
 · cases e
def bA:List (List Nat × Int):=[([115,116,114,97,105,103,104,116],3),([115,107,105,112],4),([115,104,97,114,101,100],4),([115,116,114,97,105,103,104,116],5),([114,105,110,103],4),([115,107,105,112],6),([115,104,97,114,101,100],6),([115,116,114,97,105,103,104,116],7),([114,105,110,103],5),([115,107,105,112],8),([115,104,97,114,101,100],8),([115,116,114,97,105,103,104,116],9),([114,105,110,103],6)]
def U9(w:W)(g:Hs):Option (List Nat × Int × List bI):=match w with
 | .ref p=>match g.get p with
   | some (.ins 50 [(a,.str kd),(b,.int t),(c,.ref q)])=>if codes a kiT&&(codes b taT&&(codes c trT&&Nat.ble (p+1) g.n)) then match rdD g 12 (.ref q) with
      | some d=>match U8 d with
        | some tr=>some (kd,t,tr)
        | none=>none
      | none=>none
     else none
   | _=>none
 | _=>none
theorem Zy{w:W}{g h:Hs}{kd:List Nat}{t:Nat}{tr:List bI}(e:U9 w g=some (kd,(t:Int),tr))(ok:okC kd=true)(t0:0<t)(t9:t<=9)(len:codes kd rgT=true->tr.length+1=t):∃ p,shW h.n w= .ref p/\fM (h.cat g) p kd t tr:=by
 unfold U9 at e
 split at e
 · rename_i p
   split at e
   · rename_i a kd' b t' c q eg
     split at e
     · rename_i cc;simp only[Bool.and_eq_true]at cc;obtain⟨c1,c2,c3,c4⟩:=cc;have c1:=cT.mp c1;have c2:=cT.mp c2;have c3:=cT.mp c3;subst c1 c2 c3
       split at e
       · rename_i dd ed
         split at e
         · rename_i tr' et;cases e;have lp:p<g.n:=Nat.le_of_ble_eq_true c4;have r:=G5 (h:=h) 12 _ _ ed;rw[RX _ _ et]at r;obtain⟨pt,ws,ep,lpt,_,gpt,rt⟩:=vH.mp r;have ep:h.n+q=pt:=by cases ep;rfl
           subst ep;exact⟨h.n+p,rfl,by rw[G4];omega,⟨h.n+q,ws,Jh lp eg,lpt,gpt,rt.imp fun _ _ _=>trivial⟩,ok,t0,t9,len⟩
         · cases e
       · cases e
     · cases e
   · cases e
 · cases e
def U_(r:R A):Option (List Nat × Int × List bI):=match r with
 | .ok (.w w) g=>U9 w g
 | _=>none
def aei(k:List Nat × Int):Option (List Nat × Int × List bI):=U_ ((X.make 50 17 [(.var 3),(.var 4)]).f (bz Pg 13) 20000 [none,none,none,some (.str k.1),some (.int k.2),none,none,none,none,none,none] (.mk 0 .lf))
def aej(k:List Nat × Int):Option D:=Ue (dR 35 [.str k.1,.int k.2] (bz Pg 13) 20000 (.mk 0 .lf))
def pK(k:List Nat × Int):Bool:=match aei k,aej k with
 | some (kd,t,tr),some d=>match aau d with
   | some rows=>codes kd k.1&&(ieq t k.2&&(ieq t (t.toNat:Int)&&(decide (0<t.toNat/\t.toNat<=9)&&((!codes k.1 rgT||Nat.beq (tr.length+1) t.toNat)&&(ieq (fO k.1 t.toNat) ((fO k.1 t.toNat).toNat:Int)&&(decide ((fO k.1 t.toNat).toNat<=12)&&(decide (rows.length<=12)&&((rows.all fun r=>decide (r.length<=12))&&okP k tr rows t.toNat (fO k.1 t.toNat).toNat))))))))
   | none=>false
 | _,_=>false
theorem rr0:pK (bA.getD 0 ([],0))=true:=by decide +kernel
theorem rr1:pK (bA.getD 1 ([],0))=true:=by decide +kernel
theorem rr2:pK (bA.getD 2 ([],0))=true:=by decide +kernel
theorem rr3:pK (bA.getD 3 ([],0))=true:=by decide +kernel
theorem rr4:pK (bA.getD 4 ([],0))=true:=by decide +kernel
theorem rr5:pK (bA.getD 5 ([],0))=true:=by decide +kernel
theorem rr6:pK (bA.getD 6 ([],0))=true:=by decide +kernel
theorem rr7:pK (bA.getD 7 ([],0))=true:=by decide +kernel
theorem rr8:pK (bA.getD 8 ([],0))=true:=by decide +kernel
theorem rr9:pK (bA.getD 9 ([],0))=true:=by decide +kernel
theorem age:pK (bA.getD 10 ([],0))=true:=by decide +kernel
theorem agf:pK (bA.getD 11 ([],0))=true:=by decide +kernel
theorem agg:pK (bA.getD 12 ([],0))=true:=by decide +kernel
theorem aek:∀ k,k<13->pK (bA.getD k ([],0))=true
 | 0,_=>rr0
 | 1,_=>rr1
 | 2,_=>rr2
 | 3,_=>rr3
 | 4,_=>rr4
 | 5,_=>rr5
 | 6,_=>rr6
 | 7,_=>rr7
 | 8,_=>rr8
 | 9,_=>rr9
 | 10,_=>age
 | 11,_=>agf
 | 12,_=>agg
 | k+13,l=>absurd l (by omega)
theorem okK:∀ k,k<13->okC (bA.getD k ([],0)).1=true:=by decide +kernel
def rM(k:Nat):Option D:=Ue (dR 33 [.int (Int.ofNat k)] (bz Pg 13) 100 (.mk 0 .lf))
theorem rp0:rM 0=some (.tup [.str (bA.getD 0 ([],0)).1,.int (bA.getD 0 ([],0)).2]):=by kernel_rfl
theorem rp1:rM 1=some (.tup [.str (bA.getD 1 ([],0)).1,.int (bA.getD 1 ([],0)).2]):=by kernel_rfl
theorem rp2:rM 2=some (.tup [.str (bA.getD 2 ([],0)).1,.int (bA.getD 2 ([],0)).2]):=by kernel_rfl
theorem rp3:rM 3=some (.tup [.str (bA.getD 3 ([],0)).1,.int (bA.getD 3 ([],0)).2]):=by kernel_rfl
theorem rp4:rM 4=some (.tup [.str (bA.getD 4 ([],0)).1,.int (bA.getD 4 ([],0)).2]):=by kernel_rfl
theorem rp5:rM 5=some (.tup [.str (bA.getD 5 ([],0)).1,.int (bA.getD 5 ([],0)).2]):=by kernel_rfl
theorem rp6:rM 6=some (.tup [.str (bA.getD 6 ([],0)).1,.int (bA.getD 6 ([],0)).2]):=by kernel_rfl
theorem rp7:rM 7=some (.tup [.str (bA.getD 7 ([],0)).1,.int (bA.getD 7 ([],0)).2]):=by kernel_rfl
theorem rp8:rM 8=some (.tup [.str (bA.getD 8 ([],0)).1,.int (bA.getD 8 ([],0)).2]):=by kernel_rfl
theorem rp9:rM 9=some (.tup [.str (bA.getD 9 ([],0)).1,.int (bA.getD 9 ([],0)).2]):=by kernel_rfl
theorem agh:rM 10=some (.tup [.str (bA.getD 10 ([],0)).1,.int (bA.getD 10 ([],0)).2]):=by kernel_rfl
theorem agi:rM 11=some (.tup [.str (bA.getD 11 ([],0)).1,.int (bA.getD 11 ([],0)).2]):=by kernel_rfl
theorem agj:rM 12=some (.tup [.str (bA.getD 12 ([],0)).1,.int (bA.getD 12 ([],0)).2]):=by kernel_rfl
theorem ael:∀ k,k<13->rM k=some (.tup [.str (bA.getD k ([],0)).1,.int (bA.getD k ([],0)).2])
 | 0,_=>rp0
 | 1,_=>rp1
 | 2,_=>rp2
 | 3,_=>rp3
 | 4,_=>rp4
 | 5,_=>rp5
 | 6,_=>rp6
 | 7,_=>rp7
 | 8,_=>rp8
 | 9,_=>rp9
 | 10,_=>agh
 | 11,_=>agi
 | 12,_=>agj
 | k+13,l=>absurd l (by omega)
theorem abA{k:List Nat × Int}(e:pK k=true):∃(t m:Nat) (tr:List bI) (rows:List (List bI)),k.2=(t:Int)/\aei k=some (k.1,(t:Int),tr)/\aej k=some (.lst (rows.map DR))/\0<t/\t<=9/\(codes k.1 rgT=true->tr.length+1=t)/\fO k.1 t=(m:Int)/\m<=12/\rows.length<=12/\(∀ r ∈ rows,r.length<=12)/\okP k tr rows t m=true:=by
 unfold pK at e
 split at e
 · rename_i kd t tr d e1 e2
   split at e
   · rename_i rows e3;simp only[Bool.and_eq_true,decide_eq_true_eq,List.all_eq_true]at e;obtain⟨a1,a2,a3,a4,a5,a6,a7,a8,a9,a10⟩:=e;have a1:=cT.mp a1;rw[eX]at a2 a3 a6;simp only[decide_eq_true_eq]at a2 a3 a6;unfold aau at e3
     split at e3
     · refine⟨t.toNat,(fO k.1 t.toNat).toNat,tr,rows,by rw[<- a3];exact a2.symm,by rw[e1,a1,<- a3],by rw[e2,Jz RX e3],a4.1,a4.2,fun z=>?_,a6,a7,a8,a9,a10⟩;rw[z]at a5;simpa using Nat.eq_of_beq_eq_true (by simpa using a5)
     · cases e3
   · cases e
 · cases e
section
variable{d n:Nat}{h:Hs}{Q:W->Hs->Prop}{A B:Nat->Prop}
theorem RZ{i:Int}(q:Q (.bl true) h):wC 28 [.int i,.int i] (bz Pg (d+2)) (n+2) h Q:=by
 refine(cP rfl rfl).mpr ?_;unfold Ec;walk_at "s";refine qw ?_;walk_at "s";refine(cP rfl rfl).mpr ?_;unfold G9;walk_at "s";rw[decide_eq_true rfl];exact q
end
structure Trn (m:Nat)(h:Hs)(p:Nat)(T:List Int):Prop where
 l:p<h.n
 g:h.get p=some (.lst (T.map W.int))
 b:∀ x ∈ T,0<=x/\x<(m:Int)
 d:T.Nodup
 n:T.length<=20
theorem Trn.ext{m p:Nat}{h h':Hs}{T:List Int}(z:Trn m h p T)(x:Ext h h'):Trn m h' p T:=⟨aY z.l x.1,x.get z.l z.g,z.b,z.d,z.n⟩
theorem Px{m:Nat}:∀(ts:List Nat) (lo:Nat),ts.Pairwise (· < ·)->(∀ x ∈ ts,lo<=x/\x<m)->ts.length<=m - lo
 | [],_,_,_=>Nat.zero_le _
 | t::ts,lo,z,b=>by
   have b0:=b t (.head _);have:=Px ts (t+1) (List.pairwise_cons.mp z).2 fun x mx=>⟨(List.pairwise_cons.mp z).1 x mx,(b x (.tail _ mx)).2⟩;rw[List.length_cons];omega
theorem Zz{m:Nat}:∀ x ∈ sG 0 m,0<=x/\x<(m:Int):=fun x mx=>by
 unfold sG at mx;obtain⟨i,mi,rfl⟩:=List.mem_map.mp mx;have:=List.mem_range.mp mi;show 0<=(0:Int)+(i:Int)/\(0:Int)+(i:Int)<(m:Int);omega
theorem abB(m:Nat):(sG 0 m).Nodup:=by
 unfold sG;refine List.pairwise_map.mpr (List.nodup_range.imp fun {a c} n e=>n ?_);have e:(0:Int)+(a:Int)=0+(c:Int):=e;omega
theorem ZC(m:Nat):(sG 0 m).length=m:=by simp[sG]
def aem(T:List Int)(w:W):Bool:=match w with
 | .int i=> !decide (i ∈ T)
 | _=>false
theorem ZD(T:List Int)(m:Nat):(j6 0 m).filter (aem T)=((sG 0 m).filter fun i=> !decide (i ∈ T)).map W.int:=by
 rw[show j6 0 m=(sG 0 m).map W.int by unfold j6 sG;rw[List.map_map];rfl,List.filter_map];rfl
theorem aen{S:Nat->Nat->bI}{F:Int->Int->Option Cel}{t m N:Nat}{T:List Int}(z:∀ x y,x<y->y<2*t->fU (sgF T) (marks F x y N)=jj T (pJ S t m x y)):fU (fun M=>fU (sgF T) M*fU (sgF T) M) (prY (fun x y=>marks F x y N) (2*t))=unF S t m T:=by
 show((prY (fun x y=>marks F x y N) (2*t)).map _).sum=_;unfold unF;rw[Dj,Pj fun x y l k=>?_];rw[z x y l k,Int.pow_succ,Int.pow_succ,Int.pow_zero,Int.one_mul]
theorem abC{S:Nat->Nat->bI}{t m:Nat}{T T':List Int}(z:∀ x y,x<y->y<2*t->jj T' (pJ S t m x y)=jj T (pJ S t m x y)):unF S t m T'=unF S t m T:=by
 unfold unF;rw[Pj fun x y l k=>?_];rw[z x y l k]
section
variable{d n p t m:Nat}{h:Hs}{Q:W->Hs->Prop}{kd:List Nat}{tr:List bI}{pt:Nat}{T:List Int}
theorem agk(P:fM h p kd t tr)(em:fO kd t=m)(lm:m<=12)(hw:∀ x,x<2*t->∀ i,i<m->(gm (bC kd t tr i) t (x:Int)).isSome=true)(R:Trn m h pt T)(q:∀ h',Ext h h'->Q (.int (unF (bC kd t tr) t m T)) h'):wC 9 [.ref p,.ref pt] (bz Pg (d+9)) (n+600) h Q:=
 Pk P em (by omega) hw R.l R.g R.b R.d R.n q
theorem afr{rows:List (List bI)}{rws:List W}{A:Nat->Prop}{τ:Sg}{a:X}(lp:p<h.n)(gp:h.get p=some (.lst rws))(rr:Rds h A (rows.map DR) rws)(lr:rows.length<=12)(lc:∀ r ∈ rows,r.length<=12)(t9:t<=9)(e6:cD τ 6=some (.ref p))(e4:cD τ 4=some (.int (t:Int)))
 (z:∀ T,∀ x y,x<y->y<2*t->fU (sgF T) (marks (rJ (rK rows rows.length)) x y (rows.length+3))=jj T (pJ (bC kd t tr) t m x y)) (lm:m<=12)
 (ha:∀ h1,Ext h h1->wX a (bz Pg (d+1)) (n+1000) τ h1 fun w h2=>∃ pt T,w= .ref pt/\Ext h1 h2/\h2.get pt=some (.lst (T.map W.int))/\Q (.int (unF (bC kd t tr) t m T)) h2):wX (.call 38 [(.call 37 [(.var 6),(.pr .mul [(.cst (.int 2)),(.var 4)])]),a]) (bz Pg (d+1)) (n+1000) τ h Q:=by
 refine yo.mpr (aQ.mpr (yo.mpr (aQ.mpr (aR e6 (aQ.mpr (dZ.mpr (aQ.mpr (t7.mpr (aQ.mpr (aR e4 ?_))))))))));refine cu.mpr (aaf (by decide) (by omega) (cu.mpr ?_));rw[show 2*(t:Int)=((2*t:Nat):Int) by omega];refine abz (d:=d) (n:=n+800) lp gp rr lr lc (by omega) fun f us h1 x1 lf gf rf=>?_;refine aQ.mpr (oU (ha h1 x1) ?_);rintro _ h2 ⟨pt,T,rfl,x2,gt,q⟩;refine cu.mpr (Xq (d:=d) (n:=n+500) (x2.get lf gf) (rf.ext x2) gt ?_ ?_ ?_ ?_)
 · exact Nat.le_trans (yD ..) (Nat.le_trans (Nat.mul_le_mul (show 2*t<=18 by omega) (show 2*t<=18 by omega)) (by decide))
 · exact Di (G:=fun x y=>marks (rJ (rK rows rows.length)) x y (rows.length+3)) (p:=fun L=>L.length<=20) _ fun i j _ _=>Nat.le_trans (Ca ..) (by omega)
 · refine Di (G:=fun x y=>marks (rJ (rK rows rows.length)) x y (rows.length+3)) (p:=fun L=>(fU (sgF T) L).natAbs<1000) _ fun i j l k=>?_;rw[z T i j l k];have:=FJ (pJ (bC kd t tr) t m i j) T;have:=wU (jZ (bC kd t tr) t i m) (v9 (jZ (bC kd t tr) t j m) m) j m;unfold jj;unfold pJ at *;omega
 · rw[aen (z T)];exact q
end
theorem runs(ns:List Int)(l63:ns.length<=63):wC 39 [.ref 0] (bz Pg 14) 5000 (Fi ns) fun w _=>w= .bl true:=by
 refine(cP (n:=4999) (d:=13) rfl rfl).mpr ?_;unfold aap;have gs:(Fi ns).get 0=some (.scr ns):=aO (h:=.mk 0 .lf);have ls:0<(Fi ns).n:=bN (h:=.mk 0 .lf);generalize Fi ns=h0 at gs ls;refine aA.mpr (n_ (k_ ?_));walk_at "s";refine⟨2,rfl,by decide,by decide,j6 0 2,fun i τ h=>∃ u1 u2 u3 u4 u5 u6 u7 u8 u9 u10,τ= [some (.ref 0),u1,u2,u3,u4,u5,u6,u7,u8,u9,u10]/\Ext h0 h,fun _ _ _ _=>jl,by decide,⟨_,_,_,_,_,_,_,_,_,_,rfl,.refl⟩,?_,?_⟩
 · rintro i w τ h mi ei lmi ⟨u1,u2,u3,u4,u5,u6,u7,u8,u9,u10,rfl,xh⟩;have li:i<2:=by have:=(a_ ei).1;rw[aH]at this;exact this
   rw[f9 li]at ei;cases ei;rw[show(0:Int)+Int.ofNat i=(i:Int) by show 0+(i:Int)=(i:Int);omega];rw[aH]at lmi;obtain⟨mi,rfl⟩:∃ m',mi=m'+2000:=⟨mi - 2000,by omega⟩;refine⟨[some (.ref 0),some (.int (i:Int)),u2,u3,u4,u5,u6,u7,u8,u9,u10],rfl,?_⟩;refine aA.mpr (dG.mpr ?_);walk_at "s";refine adY (xh.get ls gs) l63 (by omega) ?_;walk_at "s";have x1:Ext h0 (h.push (.lst [.int 13,.int 2048])):=xh.trans .push;have g1:(h.push (.lst [.int 13,.int 2048])).get h.n=some (.lst (([13,2048]:List Int).map W.int)):=aO;generalize h.push (.lst [.int 13,.int 2048])=h1 at *;refine adZ g1 (by decide) (by decide) fun hD=>?_;generalize jX _ _=row at hD;have gr:(h1.push (.lst (row.map W.int))).get h1.n=some (.lst (row.map W.int)):=aO;have lr:h1.n<(h1.push (.lst (row.map W.int))).n:=bN;have x1:=x1.trans (Ext.push (o:=.lst (row.map W.int)));clear g1 xh;generalize h1.n=pr at *;generalize h1.push (.lst (row.map W.int))=h1 at *;have rl:row.length=2:=J_ hD;have d0:0<=row.getD 0 0/\row.getD 0 0<13:=NQ (k:=0) hD (by decide);obtain⟨k,hk,ek⟩:∃ k:Nat,k<13/\row.getD 0 0=Int.ofNat k:=⟨(row.getD 0 0).toNat,by omega,by show row.getD 0 0=(((row.getD 0 0).toNat:Nat):Int);omega⟩;refine aC (aA.mpr (CQ (WX (ws:=[.int (Int.ofNat k)]) rfl (ael k hk) ?_)));walk_at "s";refine Je (q:=0) gr (Ro (by omega)) ?_;refine cu.mpr ⟨by rw[ek],fun w2 h2 x2 r2=>?_⟩;have ok:=aek k hk;have oK:=okK k hk;generalize hkk:bA.getD k ([],0)=kk at r2 ok oK;obtain⟨t,m,tr,rows,et,eL,eR,t0,t9,len,em,lm,b1,b2,bP⟩:=abA ok;obtain⟨el,oW,oS⟩:=aeh bP;simp only[Ev.Rd]at r2;obtain⟨pk,wk,rfl,lpk,_,gpk,rk⟩:=r2;simp only[Rds,Ev.Rd]at rk;obtain⟨_,_,rfl,rfl,_,_,rfl,rfl,rfl⟩:=rk;refine⟨pk,_,_,rfl,gpk,?_⟩;have eL2:U_ ((X.make 50 17 [(.var 3),(.var 4)]).f (bz Pg 13) 20000 [none,none,none,some (.str kk.1),some (.int kk.2),none,none,none,none,none,none] (.mk 0 .lf))=some (kk.1,(t:Int),tr):=eL;unfold U_ at eL2
   split at eL2
   case h_2=>cases eL2
   rename_i w3 g3 e3;refine aC (aA.mpr (dG.mpr (ad3 (w:=w3) (g:=g3) e3 ?_)));obtain⟨p,ep,P⟩:=Zy (h:=h2) eL2 oK t0 t9 len;rw[ep];have x3:Ext h2 (h2.cat g3):=Jg;generalize h2.cat g3=h3 at *;have x13:=x2.trans x3;refine aC (aA.mpr (dG.mpr (WX (ws:=[.str kk.1,.int kk.2]) rfl eR ?_)));walk_at "s";refine⟨rfl,fun w4 h4 x4 r4=>?_⟩;obtain⟨p4,rws,rfl,l4,_,g4,rr4⟩:=vH.mp r4;have P4:=P.ext x4;have gr4:=(x13.trans x4).get lr gr;have x04:=x1.trans (x13.trans x4);have wl:rws.length=m:=by rw[rr4.length,List.length_map,el]
   rw[et];clear eL eR eL2 e3 ok bP gpk r4 x2 x3 x4 x13 gr lr P ep hkk x1;refine aC (aA.mpr (dG.mpr (yo.mpr ?_)));walk_at "s";refine Je (q:=1) gr4 (Ro (by omega)) ?_;walk_at "s";refine wK g4 ?_;rw[wl];refine cu.mpr (Qt (d:=12) (n:=mi+1940) lm fun f ts h5 x5 lo5 l5 g5 bd5 s5=>?_)
   have T5:Trn m h5 f (ts.map Int.ofNat):=⟨l5,g5,fun x mx=>by
    obtain⟨i,mi,rfl⟩:=List.mem_map.mp mx;have:=bd5 i mi;show 0<=(i:Int)/\(i:Int)<(m:Int)
    omega,List.pairwise_map.mpr (s5.imp fun {a c} l e=>by
    have e:(a:Int)=(c:Int):=e
    omega),by
    have:=Px ts 0 s5 fun x mx=>⟨Nat.zero_le _,bd5 x mx⟩
    rw[List.length_map];omega⟩
   generalize ts.map Int.ofNat=T at T5;clear g5 bd5 s5 l5 lo5;refine aC (aA.mpr (dG.mpr (Qf (k_ ?_))));walk_at "s";refine wK (x5.get l4 g4) ?_;rw[wl];refine⟨(m:Int),rfl,by omega,by omega,.refl,j6 0 m,aem T,fun _ _=>jl,by rw[aH];omega,by rw[aH];omega,?_,?_⟩
   · intro i w h2 mm ei lmm x2 l2;have li:i<m:=by have:=(a_ ei).1;rw[aH]at this;exact this
     rw[f9 li]at ei;cases ei;refine⟨[some (.int (0+Int.ofNat i)),some (.ref f)],rfl,?_⟩;walk_at "s";refine abb (x2.get T5.l T5.g) ⟨rfl,.refl,fun _=>aR (w:=.int (0+Int.ofNat i)) rfl ⟨rfl,.refl⟩⟩
   intro h8 x8 l8 g8;rw[ZD]at g8;have T8:Trn m h8 h5.n ((sG 0 m).filter fun i=> !decide (i ∈ T)):=⟨l8,g8,fun x mx=>Zz x (List.mem_filter.mp mx).1,(abB m).filter _,by have:=List.length_filter_le (fun i=> !decide (i ∈ T)) (sG 0 m);rw[ZC]at this;omega⟩
   have oth:∀ i:Nat,i<m->((i:Int) ∈ ((sG 0 m).filter fun i=> !decide (i ∈ T)).reverse ↔ ¬ (i:Int) ∈ T):=fun i li=>by
    rw[List.mem_reverse,List.mem_filter];refine⟨fun z=>by simpa using z.2,fun z=>⟨List.mem_map.mpr ⟨i,List.mem_range.mpr li,by show 0+(i:Int)=i;omega⟩,by simpa using z⟩⟩
   generalize (sG 0 m).filter (fun i=> !decide (i ∈ T))=T' at *;have T58:=T5.ext x8;have x48:=x5.trans x8;clear x5 x8 T5 l8 g8;generalize h5.n=f8 at *;have lun:∀ {h:Hs} {Q:W->Hs->Prop} {τ:Sg} {a:X},Ext h4 h->cD τ 6=some (.ref p4)->cD τ 4=some (.int (t:Int))->(∀ h1,Ext h h1->wX a (bz Pg 13) (mi+2000) τ h1 fun w h2=>∃ pt T,w= .ref pt/\Ext h1 h2/\h2.get pt=some (.lst (T.map W.int))/\Q (.int (unF (bC kk.1 t tr) t m T)) h2)->wX (.call 38 [(.call 37 [(.var 6),(.pr .mul [(.cst (.int 2)),(.var 4)])]),a]) (bz Pg 13) (mi+2000) τ h Q:=fun x e6 e4 z=>afr (d:=12) (n:=mi+1000) (aY l4 x.1) (x.get l4 g4) (rr4.ext x) b1 b2 t9 e6 e4 (fun T x y l k=>(oS T x y l k).1) lm z;refine aC (aA.mpr (dG.mpr (lun x48 rfl rfl fun h9 x9=>aR (w:=.ref f) rfl ⟨f,T,rfl,.refl,(T58.ext x9).g,?_⟩)));have un:∀ {h:Hs} {Q:W->Hs->Prop} {pt:Nat} {T:List Int},Ext h4 h->Trn m h pt T->(∀ h',Ext h h'->Q (.int (unF (bC kk.1 t tr) t m T)) h')->wC 9 [.ref p,.ref pt] (bz Pg 13) (mi+2000) h Q:=fun x R q=>agk (d:=4) (n:=mi+1400) (P4.ext x) em lm oW R q;have x49:=x48.trans x9;have T9:=T58.ext x9;have T9':=T8.ext x9;have uT:unF (bC kk.1 t tr) t m T'.reverse=unF (bC kk.1 t tr) t m T:=abC fun x y l k=>(oS T x y l k).2 _ oth;clear x48 x9 T58 T8 oth;walk_at "s";refine adK T9.g ?_;have xA:Ext h9 (h9.push (.lst (T.map W.int))):=.push;have TA:Trn m (h9.push (.lst (T.map W.int))) h9.n T:=⟨bN,aO,T9.b,T9.d,T9.n⟩;generalize h9.push (.lst (T.map W.int))=hA at *;generalize h9.n=fA at *;have x4A:=x49.trans xA;refine aC (aA.mpr (mJ.mpr (GR.mpr ?_)));walk_at "s";refine un x4A TA fun hB xB=>?_;walk_at "s";refine RZ (d:=11) (n:=mi+1998) ?_;walk_at "s";have TB:=T9'.ext (xA.trans xB);refine adL TB.g ?_;rw[<- List.map_reverse];have xC:Ext hB (hB.push (.lst (T'.reverse.map W.int))):=.push;have TC:Trn m (hB.push (.lst (T'.reverse.map W.int))) hB.n T'.reverse:=⟨bN,aO,fun x mx=>TB.b x (List.mem_reverse.mp mx),List.pairwise_reverse.mpr (TB.d.imp fun n=>n.symm),by rw[List.length_reverse];exact TB.n⟩;generalize hB.push (.lst (T'.reverse.map W.int))=hC at *;have x4C:=x4A.trans (xB.trans xC);walk_at "s";refine un x4C TC fun hD xD=>?_;rw[uT];walk_at "s";refine RZ (d:=11) (n:=mi+1998) ?_;walk_at "s";have xAD:=xB.trans (xC.trans xD);have TD:=TA.ext xAD;have TD':=(T9.ext xA).ext xAD;have x4D:=x4A.trans xAD;clear TB TC uT xB xC xD x4C xAD;refine aah (d:=Dis T) (d':=Dis T) (A:=fun _=>True) (B:=fun _=>True) (Ja.mpr ⟨_,rfl,TD.l,trivial,TD.g⟩) (Ja.mpr ⟨_,rfl,TD'.l,trivial,TD'.g⟩) (WM _) (WM _) (aak _) (aak _) ?_;rw[J9];walk_at "s";refine un x4D TD fun hE xE=>?_;walk_at "s";rw[decide_eq_true rfl];walk_at "s";have xF:Ext hE (hE.push (.lst [])):=.push;have TF:Trn m (hE.push (.lst [])) hE.n []:=⟨bN,aO,fun _ z=>absurd z List.not_mem_nil,List.nodup_nil,Nat.zero_le _⟩;generalize hE.push (.lst [])=hF at *;have x4F:=x4D.trans (xE.trans xF);refine un x4F TF fun hG xG=>?_;have x4G:=x4F.trans xG;refine aQ.mpr (lun x4G rfl rfl fun hH xH=>?_);walk_at "s";refine⟨_,[],rfl,.push,aO,?_⟩;walk_at "s";rw[decide_eq_true rfl];walk_at "s";exact⟨_,_,_,_,_,_,_,_,_,_,rfl,x04.trans (x4G.trans (xH.trans .push))⟩
 · rintro τ h ⟨u1,u2,u3,u4,u5,u6,u7,u8,u9,u10,rfl,xh⟩;walk_at "s";rfl
end My
namespace My
open PySem L2 PyProof.Rows
open Ev
theorem aeo{P:Program}{w:World}{K:aq}{mg:Str->Option Value}{base:Heap}{a:Adr}(T:Txt w K mg a):bH P w K mg base (CXE P w) 164 a.wQ a.Mi ["_law_script"] Bc:=(Xe T 14).Mp.imp (adX rfl runs)
end My
namespace My
open PySem L2 PyProof.Rows Ev PySem.W
theorem all_mk{l:OpenLaw}{w:World}{K:Frag}{h:Heap}{mg:Str->Option Value}{fa:Addr}{oY qF u_ jL vd vf f_lean mR sJ lA mU lC sO mj rC yt lE jM qG oZ oF pW pX o4 mV mW iQ lF jm cA gR mY gU lH jN wQ bu qH qI qJ qK sS vg dJ fH gW jx iU dH dI dX jy cB cC bL d9 d_ eE eF fL gw jk uA uB uC uD:Addr}(X:K.In h)(G:h.Ns mainGlobals mg)(hfa:mg "law" =some (.ref fa))
 {aep Xu JB JC JD JF:Option Addr} {aeq JG JH JK JL:Array (Option Value)} {aer Xv Xw Xx Xy Py:Value} {zT zU zV zW:Int} {K3 K4 K5 K6:Tok} {Cd:Nat} {Hy Hz HB HD:Tok} {K7:Nat} {HF HH HJ:Tok} {K8:Nat} {HN HQ HR:Tok} {K9:Nat} {HS HW HX HY H9:Tok} {K_:Nat} {nR:Tok} {rG:Tok}
 (o6:∃ fd,DK K "seats_in" zj oY fd)
 (lR:∃ fd,DK K "meeting" Bg qF fd)
 (qL:∃ fd,DK K "guide" CV u_ fd)
 (jO:∃ fd,DK K "need_turned" ur jL fd)
 (qM:∃ fd,DK K "links" Jk vd fd)
 (vh:∃ fd,DK K "likes" CW vf fd)
 (ud:∃ fd,DK K "lean" Oe f_lean fd)
 (mZ:∃ fd,DK K "all_links" pP mR fd)
 (sU:∃ fd,DK K "uneven" zm sJ fd)
 (gj:∃ fd,DK K "unevenness" vL lA fd)
 (j_:∃ fd,DK K "need_ring" xj mU fd)
 (iB:∃ fd,DK K "all_unlike" vM lC fd)
 (sV:∃ fd,DK K "differ" vN sO fd)
 (mD:∃ fd,DK K "pairings" uN mj fd)
 (o7:∃ fd,DK K "starters" uO rC fd)
 (yu:∃ fd,DK K "fits" G6 yt fd)
 (jz:∃ fd,DK K "first_from" vO lE fd)
 (jP:∃ fd,DK K "first_adder" uv jM fd)
 (lU:∃ fd,DK K "planned" Bj qG fd)
 (o8:∃ fd,DK K "trios_of" uP oZ fd)
 (lK:∃ fd,DK K "_law_mixed" vP oF fd)
 (m5:∃ fd,DK K "_law_draw" xq pW fd)
 (m6:∃ fd,DK K "_law_cell" xr pX fd)
 (o9:∃ fd,DK K "_law_num" zq o4 fd)
 (fV:∃ fd,DK K "_law_same" tu mV fd)
 (ir:∃ fd,DK K "_law_step" xu mW fd)
 (iR:∃ fd,DK K "_law_starters" gh iQ fd)
 (lN:∃ fd,DK K "_law_adder" q_ lF fd)
 (jn:∃ fd,DK K "_law_planned" sH jm fd)
 (gY:∃ fd,DK K "_law_some_plan" bT cA fd)
 (gZ:∃ fd,DK K "_law_ring_rows" qx gR fd)
 (m7:∃ fd,DK K "_law_rows" xx mY fd)
 (g_:∃ fd,DK K "_law_rounds_of" qy gU fd)
 (jA:∃ fd,DK K "_law_signs" vQ lH fd)
 (iV:∃ fd,DK K "_law_uneven" uw jN fd)
 (aav:nsIn K mainGlobals "law" =some (some (.ref wQ)))
 (afs:K.lookup wQ=some ⟨aer,aep,.func (fnOf "law" "law" (kO tD) (d8 tD) (au tD) .none Xv Xw Xx Xu Py Xy),aeq⟩)
 (aes:codeIn K Py "law" =true)
 (aet:keepIn K (.ref wQ)=true)
 (Pz:nsIn K mainGlobals "StandError" =some (some (.ref bu)))
 (Xz:nsIn K mainGlobals "BadRing" =some (some (.ref qH)))
 (XC:nsIn K mainGlobals "BadPlan" =some (some (.ref qI)))
 (XD:nsIn K mainGlobals "NoRound" =some (some (.ref qJ)))
 (XF:nsIn K mainGlobals "NoTable" =some (some (.ref qK)))
 (ZF:nsIn K mainGlobals "NoPair" =some (some (.ref sS)))
 (abD:nsIn K mainGlobals "Twice" =some (some (.ref vg)))
 (aeu:nsIn K mainGlobals "Plan" =some (some (.ref dJ)))
 (h_:∃ fd,MK K dJ "__init__" "Plan.__init__" qz fH fd)
 (lO:∃ fd,MK K dJ "rounds" "Plan.rounds" sI gW fd)
 (oJ:∃ fd,MK K dJ "sets" "Plan.sets" vR jx fd)
 (mO:∃ fd,MK K dJ "pairs" "Plan.pairs" ux iU fd)
 (iD:∃ fd,MK K dJ "need_round" "Plan.need_round" ou dH fd)
 (iG:∃ fd,MK K dJ "need_table" "Plan.need_table" oA dI fd)
 (iZ:∃ fd,MK K dJ "need_pair" "Plan.need_pair" pG dX fd)
 (oM:∃ fd,MK K dJ "seat" "Plan.seat" vU jy fd)
 (fj:∃ fd,MK K dJ "one_field_seat" "Plan.one_field_seat" j7 cB fd)
 (fu:∃ fd,MK K dJ "two_field_seat" "Plan.two_field_seat" j8 cC fd)
 (fB:∃ fd,IK K bu "__init__" "StandError.__init__" j9 bL fd)
 (eG:∃ fd,IK K qH "__init__" "BadRing.__init__" nG d9 fd)
 (eN:∃ fd,IK K qI "__init__" "BadPlan.__init__" nH d_ fd)
 (eO:∃ fd,IK K qJ "__init__" "NoRound.__init__" nJ eE fd)
 (eU:∃ fd,IK K qK "__init__" "NoTable.__init__" nM eF fd)
 (fP:∃ fd,IK K sS "__init__" "NoPair.__init__" oE fL fd)
 (gC:∃ fd,IK K vg "__init__" "Twice.__init__" pH gw fd)
 (abE:plainGet K dJ Str.empty=true)
 (abF:hasDictIn K dJ=true)
 (abG:plainOver K dJ=true)
 (abH:findIn K (.ref dJ) "__setattr__" =some (some (.builtin "object.__setattr__")))
 (iC:findIn K (.ref dJ) "kind" =some none)
 (cV:findIn K (.ref dJ) "tables" =some none)
 (qj:findIn K (.ref dJ) "trios" =some none)
 (Jq:makesIn K dJ=true)
 (abI:keepIn K (.ref dJ)=true)
 (PB:uh K bu)
 (wV:XK1 K qH bu)
 (wW:XK1 K qI bu)
 (wY:XK1 K qJ bu)
 (wZ:XK1 K qK bu)
 (zH:XK1 K sS bu)
 (Dl:XK1 K vg bu)
 (ci1:specialIn K (.ref bu) "__getattribute__" =some (some (.builtin "type.__getattribute__")))
 (ci2:readsIn K bu (.type "type")=true)
 (ci3:findCls K (.ref bu) (.type "type") "__init__" =some (.val (.ref bL)))
 (ci4:handedIn (.ref bL)=true)
 (Qv:nsIn K mainGlobals "TABLES_OF" =some (some (.ref jk)))
 (PJ:K.lookup jk=some ⟨.type "dict",none,.dict (List.toArray [⟨zT,.str (nm [115,116,114,97,105,103,104,116]) K3,.ref uA⟩,⟨zU,.str (nm [115,107,105,112]) K4,.ref uB⟩,⟨zV,.str (nm [115,104,97,114,101,100]) K5,.ref uC⟩,⟨zW,.str (nm [114,105,110,103]) K6,.ref uD⟩]) Cd,#[]⟩)
 (La:zT=PyData.keyHash w.params (nm [115,116,114,97,105,103,104,116]))
 (Lb:K.lookup uA=some ⟨.type "tuple",JB,.seq (List.toArray [.int 3 Hy,.int 5 Hz,.int 7 HB,.int 9 HD]) K7,JG⟩)
 (Ld:zU=PyData.keyHash w.params (nm [115,107,105,112]))
 (Le:K.lookup uB=some ⟨.type "tuple",JC,.seq (List.toArray [.int 4 HF,.int 6 HH,.int 8 HJ]) K8,JH⟩)
 (Lf:zV=PyData.keyHash w.params (nm [115,104,97,114,101,100]))
 (Lg:K.lookup uC=some ⟨.type "tuple",JD,.seq (List.toArray [.int 4 HN,.int 6 HQ,.int 8 HR]) K9,JK⟩)
 (Lh:zW=PyData.keyHash w.params (nm [114,105,110,103]))
 (Li:K.lookup uD=some ⟨.type "tuple",JF,.seq (List.toArray [.int 2 HS,.int 3 HW,.int 4 HX,.int 5 HY,.int 6 H9]) K_,JL⟩)
 (PK:(jk==sysModules)=false)
 (FN:nsIn K mainGlobals "GREATEST_RING" =some (some (.int (11) nR)))
 (Lj:nsIn K mainGlobals "LEAST_RING" =some (some (.int (3) rG)))
 (vZ:nsIn K mainGlobals "ValueError" =some none)
 (Ur:nsIn K mainGlobals "abs" =some none)
 (Us:nsIn K mainGlobals "all" =some none)
 (BL:nsIn K mainGlobals "bool" =some none)
 (tR:nsIn K mainGlobals "enumerate" =some none)
 (Mj:nsIn K mainGlobals "int" =some none)
 (cJ:nsIn K mainGlobals "isinstance" =some none)
 (dw:nsIn K mainGlobals "len" =some none)
 (yx:nsIn K mainGlobals "list" =some none)
 (Ut:nsIn K mainGlobals "min" =some none)
 (bY:nsIn K mainGlobals "range" =some none)
 (Hq:nsIn K mainGlobals "set" =some none)
 (Ml:nsIn K mainGlobals "str" =some none)
 (Uu:nsIn K mainGlobals "sum" =some none)
 (Dd:nsIn K mainGlobals "tuple" =some none)
 (Mm:nsIn K mainGlobals "zip" =some none):
 ∃ fd:FuncData,(∀(s:Shared) (v:Value),BindsTo s fd ⟨[v],[]⟩ [("_law_script",v)])/\∀ base:Heap,K.In base->base.Ns mainGlobals mg->bH l.prog w K mg base (CXE l.prog w) 164 fa fd ["_law_script"] Bc:=by
 have e:=hfa.symm.trans (mg_of X G aav);cases e;obtain⟨uQ,o6⟩:=o6;obtain⟨wN,lR⟩:=lR;obtain⟨CZ,qL⟩:=qL;obtain⟨qe,jO⟩:=jO;obtain⟨C_,qM⟩:=qM;obtain⟨Dc,vh⟩:=vh;obtain⟨Hf,ud⟩:=ud;obtain⟨tH,mZ⟩:=mZ;obtain⟨zB,sU⟩:=sU;obtain⟨rz,gj⟩:=gj;obtain⟨tK,j_⟩:=j_;obtain⟨rA,iB⟩:=iB;obtain⟨zE,sV⟩:=sV;obtain⟨rB,mD⟩:=mD;obtain⟨zF,o7⟩:=o7;obtain⟨Hg,yu⟩:=yu;obtain⟨rD,jz⟩:=jz;obtain⟨qg,jP⟩:=jP;obtain⟨wO,lU⟩:=lU;obtain⟨uR,o8⟩:=o8;obtain⟨vY,lK⟩:=lK;obtain⟨xJ,m5⟩:=m5;obtain⟨xK,m6⟩:=m6;obtain⟨uU,o9⟩:=o9;obtain⟨tL,fV⟩:=fV;obtain⟨tM,ir⟩:=ir;obtain⟨nQ,iR⟩:=iR;obtain⟨rE,lN⟩:=lN;obtain⟨o5,jn⟩:=jn;obtain⟨mq,gY⟩:=gY;obtain⟨mz,gZ⟩:=gZ;obtain⟨tQ,m7⟩:=m7;obtain⟨mC,g_⟩:=g_;obtain⟨rF,jA⟩:=jA;obtain⟨qi,iV⟩:=iV;obtain⟨jw,h_⟩:=h_;obtain⟨lJ,lO⟩:=lO;obtain⟨oG,oJ⟩:=oJ;obtain⟨mK,mO⟩:=mO;obtain⟨iy,iD⟩:=iD;obtain⟨iz,iG⟩:=iG;obtain⟨iY,iZ⟩:=iZ;obtain⟨oH,oM⟩:=oM;obtain⟨eZ,fj⟩:=fj;obtain⟨e_,fu⟩:=fu;obtain⟨ig,fB⟩:=fB;obtain⟨jD,eG⟩:=eG;obtain⟨jE,eN⟩:=eN;obtain⟨jF,eO⟩:=eO;obtain⟨jG,eU⟩:=eU;obtain⟨jY,fP⟩:=fP;obtain⟨kI,gC⟩:=gC;have Mp:=Gh (st:=tD) afs aes aet;have JM:KTup K uA [3,5,7,9]:=fun H=>.inr ⟨_,_,_,Lb,rfl,rfl,(show 4<=sizeLine by decide),.cons ⟨_,rfl⟩ (.cons ⟨_,rfl⟩ (.cons ⟨_,rfl⟩ (.cons ⟨_,rfl⟩ (.nil))))⟩;have JN:KTup K uB [4,6,8]:=fun H=>.inr ⟨_,_,_,Le,rfl,rfl,(show 3<=sizeLine by decide),.cons ⟨_,rfl⟩ (.cons ⟨_,rfl⟩ (.cons ⟨_,rfl⟩ (.nil)))⟩;have JP:KTup K uC [4,6,8]:=fun H=>.inr ⟨_,_,_,Lg,rfl,rfl,(show 3<=sizeLine by decide),.cons ⟨_,rfl⟩ (.cons ⟨_,rfl⟩ (.cons ⟨_,rfl⟩ (.nil)))⟩;have JQ:KTup K uD [2,3,4,5,6]:=fun H=>.inr ⟨_,_,_,Li,rfl,rfl,(show 5<=sizeLine by decide),.cons ⟨_,rfl⟩ (.cons ⟨_,rfl⟩ (.cons ⟨_,rfl⟩ (.cons ⟨_,rfl⟩ (.cons ⟨_,rfl⟩ (.nil)))))⟩;have ql:Tq K w jk vV:=⟨⟨_,Cd,PJ,⟨⟨_,_,rfl,La⟩,⟨⟨_,_,rfl,Ld⟩,⟨⟨_,_,rfl,Lf⟩,⟨⟨_,_,rfl,Lh⟩,trivial⟩⟩⟩⟩,.cons JM (.cons JN (.cons JP (.cons JQ (.nil))))⟩,PK⟩;have T:Txt w K mg ⟨oY,_,qF,_,u_,_,jL,_,vd,_,vf,_,f_lean,_,mR,_,sJ,_,lA,_,mU,_,lC,_,sO,_,mj,_,rC,_,yt,_,lE,_,jM,_,qG,_,oZ,_,oF,_,pW,_,pX,_,o4,_,mV,_,mW,_,iQ,_,lF,_,jm,_,cA,_,gR,_,mY,_,gU,_,lH,_,jN,_,fa,_,fH,_,gW,_,jx,_,iU,_,dH,_,dI,_,dX,_,jy,_,cB,_,cC,_,bL,_,d9,_,d_,_,eE,_,eF,_,fL,_,gw,_,bu,qH,qI,qJ,qK,sS,vg,dJ,jk,nR,rG⟩:=⟨o6.df X G,lR.df X G,qL.df X G,jO.df X G,qM.df X G,vh.df X G,ud.df X G,mZ.df X G,sU.df X G,gj.df X G,j_.df X G,iB.df X G,sV.df X G,mD.df X G,o7.df X G,yu.df X G,jz.df X G,jP.df X G,lU.df X G,o8.df X G,lK.df X G,m5.df X G,m6.df X G,o9.df X G,fV.df X G,ir.df X G,iR.df X G,lN.df X G,jn.df X G,gY.df X G,gZ.df X G,m7.df X G,g_.df X G,jA.df X G,iV.df X G,⟨Mp,fbn Mp,mg_of X G aav⟩,h_.F,fbn h_.F,lO.F,fbn lO.F,lO.mt,oJ.F,fbn oJ.F,oJ.mt,mO.F,fbn mO.F,mO.mt,iD.F,fbn iD.F,iD.mt,iG.F,fbn iG.F,iG.mt,iZ.F,fbn iZ.F,iZ.mt,oM.F,fbn oM.F,oM.mt,fj.F,fbn fj.F,fj.mt,fu.F,fbn fu.F,fu.mt,fB.F,fbn fB.F,eG.F,fbn eG.F,eN.F,fbn eN.F,eO.F,fbn eO.F,eU.F,fbn eU.F,fP.F,fbn fP.F,gC.F,fbn gC.F,⟨abE,abF,abG,abH⟩,iC,cV,qj,⟨Jq,h_.a,h_.n,abI⟩,mg_of X G aeu,⟨wV.X,eG.a,eG.n,wV.k⟩,wV.s,wV.w,mg_of X G Xz,⟨wW.X,eN.a,eN.n,wW.k⟩,wW.s,wW.w,mg_of X G XC,⟨wY.X,eO.a,eO.n,wY.k⟩,wY.s,wY.w,mg_of X G XD,⟨wZ.X,eU.a,eU.n,wZ.k⟩,wZ.s,wZ.w,mg_of X G XF,⟨zH.X,fP.a,fP.n,zH.k⟩,zH.s,zH.w,mg_of X G ZF,⟨Dl.X,gC.a,gC.n,Dl.k⟩,Dl.s,Dl.w,mg_of X G abD,PB,⟨ci1,ci2,ci3,ci4,fB.F.kp⟩,mg_of X G Pz,ql,mg_of X G Qv,mg_of X G FN,mg_of X G Lj,mg_none_of X G vZ,mg_none_of X G Ur,mg_none_of X G Us,mg_none_of X G BL,mg_none_of X G tR,mg_none_of X G Mj,mg_none_of X G cJ,mg_none_of X G dw,mg_none_of X G yx,mg_none_of X G Ut,mg_none_of X G bY,mg_none_of X G Hq,mg_none_of X G Ml,mg_none_of X G Uu,mg_none_of X G Dd,mg_none_of X G Mm⟩;exact⟨fnOf "law" "law" (kO tD) (d8 tD) (au tD) .none Xv Xw Xx Xu Py Xy,fun s v=>.of_eq rfl,fun base _ _=>aeo T⟩
end My
end
namespace PySem.W.Fast
def tw13987368132363979421:=Nat
def tw611929765172013789:=Nat
def tw3812433753518895837:=Nat
def tw8422296671406247869:=Nat
def tw6680341340263916029:=Nat
def tw9870333560094896989:=Nat
def tw10966282704637207101:=Nat
def tw17015253989063763261:=Nat
def tw2219194731724069021:=Nat
def tw15382501172751902589:=Nat
def tw15600690545603455197:=Nat
def tw8052296841514844381:=Nat
def tw9668358566874598173:=Nat
def tw17918386287188282365:=Nat
def tw17890224051978058077:=Nat
def tw17746595348171473981:=Nat
def tw6769662637778198076:=Nat
def tw7911056584307701884:=Nat
def tw7364192240611768796:=Nat
def tw16461442083176231580:=Nat
def tw7794319248559078908:=Nat
def tw6034192141879081308:=Nat
def tw13906604954619466812:=Nat
def tw5519552591646194300:=Nat
def tw6414573721628210812:=Nat
def tw12644454204780402780:=Nat
def tw10032392534432954748:=Nat
def tw12179427302651455868:=Nat
def tw1656941685484356316:=Nat
def tw17291606875022102524:=Nat
def tw4413847837717187615:=Nat
def tw11104646682301362143:=Nat
def tw14990156619443315679:=Nat
def tw17031739454626067263:=Nat
def tw7856272977438737119:=Nat
def tw14823089089074343359:=Nat
def tw5268447706796761087:=Nat
def tw10493280269903476063:=Nat
def tw5222198324701555263:=Nat
def tw9619871867315940831:=Nat
def tw741561489701240894:=Nat
def tw6800584228869505086:=Nat
def tw4518066171354004606:=Nat
def tw14656727571173773438:=Nat
def tw8870941939286770654:=Nat
def tw13913076935668647902:=Nat
def tw15776738952879417022:=Nat
def tw7570258612076868478:=Nat
def tw931742180512491390:=Nat
def tw1715031391146634110:=Nat
def tw5808106083840527070:=Nat
def tw17365372481613296062:=Nat
def tw3090266963203596062:=Nat
def tw11936213555229174558:=Nat
def tw14663513563313103646:=Nat
def tw15186517516059930398:=Nat
def tw2642548038316829694:=Nat
def tw12512593138773095326:=Nat
def tw5083766321190951454:=Nat
def tw16683874749597377278:=Nat
def tw5656480395450786462:=Nat
def tw7368180695015621833:=Nat
def tw7730954636585227689:=Nat
def tw10936522298276401641:=Nat
def tw14163123959245922921:=Nat
def tw15164569143960303113:=Nat
def tw4612447883824985897:=Nat
def tw17033215748893078217:=Nat
def tw3553495131570960937:=Nat
def tw14341273507100019593:=Nat
def tw11228415518516029545:=Nat
def tw8462960107200525321:=Nat
def tw11957988241351344696:=Nat
def tw6003412047613177528:=Nat
def tw3056792615359807128:=Nat
def tw18438143164288624408:=Nat
def tw8445116366910754328:=Nat
def tw13043233216887144824:=Nat
def tw1517883073173657304:=Nat
def tw10563007260600695064:=Nat
def tw3485445405912829208:=Nat
def tw3473313926713298936:=Nat
def tw12450960749274414936:=Nat
def tw12182858746069512024:=Nat
def tw17811936554609385995:=Nat
def tw7032060416952704075:=Nat
def tw17207696407601573291:=Nat
def tw6062075521332444811:=Nat
def tw4394459372266716139:=Nat
def tw11969717007980628075:=Nat
def tw6205262630720230219:=Nat
def tw105731953647417739:=Nat
def tw1116311682172159371:=Nat
def tw5304362264630084555:=Nat
def tw15653569941023627211:=Nat
def tw641085483671756075:=Nat
def tw1052837107061187595:=Nat
def tw17021319854916265547:=Nat
def tw4746273788604981739:=Nat
def tw17635559335186067947:=Nat
def tw8304998027061890763:=Nat
def tw15256199863391831659:=Nat
def tw2715685014249956683:=Nat
def tw7407545473680620203:=Nat
def tw10349841662964221611:=Nat
def tw9937226329283441099:=Nat
def tw2377624812903371834:=Nat
def tw9484367747587208602:=Nat
def tw518889150484235386:=Nat
def tw7320920346582229978:=Nat
def tw4648059975724552218:=Nat
def tw14517216923641531994:=Nat
def tw3640819726415755706:=Nat
def tw7518881071515181498:=Nat
def tw5839670216231577498:=Nat
def tw12601613229968191098:=Nat
def tw16681979008871346362:=Nat
def tw7516648542730273306:=Nat
def tw6316188830388342874:=Nat
def tw13469636930044724538:=Nat
def tw5466018205187671418:=Nat
def tw5272788273051192250:=Nat
def tw14722421233331588026:=Nat
def tw16989303656330312986:=Nat
def tw16419350079386756869:=Nat
def tw12482732275794043365:=Nat
def tw17189832212706736165:=Nat
def tw12839671025043009125:=Nat
def tw1706018113224518245:=Nat
def tw291639282552737957:=Nat
def tw15471043173693046853:=Nat
def tw17127632424450813061:=Nat
def tw806830442793167205:=Nat
def tw9476174039863375557:=Nat
def tw14283277741441088197:=Nat
def tw3577637654111263269:=Nat
def tw4806509586450819973:=Nat
def tw4280281396848601989:=Nat
def tw9174679143441974949:=Nat
def tw11610701034484686405:=Nat
def tw9285977248049226373:=Nat
def tw3047102563600151236:=Nat
def tw4589081518346590628:=Nat
def tw982504749688911268:=Nat
def tw5746255514685565188:=Nat
def tw9893409427603760004:=Nat
def tw8175412469421142756:=Nat
def tw17997545467446314628:=Nat
def tw1319108765697842084:=Nat
def tw15333062832873836452:=Nat
def tw8019917710031959716:=Nat
def tw18118786034720718340:=Nat
def tw3497446204017734151:=Nat
def tw14040278380977951239:=Nat
def tw5287973053377532647:=Nat
def tw11748897238650081479:=Nat
def tw1389152209464123207:=Nat
def tw8326051873066321735:=Nat
def tw17687676963862845543:=Nat
def tw10332534693448564679:=Nat
def tw6506138201726306247:=Nat
def tw406636753994081063:=Nat
def tw3272242978187320455:=Nat
def tw12776932872787381383:=Nat
def tw7061063113200321063:=Nat
def tw12550197869452714887:=Nat
def tw11762288918068362855:=Nat
def tw7655808895339000262:=Nat
def tw7065780031930290406:=Nat
def tw9060896417135156518:=Nat
def tw5722248570357617958:=Nat
def tw1123457444456836294:=Nat
def tw14343937282484999942:=Nat
def tw11792045841124031462:=Nat
def tw13839556010027325382:=Nat
def tw5634750013734896326:=Nat
def tw2471034040983743398:=Nat
def tw12572310497547328774:=Nat
def tw13895541294853815782:=Nat
def tw1822617434429515302:=Nat
def tw6742637710915871921:=Nat
def tw17550606376429508337:=Nat
def tw9540841334492582705:=Nat
def tw3228447094655287313:=Nat
def tw5043679597364716913:=Nat
def tw5003285045405787729:=Nat
def tw2435163736747426737:=Nat
def tw16384026984182503057:=Nat
def tw10064358559284941457:=Nat
def tw5362378618462462449:=Nat
def tw1405255700014281201:=Nat
def tw8540947179012548817:=Nat
def tw15382067832850654417:=Nat
def tw14958315388330156369:=Nat
def tw5465713403833529009:=Nat
def tw10973328914684596625:=Nat
def tw14995278256270552017:=Nat
def tw16041770366120064081:=Nat
def tw16246301045009220305:=Nat
def tw2355248852881388145:=Nat
def tw6323652266732905696:=Nat
def tw13772146104582592864:=Nat
def tw3306389864105863232:=Nat
def tw13168704992668698016:=Nat
def tw1702924313339082368:=Nat
def tw13477668233500655872:=Nat
def tw2952867202104493152:=Nat
def tw11772206443309453024:=Nat
def tw5470307687395925856:=Nat
def tw1851701919562149728:=Nat
def tw10094045577741363776:=Nat
def tw12532364941421705792:=Nat
def tw12621554284158687136:=Nat
def tw205672695429746720:=Nat
def tw1415523377148769024:=Nat
def tw11477138472739085920:=Nat
def tw17945729883343889728:=Nat
def tw15778738067213445792:=Nat
def tw12244050206823811475:=Nat
def tw1148965819278408083:=Nat
def tw7571089615883713267:=Nat
def tw29192198041500243:=Nat
def tw11207581031740041363:=Nat
def tw9088576259237179891:=Nat
def tw9056499035212499187:=Nat
def tw6105502585758032531:=Nat
def tw6251219610367901683:=Nat
def tw2031900256636015155:=Nat
def tw16072808411404034899:=Nat
def tw6342393891543289218:=Nat
def tw17913393868193922050:=Nat
def tw18437029395022668354:=Nat
def tw6782320712357314306:=Nat
def tw13006687440459775010:=Nat
def tw17843401095795175362:=Nat
def tw15573970436886532034:=Nat
def tw15355671001743701506:=Nat
def tw5292989034807145250:=Nat
def tw2786441468286645890:=Nat
def tw7702500809339640162:=Nat
def tw1021108161110831010:=Nat
def tw17377398758102894850:=Nat
def tw12955240656067771202:=Nat
def tw3276551824725784098:=Nat
def tw16401839523237816205:=Nat
def tw4803554497060510157:=Nat
def tw3566386023404675565:=Nat
def tw7547856215742395885:=Nat
def tw6771947533768181965:=Nat
def tw3804591042086818925:=Nat
def tw5389034578713913037:=Nat
def tw14856850872945339437:=Nat
def tw9452748199708856076:=Nat
def tw6398427869763934988:=Nat
def tw210385683403161356:=Nat
def tw14811973466053648044:=Nat
def tw3377166723298749388:=Nat
def tw13513470830883567116:=Nat
def tw15463261435505156620:=Nat
def tw12537271340662215532:=Nat
def tw16059577515152867756:=Nat
def tw14024771800731796908:=Nat
def tw17072261059605661836:=Nat
def tw12807336851783954572:=Nat
def tw15484063557963682604:=Nat
def tw12569402470852014092:=Nat
def tw7505272841234497612:=Nat
def tw672864012172612524:=Nat
def tw12212355775433570220:=Nat
def tw8507167931785350796:=Nat
def tw3324047724201914543:=Nat
def tw3107855080063988111:=Nat
def tw17268859278071666063:=Nat
def tw7550235039050092271:=Nat
def tw18263969646319981295:=Nat
def tw14299957676035466191:=Nat
def tw131115488528136047:=Nat
def tw12161150777247537007:=Nat
def tw16987304715309318735:=Nat
def tw2962626912245407215:=Nat
def tw3804715246601867887:=Nat
def tw10623777513634409135:=Nat
def tw15036898485619934895:=Nat
def tw4864200321038744463:=Nat
def tw1252764302190348751:=Nat
def tw8949940164177051439:=Nat
def tw16439024295377978735:=Nat
def tw4341490633678256495:=Nat
def tw17455906388327736399:=Nat
def tw15323378900185306671:=Nat
def tw13080975517047942991:=Nat
def tw10867883246349181710:=Nat
def tw8551487897083214606:=Nat
def tw17222968532353546350:=Nat
def tw13167033785175804238:=Nat
def tw10701800522008900942:=Nat
def tw13263749401634135566:=Nat
def tw8034133179098272622:=Nat
def tw3203471225562617710:=Nat
def tw16149468608572472750:=Nat
def tw11310964465133508238:=Nat
def tw7835038916350486158:=Nat
def tw4472494709351557102:=Nat
def tw11578719411349568494:=Nat
def tw10942473039830221358:=Nat
def tw5151692825002758414:=Nat
def tw11885237310497274478:=Nat
def tw1855008253359908014:=Nat
def tw5299658041749714222:=Nat
def tw11940637435375846766:=Nat
def tw15449061057424697934:=Nat
def tw715513631189542030:=Nat
def tw17671666772012187790:=Nat
def tw13379678409790613998:=Nat
def tw613669955876132046:=Nat
def tw9547122628708788793:=Nat
def tw6911664103631258009:=Nat
def tw9951499593856158009:=Nat
def tw5522430662089754617:=Nat
def tw12507251446620754937:=Nat
def tw4181295339678560601:=Nat
def tw6087201686764037305:=Nat
def tw10974487939921322745:=Nat
def tw8637648503028766809:=Nat
def tw8225970024494293721:=Nat
def tw2414140010549966777:=Nat
def tw13288116715888668601:=Nat
def tw3833814092825430297:=Nat
def tw15533920712061419432:=Nat
def tw13313357383768222184:=Nat
def tw11328488981281231688:=Nat
def tw7179988835494189000:=Nat
def tw1432468707595434504:=Nat
def tw7729060180463133192:=Nat
def tw16962597556265588296:=Nat
def tw3438427451998725928:=Nat
def tw2466253165114802984:=Nat
def tw14270797278234151048:=Nat
def tw4662380619522280808:=Nat
def tw15930523062272536104:=Nat
def tw8467802572070660264:=Nat
def tw14375406733327398632:=Nat
def tw11193965772273429224:=Nat
def tw13268414950963181640:=Nat
def tw15787325011245205704:=Nat
def tw12864971638440465115:=Nat
def tw16965309762972302619:=Nat
def tw14808730187273957371:=Nat
def tw17073372792321804283:=Nat
def tw11172149688485720059:=Nat
def tw12370670606045269563:=Nat
def tw14875772722699531739:=Nat
def tw5268277154191048155:=Nat
def tw10124186012225756347:=Nat
def tw14567908734152682587:=Nat
def tw5246075974896348251:=Nat
def tw11749101094835451099:=Nat
def tw3152259014618006747:=Nat
def tw128488924960286203:=Nat
def tw15739838750761204795:=Nat
def tw2232840856522463643:=Nat
def tw15062589323626444411:=Nat
def tw1245207919803088571:=Nat
def tw9593446401963940379:=Nat
def tw13276865417047781915:=Nat
def tw3894720443430665819:=Nat
def tw3177267153220344234:=Nat
def tw8753490711485626698:=Nat
def tw5270071321146411914:=Nat
def tw18109328572900239978:=Nat
def tw4604382681569300554:=Nat
def tw4965207497557248074:=Nat
def tw849549111831348010:=Nat
def tw10086500969974906506:=Nat
def tw2163540104604185290:=Nat
def tw9205761484291605770:=Nat
def tw899958031544130826:=Nat
def tw16395643086028171370:=Nat
def tw11716523892115271786:=Nat
def tw16486341269054142922:=Nat
def tw1049139033907774922:=Nat
def tw9393538703727277290:=Nat
def tw1638528699473009962:=Nat
def tw11780997542002585738:=Nat
def tw14093203557319317706:=Nat
def tw3234150633085036661:=Nat
def tw13632145779621821397:=Nat
def tw7893770045574327605:=Nat
def tw1959493809509035893:=Nat
def tw17394108352143413685:=Nat
def tw8580960088310062517:=Nat
def tw7092130964767101941:=Nat
def tw7856081678374543061:=Nat
def tw12836653672929319637:=Nat
def tw14682345491962760245:=Nat
def tw15190016708898781813:=Nat
def tw10989396712374637749:=Nat
def tw3154056697137828021:=Nat
def tw7669043292142903029:=Nat
def tw13365184065108362613:=Nat
def tw4446607694433270357:=Nat
def tw3661079753266043829:=Nat
def tw8502307972757615093:=Nat
def tw6144373705658584660:=Nat
def tw7885316518626960820:=Nat
def tw7448435789033152852:=Nat
def tw4763809796473315508:=Nat
def tw18178179168632016052:=Nat
def tw15298478760575839892:=Nat
def tw7439941328582393844:=Nat
def tw5892436973629009108:=Nat
def tw16345943060602851892:=Nat
def tw2689933188809839380:=Nat
def tw44403326661025908:=Nat
def tw12677603111508324180:=Nat
def tw5549074862638994260:=Nat
def tw15181299778992102804:=Nat
def tw607736829707007380:=Nat
def tw4890749246214944052:=Nat
def tw18193059818436223860:=Nat
def tw4955225769898317684:=Nat
def tw4419268007481968343:=Nat
def tw14301623022010502327:=Nat
def tw10511450225175060791:=Nat
def tw1608298839751714455:=Nat
def tw4649509824451713911:=Nat
def tw17150290302682643671:=Nat
def tw4953800311469337431:=Nat
def tw6415547605629020119:=Nat
def tw10623541206131140567:=Nat
def tw13119545546244869815:=Nat
def tw12697690457419289271:=Nat
def tw11836519434879456503:=Nat
def tw6921596191207257462:=Nat
def tw1333222677846743254:=Nat
def tw18082263254129527286:=Nat
def tw9681786182300330486:=Nat
def tw6061852993138419542:=Nat
def tw1877681357620380054:=Nat
def tw2196174462859599990:=Nat
def tw16809925325180533334:=Nat
def tw5533857098392030806:=Nat
def tw4241429326471541622:=Nat
def tw17682845046497195734:=Nat
def tw2353403825337018358:=Nat
def tw12953147628361089014:=Nat
def tw5827114353326977590:=Nat
def tw9039338528879209078:=Nat
def tw18348411654327080481:=Nat
def tw6846184334395840385:=Nat
def tw17568787130231702177:=Nat
def tw11014506991173364449:=Nat
def tw16729009874854103681:=Nat
def tw12475365935543978145:=Nat
def tw10394546848517557761:=Nat
def tw3572970672020725249:=Nat
def tw2800052824287422977:=Nat
def tw6188021707588612161:=Nat
def tw5562956525298803489:=Nat
def tw3260301501820178209:=Nat
def tw13200583514046020737:=Nat
def tw578748690702766433:=Nat
def tw2540614482411939073:=Nat
def tw11965915428578312624:=Nat
def tw8851521591140242576:=Nat
def tw13038445913328700560:=Nat
def tw11897690062619091440:=Nat
def tw11193392220757018896:=Nat
def tw4414643804285316720:=Nat
def tw8851582788955734928:=Nat
def tw7156291881632938000:=Nat
def tw18192810281373509712:=Nat
def tw9034445411648854960:=Nat
def tw10504232955014535376:=Nat
def tw7583884121435530352:=Nat
def tw12036209828823193264:=Nat
def tw8064937500556662160:=Nat
def tw13990422546555774256:=Nat
def tw17188110041939127600:=Nat
def tw17436812537516560912:=Nat
def tw17952154584301893667:=Nat
def tw7933917497662758947:=Nat
def tw553230923243970595:=Nat
def tw15933208108348990499:=Nat
def tw3675159148406305155:=Nat
def tw9084747857144552835:=Nat
def tw18201746321051723139:=Nat
def tw12816408289740961891:=Nat
def tw11651569392851872867:=Nat
def tw3817182487282938819:=Nat
def tw13159880540910799651:=Nat
def tw2030945498403968131:=Nat
def tw9068825230932171907:=Nat
def tw14028300349321342659:=Nat
def tw1929577770797274883:=Nat
def tw8601649240316771299:=Nat
def tw7375274664718603235:=Nat
def tw17046716892036800035:=Nat
def tw269063819243910883:=Nat
def tw16658091195214337763:=Nat
def tw7413219281840384291:=Nat
def tw4884676312009093763:=Nat
def tw4066482570356946851:=Nat
def tw218747128139194627:=Nat
def tw16335914947337068803:=Nat
def tw11716421229410104579:=Nat
def tw7701524543948297027:=Nat
def tw10124616836036014915:=Nat
def tw6202596233264613187:=Nat
def tw1711480254649566674:=Nat
def tw10682821515048749522:=Nat
def tw3997699358150697426:=Nat
def tw17855085710122844530:=Nat
def tw2005456602267288146:=Nat
def tw7796524450177331410:=Nat
def tw3967804369282377042:=Nat
def tw6291179920785213106:=Nat
def tw5290145236789103858:=Nat
def tw14566982483837331410:=Nat
def tw1093201388156829490:=Nat
def tw3020125003184507698:=Nat
def tw4245225138279446130:=Nat
def tw12907666060491268946:=Nat
def tw4376233707712195410:=Nat
def tw3767898562026607300:=Nat
def tw18276652069152798072:=Nat
def tw9169375605171336630:=Nat
def tw12334853168616722986:=Nat
def tw1374519155733814831:=Nat
def tw15099963750364928162:=Nat
def tw9123887393259362783:=Nat
def tw14336635213387918409:=Nat
def tw11460805437198176336:=Nat
def tw10992591909175708142:=Nat
def tw8826053564192361977:=Nat
def tw11757328887828151948:=Nat
def tw8973716315111889679:=Nat
def tw10177746822311108103:=Nat
def tw17762273619130884038:=Nat
def tw8813269476234577555:=Nat
def tw7280161260133271362:=Nat
def tw5653672118240250164:=Nat
end PySem.W.Fast
open PySem PySem.W PyProof.Rows
set_option maxRecDepth 100000 in
set_option maxHeartbeats 0 in
theorem PySem.Challenge.cw_byestand_k23_unevenness_told_holds : PySem.Challenge.rw_byestand_k23_unevenness_told.Holds := by
 w_on;o_law;k_head;(case hw=>w_witness2)
 k_fill
 refine Ev.afc (l:=PySem.Challenge.rw_byestand_k23_unevenness_told) (k:=164) rfl rfl ⟨rfl,by decide,by decide⟩ (fun w h Y=>PySem.W.kIn_of Y) (fun P=>rfl) ?F
 case F=>
  intro w mg fa h KX G hmg;refine' My.all_mk KX G hmg (Ev.cj ?_ ?_ ?_ ?_) (Ev.cj ?_ ?_ ?_ ?_) (Ev.cj ?_ ?_ ?_ ?_) (Ev.cj ?_ ?_ ?_ ?_) (Ev.cj ?_ ?_ ?_ ?_) (Ev.cj ?_ ?_ ?_ ?_) (Ev.cj ?_ ?_ ?_ ?_) (Ev.cj ?_ ?_ ?_ ?_) (Ev.cj ?_ ?_ ?_ ?_) (Ev.cj ?_ ?_ ?_ ?_) (Ev.cj ?_ ?_ ?_ ?_) (Ev.cj ?_ ?_ ?_ ?_) (Ev.cj ?_ ?_ ?_ ?_) (Ev.cj ?_ ?_ ?_ ?_) (Ev.cj ?_ ?_ ?_ ?_) (Ev.cj ?_ ?_ ?_ ?_) (Ev.cj ?_ ?_ ?_ ?_) (Ev.cj ?_ ?_ ?_ ?_) (Ev.cj ?_ ?_ ?_ ?_) (Ev.cj ?_ ?_ ?_ ?_) (Ev.cj ?_ ?_ ?_ ?_) (Ev.cj ?_ ?_ ?_ ?_) (Ev.cj ?_ ?_ ?_ ?_) (Ev.cj ?_ ?_ ?_ ?_) (Ev.cj ?_ ?_ ?_ ?_) (Ev.cj ?_ ?_ ?_ ?_) (Ev.cj ?_ ?_ ?_ ?_) (Ev.cj ?_ ?_ ?_ ?_) (Ev.cj ?_ ?_ ?_ ?_) (Ev.cj ?_ ?_ ?_ ?_) (Ev.cj ?_ ?_ ?_ ?_) (Ev.cj ?_ ?_ ?_ ?_) (Ev.cj ?_ ?_ ?_ ?_) (Ev.cj ?_ ?_ ?_ ?_) (Ev.cj ?_ ?_ ?_ ?_) ?_ ?_ ?_ ?_ ?_ ?_ ?_ ?_ ?_ ?_ ?_ ?_ (Ev.sZ ?_ ?_ ?_ ?_ ?_) (Ev.sZ ?_ ?_ ?_ ?_ ?_) (Ev.sZ ?_ ?_ ?_ ?_ ?_) (Ev.sZ ?_ ?_ ?_ ?_ ?_) (Ev.sZ ?_ ?_ ?_ ?_ ?_) (Ev.sZ ?_ ?_ ?_ ?_ ?_) (Ev.sZ ?_ ?_ ?_ ?_ ?_) (Ev.sZ ?_ ?_ ?_ ?_ ?_) (Ev.sZ ?_ ?_ ?_ ?_ ?_) (Ev.sZ ?_ ?_ ?_ ?_ ?_) (Ev.yV ?_ ?_ ?_ ?_ ?_) (Ev.yV ?_ ?_ ?_ ?_ ?_) (Ev.yV ?_ ?_ ?_ ?_ ?_) (Ev.yV ?_ ?_ ?_ ?_ ?_) (Ev.yV ?_ ?_ ?_ ?_ ?_) (Ev.yV ?_ ?_ ?_ ?_ ?_) (Ev.yV ?_ ?_ ?_ ?_ ?_) ?_ ?_ ?_ ?_ ?_ ?_ ?_ ?_ ?_ (Ev.aeZ ?_ ?_ ?_ ?_) (Ev.CN ?_ ?_ ?_ ?_ ?_ ?_ ?_ ?_) (Ev.CN ?_ ?_ ?_ ?_ ?_ ?_ ?_ ?_) (Ev.CN ?_ ?_ ?_ ?_ ?_ ?_ ?_ ?_) (Ev.CN ?_ ?_ ?_ ?_ ?_ ?_ ?_ ?_) (Ev.CN ?_ ?_ ?_ ?_ ?_ ?_ ?_ ?_) (Ev.CN ?_ ?_ ?_ ?_ ?_ ?_ ?_ ?_) ?_ ?_ ?_ ?_ ?_ ?_ ?_ ?_ ?_ ?_ ?_ ?_ ?_ ?_ ?_ ?_ ?_ ?_ ?_ ?_ ?_ ?_ ?_ ?_ ?_ ?_ ?_ ?_ ?_ ?_ ?_ ?_ ?_
  all_goals try first | k_is | rfl
